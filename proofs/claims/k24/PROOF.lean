import PyProof.Rows.All
import Wide.All
import OpenK.AllK
import Wide.FinOn
import PyProof.ToksMono
import Lean
import PyProof.EqAt
import PyProof.EqKinds
import PyProof.TupleCall
import PyProof.NeKinds
import PyProof.ZipIter
import PyProof.StrWalks
import PyProof.ConsumeWalk
import PyProof.ExcArgs
import PyProof.ExcBaseAll.ValueError
import KE.KIsAll
import PyProof.EnumFor
import PyProof.EnumMake
import PyProof.EnumStmt
import PyProof.Rows.EnumRows
import PyProof.DictWalks
import PyProof.Rows.SetFrom
import PyProof.DictItems
import KE.KDictList
import PyProof.TupleIter
import PyProof.RulesRaise
import PyProof.RulesTry
import PyProof.MeetsIn
import KE.KEqDict
import PyProof.StrOps2
import PyProof.StrCalls6
import PyProof.ListMulRoad
import PyProof.FactsAll.tuple
import KE.KSortTup
import PyProof.Rows.Range3
import PyProof.Rows.ChunkLeaf
import PyProof.StationsW
import PyProof.PassesOwn
import PyProof.NsDelKeeps
import OpenK.ZGo
import PySem.Challenge.RW_manyleaf_k24_contents_edited
set_option Elab.async false
set_option linter.all false
set_option maxRecDepth 100000
section
open Array renaming length_toList→bS,getElem?_toList→bU,getElem?_setIfInBounds_ne→b9,size_setIfInBounds→cM,getElem?_setIfInBounds_self_of_lt→c9,getElem?_eq_some_iff→dA,perm_iff_toList_perm→ft,getElem?_eq_getElem→fC,map→iu
open Bool renaming false_ne_true→aj,and_eq_true→au,or_eq_true→cv,beq_eq_decide_eq→c_,eq_iff_iff→df,or_true→dQ,false_eq_true→dX,not_eq_true'→fP,and_false→hX,false_and→hY
open Classical renaming propDecidable→dY,byContradiction→fD
open False renaming elim→b6
open ForInStep renaming yield→dg
open Int renaming emod_lt_of_pos→cf,emod_nonneg→cO,toNat_natCast→cP,toNat_of_nonneg→dM
open LawfulBEq renaming eq_of_beq→bG
open List renaming size_toArray→al,getElem?_eq_getElem→aq,getD_eq_getElem?_getD→ar,length_map→aw,mem_cons→ax,length_append→aH,mem_cons_of_mem→aJ,not_mem_nil→aK,getElem?_eq_some_iff→aN,all_eq_true→aR,length_cons→aS,mem_append_right→aW,getElem?_map→aY,length_take→aZ,contains_cons→a_,map_cons→ba,all_cons→bj,map_append→bn,length_drop→br,mem_of_getElem?→bC,mem_singleton→bF,getElem?_eq_none→bI,nodup_cons→bJ,mem_append→bX,getElem_mem→cg,getElem?_cons_succ→cj,take_of_length_le→cx,range→cB,length_set→cQ,lookup→cW,mem_cons_self→c6,pairwise_cons→c7,find?_cons→dj,mem_map→dm,toArray→dq,any_cons→dw,getElem?_append_right→dB,mem_append_left→dD,mem_of_mem_drop→dE,mem_of_mem_take→dF,getElem?_cons_zero→dZ,map_drop→d6,map_take→d7,getElem?_set_self→eF,eraseIdxIfInBounds_toArray→eJ,mem_range→eL,getElem?_set_ne→eT,append_nil→eY,filterMap_cons→eZ,map_nil→fz,map_singleton→fA,getElem?_append_left→fF,mem_or_eq_of_mem_set→fG,take_add_one→fQ,cons_append→gr,Perm→gP,all_append→gQ,length_nil→gR,map_map→gS,mem_filter→gT,of_mem_zip→gU,replicate→hZ,map_congr_left→ic,map→ix,mem_filterMap→iy
open List.Perm renaming refl→fE
open Nat renaming le_refl→ae,lt_of_lt_of_le→av,le_trans→aD,ne_of_lt→aL,le_add_right→a0,zero_le→bT,lt_of_le_of_lt→cD,le_succ→cJ,succ_le_succ→dI,lt_irrefl→d8,le_of_ble_eq_true→eM,ne_of_gt→eN,lt_succ_self→eP,le_of_lt→gW,le_of_eq→i3,max→jl
open Ne renaming symm→cK
open Option renaming some→bo,bind_some→bQ,isSome_iff_exists→cR,map_eq_some_iff→eG,isNone_iff_eq_none→fH,isSome_map→fR
open Option.some renaming inj→aM
open Or renaming inl→a9
open PyProof renaming noPylong_small→gI
open PyProof.Rows renaming slot_tuple_getitem→bw,seqObj→cw,callWith_type1→e_,get?_update_seq→fk,tail_of_ItemOn→fL,boot_tuple→f6,listUpdate_at→gk,boot_list→gH,subscriptTail_builtinR→gL,AllBare→gO,boot_int→gX,seqEpoch_at→iq,subscriptTail→iL,envOfC→i7,bubble→jj,general'→jq,IsTup→jt
open PyProof.Rows.SortSt renaming mk'→iQ
open PySem renaming wpAny_bind→ag,Shared→ah,FuncData→ai,wpAny_pure→am,mainGlobals→aB,Program→aE,wpAny→aI,wpAny_loadPart_at→aP,Around→aT,Spec→bg,Builtin→bi,World→bq,wpAny_holding→bv,mem_of_lookup→bA,wpAny_with_toks→bB,sizeLine_eq→bD,wpAny_isSubtype_exc→bL,NameKind→bN,wpAny_mono→bP,compareOp→bY,wpAny_Call_Name_kw→bZ,wpAny_field→cb,starEach→cn,bootBuiltins→cq,assignEach→cu,tupleKind_room_in1→cG,codeAny_call_builtin→cL,sysModules→cS,wpAny_newObj_type→cT,wpAny_truthy_bool→cU,Within→cV,excClassObj→cY,wpAny_standAt→cZ,foldedSetIterable→dy,wpAny_call→dz,codeAny→dP,typeLookup→dW,binaryOp→ef,wpAny_passesOwn→eh,sliceBounds→eK,codeAny_mono→eO,checkBuiltinCall→eQ,wpAny_call_entry→eR,Paired→eU,PassesOwn→e8,letOwnedTupleGo→fq,call_meetsIn→fB,codeAny_call_builtin_code→fJ,relabel→fK,wpAny_check_type_call_sub→fM,wpAny_loadPart→fN,wpAny_setField→fO,call_meets→fW,swapsWith→fX,tupleKind→fY,attributeBase→ge,behindInMarks→gf,bindSpecial→gh,codeAny_call_builtin_at→gj,wpAny_Call_method0_late→gn,wpAny_callSpecial?_slot→gp,wpAny_newList→gq,noFill_tuple_add→gw,pastItsLine_dict→gz,wpAny_lookBehind→gF,wpAny_madeBy_exc→gG,codeAny_handlers_suite→gK,wpAny_pyIter_rangeiter→gM,wpAny_pyNext_range_end→gN,Result→g6,backTo→g7,codeAny_builtin→g8,codeAny_handlers_test→g9,setFlight→hG,wpAny_execs_nil→hJ,wpAny_loadPart'→hU,GenState→hV,IsRangeIter→ib,evalArgs_none→ii,getItem→im,keywordEach→ip,wpAny_handleBy_cons→ir,IsPart→iw,bindArgs→iG,noteFrame→iI,seqIndex?→iJ,seq_tuple_add→iK,swapsWithSole→iM,wpAny_attempt→iN,wpAny_pyIter_range→iO,BindsTo→iP,callerA→iR,getAttr→iS,isInstance→iU,notedBy→iV,standAt→iW,valueAt→iX,assign→i4,concat_meets→i5,seqIndex_neg→i8,wpAny_nsSet1→i9,wpAny_typeOf→i_,Keyword→ja,onTheHeap→jd,raiseStmt→je,rawInt→jf,seqIndex_of→jg,setAttr→jh,CmpOp→jk,Operator→jm,backToKw→jn,compEnvC→jo,frameOf→jp,unaryOp→js,Walks→jv,atKey→jw
open PySem.Around renaming under→iY
open PySem.Builtin.List renaming listFitsIndex→cz
open PySem.Builtin.Range renaming rangeSize→bM,small→ia
open PySem.Builtin.Slice renaming slicePlaces→cH,sliceAdjust→dG,sliceApplied→fu
open PySem.Builtin.Tuple renaming tupleExact→cN,tupleItemsOf→fv
open PySem.Calls renaming callWith_builtin→ez,Name_function_global→fw
open PySem.Code renaming quiet_builtin→c5,isFrame→iZ
open PySem.EntryCells renaming newEntry→eX
open PySem.F renaming plainAttrs_list→ck,excBase_ValueError→cA,slot_dict_get→cF,entry_dict_get→c4,slot_dict_itemiterator_iter→dN,args_tuple_add_2→dR,entry_tuple_add→d9,slot_tuple_add→eI,slot_list_insert→fS,args_dict_get_2→f7,args_dict_get_3→f8,plainAttrs_dict→f9,slot_dict_items→f_,slot_list_count→gc,slot_list_index→gd
open PySem.Heap renaming get?_push_of_some→af,lt_size→aA,get?_push_size→aF,get?_update_other→aQ,get?_update_self→bH,SameBut→cC,size_push→cI,get?_none_of_le→eS
open PySem.Heap.SameBut renaming update→dL
open PySem.NameKind renaming free→cX
open PySem.Obj renaming mapFields→bu,mapSeq→bO,isFreed_of_fields→cE
open PySem.Paired renaming length→fZ
open PySem.SeqAt renaming EqAt→bc,RcNeAt→dS,RcAt→fV
open PySem.SeqAt.EqAt renaming int_str→iC,str_int→iD
open PySem.Str renaming empty→du,ofString→dU
open PySem.Txt renaming slice→d_
open PySem.Value renaming ref→aC,none→bh,builtin→cm,bool→eW,str→fj,isStrOf_shape→il,int→iE,isStrOf→iF,isInt→jb
open PySem.W renaming Frag→aa,findIn→ac,keepIn→ak,nsIn→aG,mg_of→aO,makesIn→aU,mroIn→aV,emptyDict→bb,fnOf→bp,instObj→bt,kia_one→bz,isFn→bK,plainGet→bR,hasDictIn→bV,codeIn→bW,plainOver→b_,kitOne→ce,looks_findIn→ci,specialIn→cr,callWith_K→c8,InstAt→dH,handedIn→dJ,callWith_K0→dO,Looks→eV,findCls→fb,plainGet_of→ff,readsIn→fg,kas_place→fm,lookIn→fI,kitx_list→fT,methodObj→fU,makes_of→gu,cellsFrom_some→gJ,takerIn→gY,takesIn→gZ,kas_rev→g_,handedOut_of→hW,typeIn→h_,findObj_own→ie,looks_mroIn→ig,kitx_tuple→iz,looks_find→iA,kas_desc→iH,kas_asc→jr,WData→ju
open PySem.W.WData renaming int→jc
open Sum renaming inr→fh,inl→ik
open True renaming intro→aX
namespace L2
open PySem PySem.Spec PyProof.Rows
noncomputable abbrev Key:=Sum Int Str
noncomputable def Ip:Key->Value->Bool
 | .inl k,v=>jb k v
 | .inr x,v=>iF x v
noncomputable def ce5 (w:bq):Key->Int
 | .inl k=>hashInt k
 | .inr x=>hashStr w x
theorem A8:∀ {k:Key} {v:Value},Ip k v=true->(∃ i t,k=ik i/\v=iE i t)\/(∃ x t,k=fh x/\v=fj x t)
 | .inl i,v,h=>by
  obtain⟨t,e⟩:=Value.isInt_shape (k:=i) (v:=v) h
  exact .inl ⟨i,t,rfl,e⟩
 | .inr x,v,h=>by
  obtain⟨t,e⟩:=il (x:=x) (v:=v) h
  exact .inr ⟨x,t,rfl,e⟩
theorem Vx (i:Int) (t:Tok):Ip (.inl i) (.int i t)=true:=by simp [Ip,jb]
theorem Vy (x:Str) (t:Tok):Ip (.inr x) (.str x t)=true:=by simp [Ip,iF]
theorem a42 (a b:Int):decide ((ik a:Key)=ik b)=(a==b):=by
 by_cases e:a=b
 ·subst e;simp
 ·have h:¬ (ik a:Key)=ik b:=fun q=>e (Sum.inl.inj q)
  rw [decide_eq_false h]
  exact (beq_eq_false_iff_ne.mpr e).symm
theorem a45 (a b:Str):decide ((fh a:Key)=fh b)=decide (a=b):=by
 by_cases e:a=b
 ·subst e;simp
 ·have h:¬ (fh a:Key)=fh b:=fun q=>e (Sum.inr.inj q)
  rw [decide_eq_false h,decide_eq_false e]
theorem a43 (a:Int) (b:Str):decide ((ik a:Key)=fh b)=false:=decide_eq_false (fun q=>nomatch q)
theorem a44 (a:Str) (b:Int):decide ((fh a:Key)=ik b)=false:=decide_eq_false (fun q=>nomatch q)
noncomputable def Ay (prog:aE) (w:bq):PySem.KeyKind prog w Key where
 is:=Ip
 hash:=ce5 w
 inj:=fun v a b ha hb=>by
  rcases A8 ha with ⟨i,t,rfl,rfl⟩|⟨x,t,rfl,rfl⟩
  ·rcases A8 hb with ⟨j,u,rfl,e⟩|⟨y,u,rfl,e⟩
   ·injection e with e1 _;rw [e1]
   ·exact nomatch e
  ·rcases A8 hb with ⟨j,u,rfl,e⟩|⟨y,u,rfl,e⟩
   ·exact nomatch e
   ·injection e with e1 _;rw [e1]
 byValue:=fun k v h=>by
  rcases A8 h with ⟨i,t,rfl,rfl⟩|⟨x,t,rfl,rfl⟩ <;> rfl
 pyHash:=fun hv h=>by
  rcases A8 hv with ⟨i,t,rfl,rfl⟩|⟨x,t,rfl,rfl⟩
  ·exact wpAny_pyHash_int h
  ·exact wpAny_pyHash_str h
 eqBool:=fun hu hv h=>by
  rcases A8 hu with ⟨i,t,rfl,rfl⟩|⟨x,t,rfl,rfl⟩
  ·rcases A8 hv with ⟨j,u,rfl,rfl⟩|⟨y,u,rfl,rfl⟩
   ·rw [a42] at h;exact wpAny_eqBool_int h
   ·rw [a43] at h;exact iC i t y u _ _ _ _ h
  ·rcases A8 hv with ⟨j,u,rfl,rfl⟩|⟨y,u,rfl,rfl⟩
   ·rw [a44] at h;exact iD x t j u _ _ _ _ h
   ·rw [a45] at h;exact wpAny_eqBool_str h
 «strs»:=fun k x t v h=>by
  rcases A8 h with ⟨i,u,rfl,e⟩|⟨y,u,rfl,e⟩
  ·exact nomatch e
  ·injection e with e1 _
   subst e1
   cases v <;> rfl
theorem Pk (prog:aE) (w:bq) (i:Int) (t:Tok):(Ay prog w).is (.inl i) (.int i t)=true:=Vx i t
theorem Pl (prog:aE) (w:bq) (x:Str) (t:Tok):(Ay prog w).is (.inr x) (.str x t)=true:=Vy x t
inductive V where
 | non|bl (b:Bool)|int (i:Int)|str (x:Str)|byt (b:Array UInt8)|stk (x:Str) (n:Nat) (ex:Bool)|ref (a:Addr)|ty (n:String)
 deriving DecidableEq
noncomputable def RelV:V->Value->Prop
 | .non,u=>u=bh
 | .bl b,u=>u=eW b
 | .int i,u=>∃ t,u=iE i t
 | .str x,u=>∃ t,u=fj x t
 | .byt b,u=>∃ t,u=Value.bytes b t
 | .stk x n ex,u=>∃ t,u=fj x t/\(if ex=true then t=n else n<=t)
 | .ref a,u=>u=aC a
 | .ty n,u=>u=Value.type n
noncomputable def V.pl:V->Bool
 | .stk _ _ _=>false
 | _=>true
noncomputable abbrev Vals:List V->List Value->Prop:=eU RelV
theorem Vals.length {xs:List V} {us:List Value} (r:Vals xs us):xs.length=us.length:=fZ r
theorem Vals.get:∀ {xs:List V} {us:List Value} {i:Nat} {x:V},Vals xs us->xs[i]? = some x -> ∃ u,us[i]? = some u/\RelV x u
 | _,_,_,_,.nil,e=>by simp at e
 | _,_,0,_,.cons r _,e=>by simp at e;subst e;exact⟨_,rfl,r⟩
 | _,_,i+1,x,.cons _ t,e=>by
  obtain⟨u,h1,h2⟩:=Vals.get (i:=i) (x:=x) t (by simpa using e)
  exact⟨u,by simpa using h1,h2⟩
theorem Vals.set {x:V} {u:Value} (r:RelV x u):∀ {xs:List V} {us:List Value} (i:Nat),Vals xs us->Vals (xs.set i x) (us.set i u)
 | _,_,_,.nil=>.nil
 | _,_,0,.cons _ t=>.cons r t
 | _,_,i+1,.cons q t=>.cons q (Vals.set r i t)
theorem Vals.append:∀ {xs ys:List V} {us ws:List Value},Vals xs us->Vals ys ws->Vals (xs++ys) (us++ws)
 | _,_,_,_,.nil,s=>s
 | _,_,_,_,.cons r t,s=>.cons r (Vals.append t s)
theorem Vals.take:∀ {xs:List V} {us:List Value} (n:Nat),Vals xs us->Vals (xs.take n) (us.take n)
 | _,_,0,_=>.nil
 | _,_,_+1,.nil=>.nil
 | _,_,n+1,.cons r t=>.cons r (Vals.take n t)
theorem Vals.drop:∀ {xs:List V} {us:List Value} (n:Nat),Vals xs us->Vals (xs.drop n) (us.drop n)
 | _,_,0,r=>r
 | _,_,_+1,.nil=>.nil
 | _,_,n+1,.cons _ t=>Vals.drop n t
noncomputable def RelO:Option V->Option Value->Prop
 | some v,some u=>RelV v u
 | none,none=>True
 | _,_=>False
noncomputable def KV {κ:Type}:List (κ×V)->List (κ×Value)->Prop:=eU fun (p:κ×V) (q:κ×Value)=>p.1=q.1/\RelV p.2 q.2
noncomputable def kV:Key->V
 | .inl i=>.int i
 | .inr x=>.str x
inductive HO where
 | lst (xs:List V)
 | tup (xs:List V)
 | dK (kvs:List (Key×V))|dT (kvs:List (List Key×V))
 | set (S:Int->Bool) (n:Nat)
 | ins (C dx:Addr) (fs:List (Str×V))
 | own (x:Addr)
 | xd (fs:List (Str×V))
 | met (f x:Addr)
 | rng (lo hi:Int)
 | frz (o:Obj) (u:HO)
 | tbl (ps:Array Value)
 | ext (φ:Heap->Prop)
noncomputable abbrev Hp:=Addr->Option HO
noncomputable def upd (H:Hp) (a:Addr) (o:HO):Hp:=fun b=>if b=a then some o else H b
theorem Ad {H:Hp} {a:Addr} {o:HO}:upd H a o a=some o:=by unfold upd;rw [if_pos rfl]
theorem Ak {H:Hp} {a b:Addr} {o:HO} (h:b≠a):upd H a o b=H b:=by unfold upd;rw [if_neg h]
theorem Nl {H:Hp} {a:Addr} {o u:HO}:upd (upd H a o) a u=upd H a u:=by
 funext b;unfold upd;split <;> rfl
theorem bv1 {H:Hp} {a b:Addr} {o u:HO} (h:H a=some o) (h':H b=some u) (d:o≠u):a≠b:=by
 intro e;subst e;rw [h] at h';exact d (aM h')
theorem A6 {H:Hp} {a b:Addr} {o:HO} (h:H a=some o) (h':H b=none):a≠b:=by
 intro e;subst e;rw [h] at h';cases h'
section
variable (P:aE) (w:bq)
noncomputable def ObjOk (H:Hp) (h:Heap) (a:Addr):HO->Prop
 | .lst xs=>xs.length<=sizeLine /\ ∃ (its:List Value) (n:Nat),Vals xs its/\h.get? a=some { cls:=.type "list", data:=.seq its.toArray n }
 | .tup xs=>xs.length<=sizeLine /\ ∃ its:List Value,Vals xs its/\jt h a its.toArray
 | .dK kvs=>kvs.length<=sizeLine/\(a==cS)=false /\ ∃ vs,KV kvs vs/\h.DictOf (Ay P w) a vs
 | .dT kvs=>kvs.length<=sizeLine/\(a==cS)=false /\ ∃ xs:List (List Key×Addr×Value),
   eU (fun (p:List Key×V) (q:List Key×Addr×Value)=>p.1=q.1/\H q.2.1=some (.tup (p.1.map kV))/\RelV p.2 q.2.2) kvs xs /\
   ∃ o es ep,h.get? a=some o/\o.ExactDict/\o.data=.dict es ep/\es.toList=xs.map (entryOfKey (fY (Ay P w)))/\(xs.map (·.1)).Nodup
 | .set S n=>h.SetOf (intKind P w) a S n
 | .ins C dx fs=>H dx=some (.own a)/\fs.length<=1000/\dx≠a/\h.get? a=some (bt C dx) /\
   ∃ mA,h.Ns1 dx mA/\(∀ f,RelO (fs.lookup f) (mA f))/\cV mA (fs.map (·.1))
 | .own _=>∃ o,h.get? a=some o
 | .xd fs=>∃ mA,h.Ns1 a mA /\ ∀ f,RelO (fs.lookup f) (mA f)
 | .rng lo hi=>∃ t u v,h.get? a=some { cls:=.type "range", data:=.fields #[.int lo t,.int hi u,.int 1 v] }
 | .frz o u=>h.get? a=some o/\ObjOk H h a u
 | .tbl ps=>h.get? a=some { cls:=.none,data:=.fields ps }
 | .met f x=>h.get? a=some (fU (.ref f) (.ref x))
 | .ext φ=>φ h/\(∃ o,h.get? a=some o) /\ ∀ h1 h2:Heap,φ h1->(∀ o,h1.get? a=some o->h2.get? a=some o)->φ h2
noncomputable def HOk (H:Hp) (h:Heap):Prop:=∀ a o,H a=some o->ObjOk P w H h a o
end
section
variable {P:aE} {w:bq} {H H':Hp} {h h':Heap} {a:Addr} {o:HO}
theorem ObjOk.lt (x:ObjOk P w H h a o):a<h.objs.size:=by
 cases o with
 | lst xs=>obtain⟨_,_,_,_,e⟩:=x;exact aA e
 | tup xs=>obtain⟨_,_,_,p⟩:=x;exact p.lt
 | dK kvs=>obtain⟨_,_,_,_,o,_,_,e,_⟩:=x;exact aA e
 | dT kvs=>obtain⟨_,_,_,_,o,_,_,e,_⟩:=x;exact aA e
 | set S n=>obtain⟨o,_,_,_,e,_⟩:=x;exact aA e
 | ins C dx fs=>obtain⟨_,_,_,e,_⟩:=x;exact aA e
 | own y=>obtain⟨_,e⟩:=x;exact aA e
 | xd fs=>obtain⟨_,⟨_,_,_,e,_⟩,_⟩:=x;exact aA e
 | rng lo hi=>obtain⟨_,_,_,e⟩:=x;exact aA e
 | frz ob u=>obtain⟨e,_⟩:=x;exact aA e
 | tbl ps=>exact aA (show h.get? a=some _ from x)
 | met f y=>exact aA (show h.get? a=some _ from x)
 | ext φ=>obtain⟨_,⟨_,e⟩,_⟩:=x;exact aA e
theorem Paired.mapP {α β:Type} {F G:α->β->Prop}:∀ {l₁:List α} {l₂:List β},eU F l₁ l₂->(∀ a b,F a b->G a b)->eU G l₁ l₂
 | _,_,.nil,_=>.nil
 | _,_,.cons r t,f=>.cons (f _ _ r) (Paired.mapP t f)
theorem ObjOk.stay (x:ObjOk P w H h a o) (k:∀ b u,(b=a\/H b=some (.own a))->h.get? b=some u->h'.get? b=some u)
  (ho:∀ b,H b=some (.own a)->H' b=some (.own a)) (ht:∀ b xs,H b=some (.tup xs)->H' b=some (.tup xs)):ObjOk P w H' h' a o:=by
 induction o with
 | lst xs=>obtain⟨z,its,n,r,e⟩:=x;exact⟨z,its,n,r,k _ _ (.inl rfl) e⟩
 | tup xs=>obtain⟨z,its,r,ob,e,c⟩:=x;exact⟨z,its,r,ob,k _ _ (.inl rfl) e,c⟩
 | dK kvs=>obtain⟨z,y,vs,r,ob,es,ep,e,c⟩:=x;exact⟨z,y,vs,r,ob,es,ep,k _ _ (.inl rfl) e,c⟩
 | dT kvs=>
  obtain⟨z,y,xs,r,ob,es,ep,e,c⟩:=x
  exact⟨z,y,xs,Paired.mapP r fun p q z=>⟨z.1,ht _ _ z.2.1,z.2.2⟩,ob,es,ep,k _ _ (.inl rfl) e,c⟩
 | set S n=>obtain⟨ob,es,ep,t,e,c⟩:=x;exact⟨ob,es,ep,t,k _ _ (.inl rfl) e,c⟩
 | ins C dx fs=>
  obtain⟨d,z,ne,e,mA,⟨od,es,ep,e2,c⟩,r⟩:=x
  exact⟨ho _ d,z,ne,k _ _ (.inl rfl) e,mA,⟨od,es,ep,k _ _ (.inr d) e2,c⟩,r⟩
 | own y=>obtain⟨ob,e⟩:=x;exact⟨ob,k _ _ (.inl rfl) e⟩
 | xd fs=>obtain⟨mA,⟨od,es,ep,e,c⟩,r⟩:=x;exact⟨mA,⟨od,es,ep,k _ _ (.inl rfl) e,c⟩,r⟩
 | rng lo hi=>obtain⟨t,u,v,e⟩:=x;exact⟨t,u,v,k _ _ (.inl rfl) e⟩
 | frz ob u ih=>obtain⟨e,q⟩:=x;exact⟨k _ _ (.inl rfl) e,ih q⟩
 | tbl ps=>
  have e:h.get? a=some { cls:=.none,data:=.fields ps }:=x
  show h'.get? a=some { cls:=.none,data:=.fields ps }
  exact k a _ (.inl rfl) e
 | met f y=>
  have e:h.get? a=some (fU (.ref f) (.ref y)):=x
  show h'.get? a=some (fU (.ref f) (.ref y))
  exact k a _ (.inl rfl) e
 | ext φ=>obtain⟨p,⟨o,e⟩,st⟩:=x;exact⟨st _ _ p fun o q=>k _ _ (.inl rfl) q,⟨o,k _ _ (.inl rfl) e⟩,st⟩
theorem HOk.lt (x:HOk P w H h) (e:H a=some o):a<h.objs.size:=(x a o e).lt
theorem HOk.fresh (x:HOk P w H h) (e:h.objs.size<=a):H a=none:=by
 cases q:H a with
 | none=>rfl
 | some u=>exact absurd (av (x.lt q) e) (d8 _)
theorem HOk.kept (x:HOk P w H h) (k:∀ b u,h.get? b=some u->h'.get? b=some u):HOk P w H h':=fun a o e=>
 (x a o e).stay (fun b u _ q=>k b u q) (fun _ q=>q) fun _ _ q=>q
theorem HOk.laid (x:HOk P w H h) (k:∀ b u,h.get? b=some u->h'.get? b=some u) (hp:h.objs.size<=a) (new:ObjOk P w (upd H a o) h' a o):HOk P w (upd H a o) h':=fun b u e=>by
 have hn:=x.fresh hp
 by_cases hb:b=a
 ·subst hb;rw [Ad] at e;cases e;exact new
 ·rw [Ak hb] at e
  exact (x b u e).stay (fun c v _ q=>k c v q) (fun c q=>by rw [Ak (A6 q hn)];exact q) fun c xs q=>by rw [Ak (A6 q hn)];exact q
end
noncomputable def Rd (H:Hp) (a:Addr) (u:HO):Prop:=H a=some u \/ ∃ o,H a=some (.frz o u)
theorem Rd.ok {P:aE} {w:bq} {H:Hp} {h:Heap} {a:Addr} {u:HO} (r:Rd H a u) (x:HOk P w H h):ObjOk P w H h a u:=by
 rcases r with r|⟨o,r⟩
 ·exact x a u r
 ·obtain⟨_,q⟩:=x a _ r
  exact q
noncomputable def Mut:Option HO->Prop
 | some (.lst _)=>True
 | some (.dK _)=>True
 | some (.dT _)=>True
 | some (.set _ _)=>True
 | some (.ins _ _ _)=>True
 | some (.ext _)=>True
 | _=>False
section
variable {P:aE} {w:bq} {H:Hp} {h h':Heap} {x e:Addr} {o':HO}
theorem HOk.write (ok:HOk P w H h) (mu:Mut (H x)) (he:e=x\/H e=some (.own x)) (k:∀ b u,b≠e->h.get? b=some u->h'.get? b=some u) (heo:∃ u,h'.get? e=some u)
  (new:ObjOk P w (upd H x o') h' x o'):HOk P w (upd H x o') h':=fun b u q=>by
 have nown:∀ c y,H c=some (.own y)->c≠x:=fun c y r z=>by subst z;rw [r] at mu;exact mu
 have ntup:∀ c xs,H c=some (.tup xs)->c≠x:=fun c xs r z=>by subst z;rw [r] at mu;exact mu
 by_cases hb:b=x
 ·subst hb;rw [Ad] at q;cases q;exact new
 ·rw [Ak hb] at q
  by_cases hbe:b=e
  ·have q':H b=some (.own x):=by
    rcases he with z|z
    ·exact absurd (hbe.trans z) hb
    ·rw [hbe];exact z
   rw [q] at q';cases q'
   obtain⟨v,hv⟩:=heo
   exact⟨v,by rw [hbe];exact hv⟩
  ·refine (ok b u q).stay (fun c v hc r=>k c v ?_ r) (fun c r=>by rw [Ak (nown c b r)];exact r) fun c xs r=>by rw [Ak (ntup c xs r)];exact r
   rcases hc with rfl|hc
   ·exact hbe
   ·rintro rfl
    rcases he with z|z
    ·exact nown c b hc z
    ·rw [hc] at z;cases z;exact hb rfl
end
structure Un (fs ex:List Addr) (H H':Hp) (h h':Heap):Prop where
 keep:∀ b o,h.get? b=some o->H b=none->b∉fs->b∉ex->h'.get? b=some o
 slot:∀ b o,h.get? b=some o->H b=none->b∈fs->b∉ex -> ∃ sl,h'.get? b=some { o with slots:=sl }
 free:∀ b o,h.get? b=some o->H b=none->b∉ex->H' b=none
 there:∀ b o,h.get? b=some o->b∉ex -> ∃ o',h'.get? b=some o'
 tups:∀ b xs,H b=some (.tup xs)->H' b=some (.tup xs)
 frzs:∀ b o u,H b=some (.frz o u)->H' b=some (.frz o u)
 tbls:∀ b ps,H b=some (.tbl ps) -> ∃ more,H' b=some (.tbl (ps++more))
section
variable {fs fs' ex ex':List Addr} {H H1 H2:Hp} {h h1 h2 h':Heap} {a x e:Addr} {o:HO}
theorem Un.any (u:Un fs ex H H1 h h1) {b:Addr} {ob:Obj} (q:h.get? b=some ob) (n:H b=none) (hx:b∉ex):∃ sl,h1.get? b=some { ob with slots:=sl }:=by
 by_cases hb:b∈fs
 ·exact u.slot b ob q n hb hx
 ·exact⟨ob.slots,u.keep b ob q n hb hx⟩
theorem Un.kept (k:∀ b u,h.get? b=some u->h'.get? b=some u):Un fs ex H H h h':=
 ⟨fun b ob q _ _ _=>k b ob q,fun b ob q _ _ _=>⟨ob.slots,k b ob q⟩,fun _ _ _ n _=>n,fun b ob q _=>⟨ob,k b ob q⟩,fun _ _ q=>q,fun _ _ _ q=>q,fun _ ps q=>⟨#[],by rw [q];simp⟩⟩
theorem Un.refl:Un fs ex H H h h:=Un.kept fun _ _ q=>q
theorem Un.laid (k:∀ b u,h.get? b=some u->h'.get? b=some u) (hp:h.objs.size<=a) (hn:H a=none):Un fs ex H (upd H a o) h h' where
 keep:=fun b u q _ _ _=>k b u q
 slot:=fun b u q _ _ _=>⟨u.slots,k b u q⟩
 free:=fun b u q n _=>by rw [Ak (aL (av (aA q) hp))];exact n
 there:=fun b u q _=>⟨u,k b u q⟩
 tups:=fun b xs q=>by rw [Ak (A6 q hn)];exact q
 frzs:=fun b u xs q=>by rw [Ak (A6 q hn)];exact q
 tbls:=fun b ps q=>⟨#[],by rw [Ak (A6 q hn),q];simp⟩
theorem Un.write (mu:Mut (H x)) (he:e=x\/H e=some (.own x)) (k:∀ b u,b≠e->h.get? b=some u->h'.get? b=some u) (heo:∃ u,h'.get? e=some u):Un fs ex H (upd H x o) h h':=by
 have hx:∀ b,H b=none->b≠x:=fun b n z=>by subst z;rw [n] at mu;exact mu
 have hb:∀ b,H b=none->b≠e:=fun b n z=>by
  subst z
  rcases he with r|r
  ·exact hx b n r
  ·rw [n] at r;cases r
 have hm:∀ b u,H b=some u -> ¬ Mut (some u)->b≠x:=fun b u q nm z=>by subst z;rw [q] at mu;exact nm mu
 refine⟨fun b u q n _ _=>k b u (hb b n) q,fun b u q n _ _=>⟨u.slots,k b u (hb b n) q⟩,fun b u q n _=>by rw [Ak (hx b n)];exact n,fun b u q _=>?_,
  fun b xs q=>by rw [Ak (hm b _ q fun z=>z)];exact q,fun b u xs q=>by rw [Ak (hm b _ q fun z=>z)];exact q,fun b ps q=>⟨#[],by rw [Ak (hm b _ q fun z=>z),q];simp⟩⟩
 by_cases hbe:b=e
 ·subst hbe;exact heo
 ·exact⟨u,k b u hbe q⟩
end
noncomputable def trk (h:Heap) (H:Hp):List Addr:=(cB h.objs.size).filter fun a=>(H a).isSome
noncomputable def Mr (h:Heap) (H:Hp):Heap:=PySem.W.hideAll h (trk h H)
theorem Vt (h:Heap) (H:Hp):(Mr h H).objs.size=h.objs.size:=PySem.W.hideAll_size _ _
theorem Zk {h:Heap} {H:Hp} {b:Addr} {o:Obj} (e:h.get? b=some o) (n:H b=none):(Mr h H).get? b=some o:=
 PySem.W.hideAll_get _ e fun hm=>by
  have q:(H b).isSome=true:=(List.mem_filter.mp hm).2
  rw [n] at q;simp at q
theorem al2 {h:Heap} {H:Hp} {b:Addr} {o:Obj} (e:(Mr h H).get? b=some o):h.get? b=some o/\H b=none:=by
 have e':h.get? b=some o:=PySem.W.of_hideAll (trk h H) e
 refine⟨e',?_⟩
 cases q:H b with
 | none=>rfl
 | some x=>
  have hm:b∈trk h H:=List.mem_filter.mpr ⟨List.mem_range.mpr (aA e'),by simp [q]⟩
  have z:(Mr h H).get? b=none:=PySem.W.hideAll_none (trk h H) hm
  rw [z] at e;cases e
structure Mod (K:aa) (mg:Str->Option Value) (base:Heap):Prop where
 kin:K.In base
 glob:base.Ns aB mg
 blt:∃ mb,base.Ns builtinsNs mb /\ ∀ x:Str,x ≠ "__name__" -> mb x=cq x
 nolimit:base.NoLimit
structure Cx where
 prog:aE
 w:bq
 K:aa
 mg:Str->Option Value
 base:Heap
 A:aT
 N:List Str
 s₀:ah
 H₀:Hp
 env:Env
 outer:List Env
 stack:List Env
 ex:List Addr
 fn:Str->Bool
 calm:Bool
 pn:List (Addr×Obj)
 xe:Value->ah->Prop
noncomputable def frs (l:List Env):List Addr:=l.filterMap (·.frame)
noncomputable abbrev Cx.fs (X:Cx):List Addr:=frs X.outer
noncomputable def Vis (sc:Scope) (x:Str):Prop:=sc.names.lookup x=some .local\/sc.names.lookup x=some .cell\/sc.names.lookup x=some .free
noncomputable def Loc (sc:Scope) (x:Str):Prop:=sc.names.lookup x=some .local\/sc.names.lookup x=some .cell
noncomputable def cd0 (env:Env) (h:Heap) (m:Str->Option Value) (x:Str) (u:Value):Prop:=
 (env.kindOf x=some .local/\m x=some u)\/((env.kindOf x=some .cell\/env.kindOf x=some .free) /\ ∃ c,env.cells.lookup x=some c/\h.IsCell c (some u))
noncomputable def K4 (K:aa) (n:Nat):Prop:=∀ x y t,aG K aB x=some (some (.str y t))->t<n
structure Cx.Ok (X:Cx):Prop where
 mod:Mod X.K X.mg X.base
 kind:X.env.scope.kind=.function
 glob:X.env.globals=aB
 blt:X.env.builtins=builtinsNs
 above:X.s₀.heap.objs.size<=X.env.locals
 inj:∀ x y c,X.env.cells.lookup x=some c->X.env.cells.lookup y=some c->x=y
 has:∀ x,(X.env.kindOf x=some .cell\/X.env.kindOf x=some .free) -> ∃ c,X.env.cells.lookup x=some c
 cab:∀ x c,X.fn x=true->X.env.cells.lookup x=some c->X.s₀.heap.objs.size<=c
 hd:X.calm=true->X.A.handled=none
 frames:X.A.frames=some X.stack
 stk:X.stack=X.outer\/(X.stack=X.env::X.outer/\X.env.frame=some X.env.locals)
 exf:∀ b∈X.ex,b≠X.env.locals /\ ∀ x c,X.env.cells.lookup x=some c->c≠b
 bs:∀ b o,X.base.get? b=some o->X.s₀.heap.get? b=some o/\X.H₀ b=none
 bsz:X.base.objs.size<=X.s₀.heap.objs.size
 noex:∀ b o,X.base.get? b=some o->b∉X.ex
 exfs:∀ b∈X.ex,b∉X.fs
 funs:X.s₀.heap.FunFrames X.base X.outer
 frf:∀ b∈X.fs,X.H₀ b=none
 tk:K4 X.K X.s₀.toks
structure Inv (X:Cx) (pins:List (Addr×Obj)) (σ:List (Option V)) (H:Hp) (s:ah):Prop where
 ok:X.Ok
 os:s.os=X.s₀.os/\X.s₀.toks<=s.toks
 bare:gO s.gens
 base:Un X.fs X.ex X.H₀ H X.s₀.heap s.heap
 loc:∃ m,s.heap.Ns X.env.locals m /\ ∀ (i:Nat) (x:Str) (v:V),X.N[i]? = some x->σ[i]? = some (some v)->Vis X.env.scope x -> ∃ u,RelV v u/\cd0 X.env s.heap m x u
 cell:∀ x c,X.env.cells.lookup x=some c -> ∃ v,s.heap.IsCell c v
 free:H X.env.locals=none
 freeC:∀ x c,X.env.cells.lookup x=some c->H c=none
 pin:∀ p∈X.pn++pins,s.heap.get? p.1=some p.2/\H p.1=none/\p.1≠X.env.locals/\p.1∉X.fs /\ ∀ v,p.2.data≠.cell v
 hok:HOk X.prog X.w H s.heap
 len:σ.length=X.N.length
section
variable {X:Cx} {pins:List (Addr×Obj)} {σ:List (Option V)} {H H':Hp} {s:ah} {h':Heap}
theorem Cx.Ok.nofr (ok:X.Ok) {b:Addr} {o:Obj} (e:X.base.get? b=some o):b∉X.fs:=fun hb=>by
 have:=(ok.funs.mem hb).1
 rw [e] at this;cases this
theorem Inv.bs (I:Inv X pins σ H s):∀ b o,X.base.get? b=some o->s.heap.get? b=some o/\H b=none:=fun b o e=>
 ⟨I.base.keep b o (I.ok.bs b o e).1 (I.ok.bs b o e).2 (I.ok.nofr e) (I.ok.noex b o e),I.base.free b o (I.ok.bs b o e).1 (I.ok.bs b o e).2 (I.ok.noex b o e)⟩
theorem Inv.bk (I:Inv X pins σ H s):∀ b o,X.base.get? b=some o->s.heap.get? b=some o:=fun b o e=>(I.bs b o e).1
theorem Inv.mod (I:Inv X pins σ H s):Mod X.K X.mg X.base:=I.ok.mod
theorem Inv.kIn (I:Inv X pins σ H s):X.K.In s.heap:=I.ok.mod.kin.keeps I.bk
theorem Inv.lt (I:Inv X pins σ H s):X.env.locals<s.heap.objs.size:=let ⟨_,hn,_⟩:=I.loc;hn.lt
theorem Inv.sz (I:Inv X pins σ H s):X.s₀.heap.objs.size<=s.heap.objs.size:=aD I.ok.above (gW I.lt)
theorem Inv.nofs (I:Inv X pins σ H s) {a:Addr} (h:s.heap.objs.size<=a):a∉X.fs:=fun hb=>by
 obtain⟨_,o,ho,_⟩:=I.ok.funs.mem hb
 exact absurd (av (aA ho) (aD I.sz h)) (d8 _)
theorem Inv.cne (I:Inv X pins σ H s):∀ x c,X.env.cells.lookup x=some c->c≠X.env.locals:=fun x c e z=>by
 obtain⟨v,o,ho,hd⟩:=I.cell x c e
 obtain⟨m,⟨o',es,ep,ho',hd',_⟩,_⟩:=I.loc
 rw [z,ho'] at ho;cases ho;rw [hd'] at hd;cases hd
theorem Inv.funs (I:Inv X pins σ H s):s.heap.FunFrames X.base X.outer:=by
 have all:∀ (l:List Env),(∀ b∈frs l,b∈X.fs)->X.s₀.heap.FunFrames X.base l->s.heap.FunFrames X.base l:=by
  intro l
  induction l with
  | nil=>intro _ _;trivial
  | cons env r ih=>
   intro hs hl
   obtain⟨hk,⟨L,o,hf,hn,ho,hd⟩,hr⟩:=hl
   have hL:L∈X.fs:=hs L (by unfold frs;rw [eZ,hf];exact c6)
   obtain⟨sl,e⟩:=I.base.slot L o ho (I.ok.frf L hL) hL fun z=>I.ok.exfs L z hL
   exact⟨hk,⟨L,_,hf,hn,e,hd⟩,ih (fun b hb=>hs b (by unfold frs;rw [eZ,hf];exact aJ _ hb)) hr⟩
 exact all X.outer (fun _ hb=>hb) I.ok.funs
theorem Inv.stack (I:Inv X pins σ H s):s.heap.FunFrames X.base X.stack:=by
 rcases I.ok.stk with e|⟨e,hf⟩
 ·rw [e];exact I.funs
 ·rw [e]
  obtain⟨m,hn,_⟩:=I.loc
  refine .cons (by rw [I.ok.kind];decide) hf hn ?_ I.funs
  exact eS (aD I.ok.bsz I.ok.above)
theorem Inv.stkSub (I:Inv X pins σ H s):∀ b∈frs X.stack,b∈X.env.locals::X.fs:=fun b hb=>by
 rcases I.ok.stk with e|⟨e,hf⟩
 ·rw [e] at hb;exact aJ _ hb
 ·rw [e] at hb
  unfold frs at hb
  rw [eZ,hf] at hb
  exact hb
theorem Inv.stkFree (I:Inv X pins σ H s):∀ b∈frs X.stack,H b=none:=fun b hb=>by
 rcases List.mem_cons.mp (I.stkSub b hb) with e|hb
 ·rw [e];exact I.free
 ·obtain⟨_,o,ho,_⟩:=I.ok.funs.mem hb
  exact I.base.free b o ho (I.ok.frf b hb) fun z=>I.ok.exfs b z hb
theorem Inv.step {g':Array hV} {t':Nat} {d':Drawn} {ch:List Addr} (I:Inv X pins σ H s)
  (hch:∀ b∈ch,(b∈X.ex\/X.s₀.heap.objs.size<=b)/\b≠X.env.locals/\(∀ x c,X.env.cells.lookup x=some c->c≠b) /\ ∀ p∈X.pn++pins,p.1≠b)
  (keep:∀ b o,b≠X.env.locals->b∉X.fs->b∉ch->s.heap.get? b=some o->H b=none->h'.get? b=some o)
  (slot:∀ b o,b≠X.env.locals->b∈X.fs->b∉ch->s.heap.get? b=some o->H b=none -> ∃ sl,h'.get? b=some { o with slots:=sl }) (free:∀ b o,b∉ch->s.heap.get? b=some o->H b=none->H' b=none)
  (there:∀ b o,b∉ch->s.heap.get? b=some o -> ∃ o',h'.get? b=some o')
  (tups:∀ b xs,H b=some (.tup xs)->H' b=some (.tup xs)) (frzs:∀ b o u,H b=some (.frz o u)->H' b=some (.frz o u)) (tbls:∀ b ps,H b=some (.tbl ps) -> ∃ more,H' b=some (.tbl (ps++more)))
  (ns:∀ m,s.heap.Ns X.env.locals m->h'.Ns X.env.locals m) (hok:HOk X.prog X.w H' h') (hg:gO g') (ht:s.toks<=t':=by first|exact ae _|exact a0 _ _|assumption|omega|(dsimp only;omega)) :
  Inv X pins σ H' { s with heap:=h',gens:=g',drawn:=d',toks:=t' }:=by
 have neL:∀ b o,X.s₀.heap.get? b=some o->b≠X.env.locals:=fun b o e=>aL (av (aA e) I.ok.above)
 have neC:∀ b o,X.s₀.heap.get? b=some o->b∉X.ex->b∉ch:=fun b o e hx hb=>by
  rcases (hch b hb).1 with z|z
  ·exact hx z
  ·exact absurd (av (aA e) z) (d8 _)
 have cellK:∀ x c,X.env.cells.lookup x=some c -> ∀ v,s.heap.IsCell c v->h'.IsCell c v:=fun x c e v ⟨o,ho,hd⟩=>by
  have nch:c∉ch:=fun z=>(hch c z).2.2.1 x c e rfl
  by_cases hc:c∈X.fs
  ·obtain⟨sl,q⟩:=slot c o (I.cne x c e) hc nch ho (I.freeC x c e)
   exact⟨_,q,hd⟩
  ·exact⟨o,keep c o (I.cne x c e) hc nch ho (I.freeC x c e),hd⟩
 refine⟨I.ok,⟨I.os.1,aD I.os.2 ht⟩,hg,⟨fun b o e n hb hx=>?_,fun b o e n hb hx=>?_,fun b o e n hx=>?_,fun b o e hx=>?_,fun b xs e=>tups b xs (I.base.tups b xs e),fun b o xs e=>frzs b o xs (I.base.frzs b o xs e),fun b ps e=>?_⟩,?_,fun x c e=>?_,?_,fun x c e=>?_,fun p hp=>?_,hok,I.len⟩
 ·exact keep b o (neL b o e) hb (neC b o e hx) (I.base.keep b o e n hb hx) (I.base.free b o e n hx)
 ·obtain⟨sl,e1⟩:=I.base.slot b o e n hb hx
  obtain⟨sl',e2⟩:=slot b _ (neL b o e) hb (neC b o e hx) e1 (I.base.free b o e n hx)
  exact⟨sl',e2⟩
 ·obtain⟨o',e1⟩:=I.base.there b o e hx
  exact free b o' (neC b o e hx) e1 (I.base.free b o e n hx)
 ·obtain⟨o',e1⟩:=I.base.there b o e hx
  exact there b o' (neC b o e hx) e1
 ·obtain⟨m1,e1⟩:=I.base.tbls b ps e
  obtain⟨m2,e2⟩:=tbls b _ e1
  exact⟨m1++m2,by rw [e2,Array.append_assoc]⟩
 ·obtain⟨m,hn,hl⟩:=I.loc
  refine⟨m,ns m hn,fun i x v e1 e2 e3=>?_⟩
  obtain⟨u,r,l⟩:=hl i x v e1 e2 e3
  refine⟨u,r,?_⟩
  rcases l with l|⟨k,c,e,z⟩
  ·exact .inl l
  ·exact .inr ⟨k,c,e,cellK x c e _ z⟩
 ·obtain⟨v,z⟩:=I.cell x c e
  exact⟨v,cellK x c e v z⟩
 ·obtain⟨m,⟨o,_,_,ho,_⟩,_⟩:=I.loc
  exact free _ o (fun z=>(hch _ z).2.1 rfl) ho I.free
 ·obtain⟨v,o,ho,hd⟩:=I.cell x c e
  exact free c o (fun z=>(hch c z).2.2.1 x c e rfl) ho (I.freeC x c e)
 ·obtain⟨e,n,ne,nf,d⟩:=I.pin p hp
  have nch:p.1∉ch:=fun z=>(hch p.1 z).2.2.2 p hp rfl
  exact⟨keep p.1 p.2 ne nf nch e n,free p.1 p.2 nch e n,ne,nf,d⟩
theorem Inv.un {t':Nat} (I:Inv X pins σ H s) (u:Un X.fs [] H H' s.heap h') (hok:HOk X.prog X.w H' h') (ht:s.toks<=t':=by first|exact ae _|exact a0 _ _|assumption|omega|(dsimp only;omega)):Inv X pins σ H' { s with heap:=h',toks:=t' }:=by
 obtain⟨m,⟨o,es,ep,ho,r⟩,_⟩:=id I.loc
 obtain⟨sl,hL⟩:=u.any ho I.free (by simp)
 exact I.step (g':=s.gens) (d':=s.drawn) (ch:=[]) (fun _ z=>nomatch z) (fun b o _ hb _ e n=>u.keep b o e n hb (by simp)) (fun b o _ hb _ e n=>u.slot b o e n hb (by simp)) (fun b o _ e n=>u.free b o e n (by simp)) (fun b o _ e=>u.there b o e (by simp)) u.tups u.frzs u.tbls (fun m' hm=>by
  obtain⟨o',es',ep',ho',r'⟩:=hm
  rw [ho] at ho';cases ho'
  exact⟨_,es',ep',hL,r'⟩) hok I.bare
theorem Inv.call {g':Array hV} {t':Nat} {d':Drawn} {ch:List Addr} (I:Inv X pins σ H s) (u:Un (frs X.stack) ch H H' s.heap h') (hok:HOk X.prog X.w H' h') (hg:gO g')
  (hch:∀ b∈ch,(b∈X.ex\/X.s₀.heap.objs.size<=b)/\b≠X.env.locals/\(∀ x c,X.env.cells.lookup x=some c->c≠b) /\ ∀ p∈X.pn++pins,p.1≠b) (ht:s.toks<=t':=by first|exact ae _|exact a0 _ _|assumption|omega|(dsimp only;omega)) :
  Inv X pins σ H' { s with heap:=h',gens:=g',drawn:=d',toks:=t' }:=by
 obtain⟨m,⟨o,es,ep,ho,r⟩,_⟩:=id I.loc
 obtain⟨sl,hL⟩:=u.any ho I.free fun z=>(hch _ z).2.1 rfl
 exact I.step (ch:=ch) hch (fun b o hL hb hc e n=>u.keep b o e n (fun z=>(List.mem_cons.mp (I.stkSub b z)).elim hL hb) hc) (fun b o _ _ hc e n=>u.any e n hc) (fun b o hc e n=>u.free b o e n hc) (fun b o hc e=>u.there b o e hc) u.tups u.frzs u.tbls (fun m' hm=>by
  obtain⟨o',es',ep',ho',r'⟩:=hm
  rw [ho] at ho';cases ho'
  exact⟨_,es',ep',hL,r'⟩) hok hg
theorem Inv.turned {t':Nat} {it:Addr} (I:Inv X pins σ H s) (k:∀ b o,b≠it->s.heap.get? b=some o->h'.get? b=some o) (hn:H it=none) (hL:it≠X.env.locals)
  (h1:it∈X.ex\/X.s₀.heap.objs.size<=it) (h2:∀ x c,X.env.cells.lookup x=some c->c≠it) (h3:∀ p∈X.pn++pins,p.1≠it) (ht:s.toks<=t':=by first|exact ae _|exact a0 _ _|assumption|omega|(dsimp only;omega)):Inv X pins σ H { s with heap:=h',toks:=t' }:=by
 have nit:∀ b u,H b=some u->b≠it:=fun b u e z=>by rw [z,hn] at e;cases e
 refine I.step (g':=s.gens) (d':=s.drawn) (ch:=[it]) (fun b hb=>?_) (fun b o _ _ hc e _=>k b o (fun z=>hc (by simp [z])) e) (fun b o _ _ hc e _=>⟨o.slots,k b o (fun z=>hc (by simp [z])) e⟩) (fun _ _ _ _ n=>n)
  (fun b o hc e=>⟨o,k b o (fun z=>hc (by simp [z])) e⟩) (fun _ _ e=>e) (fun _ _ _ e=>e) (fun b ps e=>⟨#[],by rw [e];simp⟩) (fun m hm=>?_) (fun b u e=>?_) I.bare
 ·have e:b=it:=by simpa using hb
  subst e
  exact⟨h1,hL,h2,h3⟩
 ·obtain⟨o,es,ep,ho,r⟩:=hm
  exact⟨o,es,ep,k _ o (cK hL) ho,r⟩
 ·refine (I.hok b u e).stay (fun c v hc q=>k c v ?_ q) (fun _ q=>q) fun _ _ q=>q
  rcases hc with z|z
  ·rw [z];exact nit b u e
  ·exact nit c _ z
theorem Inv.tok (I:Inv X pins σ H s) (t:Nat) (ht:s.toks<=t:=by first|exact ae _|exact a0 _ _|assumption|omega|(dsimp only;omega)):Inv X pins σ H { s with toks:=t }:=I.un (h':=s.heap) (t':=t) Un.refl I.hok ht
theorem Inv.kept {t':Nat} (I:Inv X pins σ H s) (k:∀ b u,s.heap.get? b=some u->h'.get? b=some u) (ht:s.toks<=t':=by first|exact ae _|exact a0 _ _|assumption|omega|(dsimp only;omega)):Inv X pins σ H { s with heap:=h',toks:=t' }:=I.un (Un.kept k) (I.hok.kept k) ht
theorem Inv.laid {a:Addr} {o:HO} {t':Nat} (I:Inv X pins σ H s) (k:∀ b u,s.heap.get? b=some u->h'.get? b=some u) (hp:s.heap.objs.size<=a) (new:ObjOk X.prog X.w (upd H a o) h' a o) (ht:s.toks<=t':=by first|exact ae _|exact a0 _ _|assumption|omega|(dsimp only;omega)) :
  Inv X pins σ (upd H a o) { s with heap:=h',toks:=t' }:=I.un (Un.laid k hp (I.hok.fresh hp)) (I.hok.laid k hp new) ht
theorem Inv.write {x e:Addr} {o:HO} {t':Nat} (I:Inv X pins σ H s) (mu:Mut (H x)) (he:e=x\/H e=some (.own x)) (k:∀ b u,b≠e->s.heap.get? b=some u->h'.get? b=some u) (heo:∃ u,h'.get? e=some u)
  (new:ObjOk X.prog X.w (upd H x o) h' x o) (ht:s.toks<=t':=by first|exact ae _|exact a0 _ _|assumption|omega|(dsimp only;omega)):Inv X pins σ (upd H x o) { s with heap:=h',toks:=t' }:=I.un (Un.write mu he k heo) (I.hok.write mu he k heo new) ht
theorem Inv.pins_of {pins':List (Addr×Obj)} (I:Inv X pins σ H s) (h:∀ p∈pins',s.heap.get? p.1=some p.2/\H p.1=none/\p.1≠X.env.locals/\p.1∉X.fs /\ ∀ v,p.2.data≠.cell v):Inv X pins' σ H s:=
 ⟨I.ok,I.os,I.bare,I.base,I.loc,I.cell,I.free,I.freeC,fun p hp=>(List.mem_append.mp hp).elim (fun z=>I.pin p (dD _ z)) (h p),I.hok,I.len⟩
theorem Iz {N:List Str} (hN:N.Nodup) {i j:Nat} {x:Str} (a:N[i]? = some x) (b:N[j]? = some x):i=j:=by
 obtain⟨h1,e1⟩:=List.getElem?_eq_some_iff.mp a
 obtain⟨h2,e2⟩:=List.getElem?_eq_some_iff.mp b
 exact (List.getElem_inj hN).mp (e1.trans e2.symm)
theorem Wm {M:Model} {A:aT} {E:Value->ah->Prop} {i:Nat} {x:Str} {v:V} {u:Value} {Q:Unit->ah->Prop} (I:Inv X pins σ H s) (hN:X.N.Nodup) (hi:X.N[i]? = some x) (hx:Loc X.env.scope x) (r:RelV v u)
  (h:∀ s',Inv X pins (σ.set i (some v)) H s'->(∃ a,cC a s.heap s'.heap/\(a=X.env.locals\/X.env.cells.lookup x=some a))->Q () s') (hf:X.fn x=true\/X.env.scope.names.lookup x=some .local:=by first|exact .inl rfl|exact .inr rfl|assumption):aI M A (storeName X.env x u) Q E s:=by
 obtain⟨m,hn,hl⟩:=id I.loc
 have hcls:(X.env.scope.kind==.class||(X.env.scope.kind==.module&&X.env.locals != X.env.globals))=false:=by rw [I.ok.kind];rfl
 have hiσ:i<σ.length:=by rw [I.len];exact (List.getElem?_eq_some_iff.mp hi).1
 have cne:=I.cne
 have tracked:∀ {a:Addr} {h':Heap},(∃ o,s.heap.get? a=some o/\H a=none)->cC a s.heap h'->HOk X.prog X.w H h':=fun {a h'} ha hs b ob e=>by
  obtain⟨_,_,hfree⟩:=ha
  refine (I.hok b ob e).stay (fun c w' hc q=>(hs.2 c ?_).trans q) (fun _ q=>q) fun _ _ q=>q
  rintro rfl
  rcases hc with rfl|hc
  ·rw [hfree] at e;cases e
  ·rw [hfree] at hc;cases hc
 rcases hx with hk|hk
 ·refine wpAny_storeName_local hk hn (fun h' hn' hs=>?_) hcls
  obtain⟨oL,_,_,hoL,_⟩:=id hn
  refine h _ ⟨I.ok,⟨I.os.1,aD I.os.2 (by first|exact ae _|exact a0 _ _)⟩,I.bare,⟨fun b o e n hb hx=>?_,fun b o e n hb hx=>?_,I.base.free,fun b o e hx=>?_,I.base.tups,I.base.frzs,I.base.tbls⟩,⟨_,hn',fun j y v' e1 e2 e3=>?_⟩,fun y c e=>?_,I.free,I.freeC,fun p hp=>?_,tracked ⟨oL,hoL,I.free⟩ hs,by simpa using I.len⟩ ⟨_,hs,.inl rfl⟩
  ·exact (hs.2 b (aL (av (aA e) I.ok.above))).trans (I.base.keep b o e n hb hx)
  ·obtain⟨sl,e1⟩:=I.base.slot b o e n hb hx
   exact⟨sl,(hs.2 b (aL (av (aA e) I.ok.above))).trans e1⟩
  ·obtain⟨o',e1⟩:=I.base.there b o e hx
   exact⟨o',(hs.2 b (aL (av (aA e) I.ok.above))).trans e1⟩
  ·by_cases hj:j=i
   ·subst hj
    rw [hi] at e1;cases e1
    rw [eF hiσ] at e2
    cases e2
    exact⟨u,r,.inl ⟨hk,by simp⟩⟩
   ·rw [eT (cK hj)] at e2
    obtain⟨u',r',q⟩:=hl j y v' e1 e2 e3
    refine⟨u',r',?_⟩
    rcases q with ⟨k,e⟩|⟨k,c,e,z⟩
    ·refine .inl ⟨k,?_⟩
     have:y≠x:=fun e=>hj (Iz hN e1 (e▸hi))
     simp [this,e]
    ·exact .inr ⟨k,c,e,z.sameBut hs (cne y c e)⟩
  ·obtain⟨w',z⟩:=I.cell y c e
   exact⟨w',z.sameBut hs (cne y c e)⟩
  ·obtain⟨e,n,ne,nf,d⟩:=I.pin p hp
   exact⟨(hs.2 p.1 ne).trans e,n,ne,nf,d⟩
 ·have hfn:X.fn x=true:=by
   rcases hf with z|z
   ·exact z
   ·rw [z] at hk;cases hk
  obtain⟨c,hc⟩:=I.ok.has x (.inl hk)
  obtain⟨w',z⟩:=I.cell x c hc
  refine wpAny_storeName_cell I.ok.kind hk hc z (fun h' hc' hs=>?_)
  obtain⟨oc,hoc,hocd⟩:=id z
  refine h { s with heap:=h' } ⟨I.ok,I.os,I.bare,⟨fun b o e n hb hx=>?_,fun b o e n hb hx=>?_,I.base.free,fun b o e hx=>?_,I.base.tups,I.base.frzs,I.base.tbls⟩,⟨m,hn.sameBut hs (cK (cne x c hc)),fun j y v' e1 e2 e3=>?_⟩,fun y c' e=>?_,I.free,I.freeC,fun p hp=>?_,tracked ⟨oc,hoc,I.freeC x c hc⟩ hs,by simpa using I.len⟩ ⟨c,hs,.inr hc⟩
  ·exact (hs.2 b (aL (av (aA e) (I.ok.cab x c hfn hc)))).trans (I.base.keep b o e n hb hx)
  ·obtain⟨sl,e1⟩:=I.base.slot b o e n hb hx
   exact⟨sl,(hs.2 b (aL (av (aA e) (I.ok.cab x c hfn hc)))).trans e1⟩
  ·obtain⟨o',e1⟩:=I.base.there b o e hx
   exact⟨o',(hs.2 b (aL (av (aA e) (I.ok.cab x c hfn hc)))).trans e1⟩
  ·by_cases hj:j=i
   ·subst hj
    rw [hi] at e1;cases e1
    rw [eF hiσ] at e2
    cases e2
    exact⟨u,r,.inr ⟨.inl hk,c,hc,hc'⟩⟩
   ·rw [eT (cK hj)] at e2
    obtain⟨u',r',q⟩:=hl j y v' e1 e2 e3
    refine⟨u',r',?_⟩
    rcases q with q|⟨k,c',e,z'⟩
    ·exact .inl q
    ·refine .inr ⟨k,c',e,z'.sameBut hs ?_⟩
     rintro rfl
     exact hj (Iz hN e1 (I.ok.inj _ _ _ e hc▸hi))
  ·by_cases hcc:c'=c
   ·subst hcc;exact⟨_,hc'⟩
   ·obtain⟨w2,z2⟩:=I.cell y c' e
    exact⟨w2,z2.sameBut hs hcc⟩
  ·obtain⟨e,n,ne,nf,d⟩:=I.pin p hp
   refine⟨(hs.2 p.1 ?_).trans e,n,ne,nf,d⟩
   intro q
   rw [q,hoc] at e
   have q':oc=p.2:=aM e
   exact d w' (by rw [<- q'];exact hocd)
theorem Gd {M:Model} {A:aT} {E:Value->ah->Prop} {i:Nat} {x:Str} {v:V} {u:Value} {Q:Unit->ah->Prop} (I:Inv X pins σ H s) (hN:X.N.Nodup) (hi:X.N[i]? = some x) (hx:Loc X.env.scope x) (r:RelV v u)
  (h:∀ s',Inv X pins (σ.set i (some v)) H s'->Q () s') (hf:X.fn x=true\/X.env.scope.names.lookup x=some .local:=by first|exact .inl rfl|exact .inr rfl|assumption):aI M A (storeName X.env x u) Q E s:=
 Wm I hN hi hx r (fun s' I' _=>h s' I') hf
theorem Inv.call' {s':ah} {ch:List Addr} (I:Inv X pins σ H s) (ho:s'.os=s.os/\s.toks<=s'.toks) (u:Un (frs X.stack) ch H H' s.heap s'.heap) (hok:HOk X.prog X.w H' s'.heap) (hg:gO s'.gens)
  (hch:∀ b∈ch,(b∈X.ex\/X.s₀.heap.objs.size<=b)/\b≠X.env.locals/\(∀ x c,X.env.cells.lookup x=some c->c≠b) /\ ∀ p∈X.pn++pins,p.1≠b):Inv X pins σ H' s':=by
 obtain⟨h',g',d',t',o'⟩:=s'
 have e:o'=s.os:=ho.1
 subst e
 exact I.call (g':=g') (t':=t') (d':=d') u hok hg hch ho.2
end
noncomputable abbrev XK:=Value->Option Addr->Hp->Prop
noncomputable abbrev St:=List (Option V)
noncomputable abbrev VK:=V->Hp->Prop
noncomputable abbrev TE:=St->Hp->VK->Prop
noncomputable abbrev TT:=St->Hp->(Bool->Hp->Prop)->Prop
noncomputable abbrev TA:=St->Hp->(List V->Hp->Prop)->Prop
structure Kr where
 nx:St->Hp->Prop
 rt:VK
 bk:St->Hp->Prop:=fun _ _=>False
 ct:St->Hp->Prop:=fun _ _=>False
noncomputable abbrev TS:=Kr->St->Hp->Prop
noncomputable def EP (X:Cx) (pins:List (Addr×Obj)) (σ:St) (Q:VK) (u:Value) (s':ah):Prop:=∃ v H',Inv X pins σ H' s'/\RelV v u/\Q v H'
noncomputable def TP (X:Cx) (pins:List (Addr×Obj)) (σ:St) (Q:Bool->Hp->Prop) (b:Bool) (s':ah):Prop:=∃ H',Inv X pins σ H' s'/\Q b H'
noncomputable def AP (X:Cx) (pins:List (Addr×Obj)) (σ:St) (Q:List V->Hp->Prop) (us:List Value) (s':ah):Prop:=∃ vs H',Inv X pins σ H' s'/\Vals vs us/\Q vs H'
noncomputable def SP (X:Cx) (pins:List (Addr×Obj)) (D:Kr) (f:Flow) (s':ah):Prop:=
 match f with
 | .next=>∃ σ' H',Inv X pins σ' H' s'/\D.nx σ' H'
 | .brk=>∃ σ' H',Inv X pins σ' H' s'/\D.bk σ' H'
 | .cont=>∃ σ' H',Inv X pins σ' H' s'/\D.ct σ' H'
 | .ret u=>∃ v σ' H',Inv X pins σ' H' s'/\RelV v u/\D.rt v H'
noncomputable def PE (X:Cx) (e:Expr) (t:TE):Prop:=
 ∀ (pins:List (Addr×Obj)) (s:ah) (σ:St) (H:Hp) (Q:VK),Inv X pins σ H s->t σ H Q->aI (model X.prog X.w) X.A (eval e X.env) (EP X pins σ Q) X.xe s
noncomputable def PT (X:Cx) (e:Expr) (t:TT):Prop:=
 ∀ (pins:List (Addr×Obj)) (s:ah) (σ:St) (H:Hp) (Q:Bool->Hp->Prop),Inv X pins σ H s->t σ H Q->aI (model X.prog X.w) X.A (isTrue e X.env (eval e X.env)) (TP X pins σ Q) X.xe s
noncomputable def PW (X:Cx) (e:Expr) (t:TT):Prop:=
 ∀ (whole:Sem Value) (pins:List (Addr×Obj)) (s:ah) (σ:St) (H:Hp) (Q:Bool->Hp->Prop),Inv X pins σ H s->t σ H Q->aI (model X.prog X.w) X.A (isTrue e X.env whole) (TP X pins σ Q) X.xe s
theorem PW.pt {X:Cx} {e:Expr} {t:TT} (h:PW X e t):PT X e t:=h _
noncomputable def PA (X:Cx) (es:List Expr) (t:TA):Prop:=
 ∀ (pos:Pos) (pins:List (Addr×Obj)) (s:ah) (σ:St) (H:Hp) (Q:List V->Hp->Prop),Inv X pins σ H s->t σ H Q->aI (model X.prog X.w) X.A (spliced (g7 pos (cn es X.env))) (AP X pins σ Q) X.xe s
noncomputable def PS (X:Cx) (st:Stmt) (t:TS):Prop:=
 ∀ (pins:List (Addr×Obj)) (s:ah) (σ:St) (H:Hp) (D:Kr),Inv X pins σ H s->t D σ H->aI (model X.prog X.w) X.A (exec st X.env) (SP X pins D) X.xe s
noncomputable def PSs (X:Cx) (st:List Stmt) (t:TS):Prop:=
 ∀ (pins:List (Addr×Obj)) (s:ah) (σ:St) (H:Hp) (D:Kr),Inv X pins σ H s->t D σ H->aI (model X.prog X.w) X.A (execs st X.env) (SP X pins D) X.xe s
theorem thn {α:Type} {t:Sem α} {Q Q':α->ah->Prop} {M:Model} {A:aT} {E:Value->ah->Prop} {s:ah} (h:aI M A t Q E s) (hQ:∀ a s,Q a s->Q' a s):aI M A t Q' E s:=bP h hQ fun _ _ x=>x
section
variable {X:Cx}
noncomputable def cg7 (i:Nat):TE:=fun σ H Q=>∃ v,σ[i]? = some (some v)/\Q v H
noncomputable def tC (v:V):TE:=fun _ H Q=>Q v H
theorem ba3 {i:Nat} {x:Str} {pos:Pos} (hN:X.N[i]? = some x) (hv:Vis X.env.scope x) (hd:(x==("__debug__" : Str))=false:=by decide) (hcd:(x==("__classdict__" : Str))=false:=by decide):PE X (.Name x pos) (cg7 i):=by
 intro pins s σ H Q I h
 obtain⟨v,e,h⟩:=h
 obtain⟨m,hn,hl⟩:=I.loc
 obtain⟨u,r,l⟩:=hl i x v hN e hv
 have fin:EP X pins σ Q u s:=⟨v,H,I,r,h⟩
 rcases l with ⟨hk,hm⟩|⟨hk,c,hc,hcell⟩
 ·exact wpAny_Name (wpAny_loadName_local I.ok.kind hk hn hm fin) hd
 ·rcases hk with hk|hk
  ·exact wpAny_Name (wpAny_loadName_cell I.ok.kind hk hc hcell fin) hd
  ·exact wpAny_Name (wpAny_loadName_free I.ok.kind hk hc hcell fin hcd) hd
theorem a97 {i j pos}:PE X (.Constant (.int i) j pos) (tC (.int i)):=fun _ _ _ H _ I h=>wpAny_Constant_int ⟨.int i,H,I.tok _,⟨_,rfl⟩,h⟩
theorem by1 {b j pos}:PE X (.Constant (.bool b) j pos) (tC (.bl b)):=fun _ _ _ H _ I h=>Constant_bool ⟨.bl b,H,I,rfl,h⟩
theorem a99 {j pos}:PE X (.Constant .none j pos) (tC .non):=fun _ _ _ H _ I h=>Constant_none ⟨.non,H,I,rfl,h⟩
theorem ba1 {x j pos}:PE X (.Constant (.str x) j pos) (tC (.str x)):=fun _ _ _ H _ I h=>Calls.Constant_str ⟨.str x,H,I.tok _,⟨_,rfl⟩,h⟩
noncomputable def Gl (X:Cx) (x:Str):Prop:=X.env.kindOf x=some .globalImplicit
theorem Co {E:Value->ah->Prop} {pins:List (Addr×Obj)} {s:ah} {σ:St} {H:Hp} {x:Str} {u:Value} {pos:Pos} {Q:Value->ah->Prop} (I:Inv X pins σ H s) (hg:Gl X x) (hm:X.mg x=some u) (h:Q u s)
  (hd:(x==("__debug__" : Str))=false:=by decide):aI (model X.prog X.w) X.A (eval (.Name x pos) X.env) Q E s:=
 fw I.ok.kind hg (Calls.loadGlobal_global (by rw [I.ok.glob];exact I.mod.glob.keeps I.bk) hm h) hd
theorem Mv {E:Value->ah->Prop} {pins:List (Addr×Obj)} {s:ah} {σ:St} {H:Hp} {x:Str} {u:Value} {pos:Pos} {Q:Value->ah->Prop} (I:Inv X pins σ H s) (hg:Gl X x) (hm:X.mg x=none) (hv:cq x=some u) (h:Q u s)
  (hn:x ≠ "__name__" := by decide) (hd:(x==("__debug__" : Str))=false:=by decide):aI (model X.prog X.w) X.A (eval (.Name x pos) X.env) Q E s:=by
 obtain⟨mb,h1,h2⟩:=I.mod.blt
 exact fw I.ok.kind hg (Calls.loadGlobal_builtin (by rw [I.ok.glob];exact I.mod.glob.keeps I.bk) hm (by rw [I.ok.blt];exact h1.keeps I.bk) ((h2 x hn).trans hv) h) hd
theorem Hm {x:Str} {v:V} {u:Value} {pos:Pos} (hg:Gl X x) (hm:X.mg x=some u) (r:RelV v u) (hd:(x==("__debug__" : Str))=false:=by decide):PE X (.Name x pos) (tC v):=
 fun _ _ _ H _ I h=>Co I hg hm ⟨v,H,I,r,h⟩ hd
theorem am0 {x:Str} {v:V} {u:Value} {pos:Pos} (hg:Gl X x) (hm:X.mg x=none) (hv:cq x=some u) (r:RelV v u) (hn:x ≠ "__name__" := by decide) (hd:(x==("__debug__" : Str))=false:=by decide):PE X (.Name x pos) (tC v):=
 fun _ _ _ H _ I h=>Mv I hg hm hv ⟨v,H,I,r,h⟩ hn hd
variable {a b:Expr} {ta tb:TE} {pos:Pos}
variable {tA tB':TT} {rest:List Expr}
noncomputable def cf8 (t u:TT):TT:=fun σ H Q=>t σ H fun c H1=>if c=true then u σ H1 Q else Q false H1
noncomputable def tOr (t u:TT):TT:=fun σ H Q=>t σ H fun c H1=>if c=true then Q true H1 else u σ H1 Q
noncomputable def cg3 (t:TT):TT:=fun σ H Q=>t σ H fun c H1=>Q (!c) H1
theorem an1 (ha:PT X a tA):PW X (.BoolOp .And [a] pos) tA:=by
 intro wh pins s σ H Q I h
 refine isTrue_and (thn (ha pins s σ H Q I h) fun c s1 e=>?_)
 cases c with
 | true=>exact isTrue_and_nil e
 | false=>exact e
theorem bb1 (ha:PT X a tA):PW X (.BoolOp .Or [a] pos) tA:=by
 intro wh pins s σ H Q I h
 refine isTrue_or (thn (ha pins s σ H Q I h) fun c s1 e=>?_)
 cases c with
 | false=>exact isTrue_or_nil e
 | true=>exact e
theorem bb0 (ha:PT X a tA) (hb:PW X (.BoolOp .And (b::rest) pos) tB'):PW X (.BoolOp .And (a::b::rest) pos) (cf8 tA tB'):=by
 intro wh pins s σ H Q I h
 refine isTrue_and (thn (ha pins s σ H _ I h) fun c s1 ⟨H1,I1,q1⟩=>?_)
 cases c with
 | true=>exact hb wh pins s1 σ H1 Q I1 q1
 | false=>exact⟨H1,I1,q1⟩
theorem by8 (ha:PT X a tA) (hb:PW X (.BoolOp .Or (b::rest) pos) tB'):PW X (.BoolOp .Or (a::b::rest) pos) (tOr tA tB'):=by
 intro wh pins s σ H Q I h
 refine isTrue_or (thn (ha pins s σ H _ I h) fun c s1 ⟨H1,I1,q1⟩=>?_)
 cases c with
 | true=>exact⟨H1,I1,q1⟩
 | false=>exact hb wh pins s1 σ H1 Q I1 q1
theorem ba9 (ha:PT X a tA):PT X (.UnaryOp .Not a pos) (cg3 tA):=by
 intro pins s σ H Q I h
 exact isTrue_not (ha pins s σ H (fun c H1=>Q (!c) H1) I h)
theorem ba0 {op} {t:TE} (h:PE X a t):PE X (.BoolOp op [a] pos) t:=fun pins s σ H Q I hw=>BoolOp_one (h pins s σ H Q I hw)
noncomputable def tIf (t:TT) (ta tb:TE):TE:=fun σ H Q=>t σ H fun c H1=>if c=true then ta σ H1 Q else tb σ H1 Q
theorem ab3 {c:Expr} (hc:PT X c tA) (ha:PE X a ta) (hb:PE X b tb):PE X (.IfExp c a b pos) (tIf tA ta tb):=by
 intro pins s σ H Q I h
 refine wpAny_IfExp (thn (hc pins s σ H _ I h) fun d s1 ⟨H1,I1,q1⟩=>?_)
 cases d with
 | true=>exact ha pins s1 σ H1 Q I1 q1
 | false=>exact hb pins s1 σ H1 Q I1 q1
end
noncomputable def SqL (K:aa) (H:Hp) (a:Addr) (xs:List V):Prop:=
 Rd H a (.lst xs) \/
  ∃ (o:Obj) (its:Array Value) (n:Nat),K.lookup a=some o/\o.cls=.type "list" /\ o.dict=none/\o.data=.seq its n/\its.size<=sizeLine/\xs.all V.pl=true/\Vals xs its.toList
noncomputable def SqT (K:aa) (H:Hp) (a:Addr) (xs:List V):Prop:=
 Rd H a (.tup xs) \/
  ∃ (o:Obj) (its:Array Value) (n:Nat),K.lookup a=some o/\o.cls=.type "tuple" /\ o.data=.seq its n/\its.size<=sizeLine/\xs.all V.pl=true/\Vals xs its.toList
noncomputable def a03:Value->Option V
 | .none=>some .non
 | .bool b=>some (.bl b)
 | .int i _=>some (.int i)
 | .str x _=>some (.str x)
 | .bytes b _=>some (.byt b)
 | .ref a=>some (.ref a)
 | .type n=>some (.ty n)
 | _=>none
theorem RelV.abs {x:V} {u:Value} (r:RelV x u) (p:x.pl=true):a03 u=some x:=by
 cases x with
 | non=>cases r;rfl
 | bl _=>cases r;rfl
 | int _=>obtain⟨t,rfl⟩:=r;rfl
 | str _=>obtain⟨t,rfl⟩:=r;rfl
 | byt _=>obtain⟨t,rfl⟩:=r;rfl
 | stk _ _ _=>cases p
 | ref _=>cases r;rfl
 | ty _=>cases r;rfl
theorem RelV.inj {x y:V} {u:Value} (r:RelV x u) (q:RelV y u) (p:x.pl=true) (p':y.pl=true):x=y:=aM ((r.abs p).symm.trans (q.abs p'))
theorem Vals.inj:∀ {xs ys:List V} {us:List Value},Vals xs us->Vals ys us->xs.all V.pl=true->ys.all V.pl=true->xs=ys
 | _,_,_,.nil,.nil,_,_=>rfl
 | _,_,_,.cons r t,.cons r' t',p,q=>by
  simp only [bj,au] at p q
  rw [r.inj r' p.1 q.1,Vals.inj t t' p.2 q.2]
section
variable {X:Cx} {pins:List (Addr×Obj)} {σ:St} {H:Hp} {s:ah} {a:Addr} {xs ys:List V}
theorem SqL.of {K:aa} (h:H a=some (.lst xs)):SqL K H a xs:=.inl (.inl h)
theorem SqT.of {K:aa} (h:H a=some (.tup xs)):SqT K H a xs:=.inl (.inl h)
theorem Inv.list (I:Inv X pins σ H s) (h:SqL X.K H a xs):∃ its:List Value,Vals xs its/\PlainL s.heap a its.toArray/\xs.length<=sizeLine:=by
 rcases h with h|⟨o,its,n,hk,hc,hd,hs,hz,_,r⟩
 ·obtain⟨z,its,n,r,e⟩:=h.ok I.hok
  exact⟨its,r,⟨_,n,e,rfl,rfl,rfl⟩,z⟩
 ·refine⟨its.toList,r,⟨o,n,I.kIn a o hk,hc,hd,by simpa using hs⟩,?_⟩
  have e:=r.length
  simp only [bS] at e
  omega
theorem Inv.tuple (I:Inv X pins σ H s) (h:SqT X.K H a xs):∃ its:List Value,Vals xs its/\jt s.heap a its.toArray/\xs.length<=sizeLine:=by
 rcases h with h|⟨o,its,n,hk,hc,hs,hz,_,r⟩
 ·obtain⟨z,its,r,p⟩:=h.ok I.hok
  exact⟨its,r,p,z⟩
 ·refine⟨its.toList,r,⟨o,I.kIn a o hk,hc,n,by simpa using hs⟩,?_⟩
  have e:=r.length
  simp only [bS] at e
  omega
theorem Inv.notK (I:Inv X pins σ H s) {o:HO} {ob:Obj} (h:Rd H a o) (e:X.K.lookup a=some ob):False:=by
 have n:=(I.bs a ob (I.mod.kin a ob e)).2
 rcases h with h|⟨u,h⟩
 ·rw [n] at h;cases h
 ·rw [n] at h;cases h
theorem Inv.list_inj (I:Inv X pins σ H s) (h:SqL X.K H a xs) (h':SqL X.K H a ys):xs=ys:=by
 rcases h with h|⟨o,its,n,hk,hc,hd,hs,hz,p,r⟩
 ·rcases h' with h'|⟨o',its',n',hk',hc',hd',hs',hz',p',r'⟩
  ·rcases h with h|⟨u,h⟩ <;> rcases h' with h'|⟨u',h'⟩ <;> (rw [h] at h';first|(cases h';rfl)|cases h')
  ·exact (I.notK h hk').elim
 ·rcases h' with h'|⟨o',its',n',hk',hc',hd',hs',hz',p',r'⟩
  ·exact (I.notK h' hk).elim
  ·rw [hk] at hk';cases hk'
   rw [hs] at hs';cases hs'
   exact r.inj r' p p'
theorem Inv.tuple_inj (I:Inv X pins σ H s) (h:SqT X.K H a xs) (h':SqT X.K H a ys):xs=ys:=by
 rcases h with h|⟨o,its,n,hk,hc,hs,hz,p,r⟩
 ·rcases h' with h'|⟨o',its',n',hk',hc',hs',hz',p',r'⟩
  ·rcases h with h|⟨u,h⟩ <;> rcases h' with h'|⟨u',h'⟩ <;> (rw [h] at h';first|(cases h';rfl)|cases h')
  ·exact (I.notK h hk').elim
 ·rcases h' with h'|⟨o',its',n',hk',hc',hs',hz',p',r'⟩
  ·exact (I.notK h' hk).elim
  ·rw [hk] at hk';cases hk'
   rw [hs] at hs';cases hs'
   exact r.inj r' p p'
end
noncomputable abbrev Cx.wish (X:Cx) (E:Value->ah->Prop):Cx:={ X with xe:=E }
noncomputable abbrev Cx.nox (X:Cx):Cx:=X.wish fun _ _=>False
theorem Cx.Ok.wish {X:Cx} (ok:X.Ok) (E:Value->ah->Prop):(X.wish E).Ok:=
 ⟨ok.mod,ok.kind,ok.glob,ok.blt,ok.above,ok.inj,ok.has,ok.cab,ok.hd,ok.frames,ok.stk,ok.exf,ok.bs,ok.bsz,ok.noex,ok.exfs,ok.funs,ok.frf,ok.tk⟩
theorem Cx.Ok.unwish {X:Cx} {E:Value->ah->Prop} (ok:(X.wish E).Ok):X.Ok:=
 ⟨ok.mod,ok.kind,ok.glob,ok.blt,ok.above,ok.inj,ok.has,ok.cab,ok.hd,ok.frames,ok.stk,ok.exf,ok.bs,ok.bsz,ok.noex,ok.exfs,ok.funs,ok.frf,ok.tk⟩
section
variable {X:Cx} {pins:List (Addr×Obj)} {σ:St} {H:Hp} {s:ah} {E:Value->ah->Prop}
theorem Inv.wish (I:Inv X pins σ H s) (E:Value->ah->Prop):Inv (X.wish E) pins σ H s:=⟨I.ok.wish E,I.os,I.bare,I.base,I.loc,I.cell,I.free,I.freeC,I.pin,I.hok,I.len⟩
theorem Inv.unwish (I:Inv (X.wish E) pins σ H s):Inv X pins σ H s:=⟨I.ok.unwish,I.os,I.bare,I.base,I.loc,I.cell,I.free,I.freeC,I.pin,I.hok,I.len⟩
theorem SP.unwish {D:Kr} {f:Flow} {s':ah} (h:SP (X.wish E) pins D f s'):SP X pins D f s':=by
 cases f with
 | next=>obtain⟨σ',H',I,q⟩:=h;exact⟨σ',H',I.unwish,q⟩
 | brk=>obtain⟨σ',H',I,q⟩:=h;exact⟨σ',H',I.unwish,q⟩
 | cont=>obtain⟨σ',H',I,q⟩:=h;exact⟨σ',H',I.unwish,q⟩
 | ret u=>obtain⟨v,σ',H',I,r,q⟩:=h;exact⟨v,σ',H',I.unwish,r,q⟩
theorem PSs.nox {st:List Stmt} {t:TS} (h:PSs X.nox st t):PSs X st t:=fun pins s σ H D I hw=>
 bP (h pins s σ H D (I.wish _) hw) (fun _ _ q=>q.unwish) fun _ _ z=>b6 z
end
section
variable {X:Cx} {st:Stmt} {rest:List Stmt} {t u:TS} {e:Expr} {te:TE} {pos:Pos}
noncomputable def aw2:TS:=fun D σ H=>D.nx σ H
noncomputable def cg5 (t u:TS):TS:=fun D σ H=>t { D with nx:=u D } σ H
theorem an0:PSs X [] aw2:=fun _ _ σ H _ I h=>hJ ⟨σ,H,I,h⟩
theorem ac6 (h1:PS X st t) (h2:PSs X rest u):PSs X (st::rest) (cg5 t u):=by
 intro pins s σ H D I h
 refine wpAny_execs_cons (thn (h1 pins s σ H { D with nx:=u D } I h) fun f s1 q=>?_)
 cases f with
 | next=>
  obtain⟨σ',H',I',q⟩:=q
  exact h2 pins s1 σ' H' D I' q
 | ret v=>exact q
 | brk=>exact q
 | cont=>exact q
noncomputable def bn3:TS:=fun D σ H=>D.bk σ H
noncomputable def b58:TS:=fun D σ H=>D.ct σ H
theorem am8:PS X (.Pass pos) aw2:=fun _ _ σ H _ I h=>wpAny_Pass ⟨σ,H,I,h⟩
theorem ac4:PS X (.Break pos) bn3:=fun _ _ σ H _ I h=>wpAny_Break ⟨σ,H,I,h⟩
theorem Pt:PS X (.Continue pos) b58:=fun _ _ σ H _ I h=>wpAny_Continue ⟨σ,H,I,h⟩
theorem Inv.quiet {pins:List (Addr×Obj)} {σ:St} {H:Hp} {s:ah} (I:Inv X pins σ H s):interactive X.env=false:=by simp [interactive,I.ok.kind]
noncomputable def b60 (te:TE):TS:=fun D σ H=>te σ H fun _ H1=>D.nx σ H1
theorem am7 (he:PE X e te) (hs:fX e none pos.line X.env=pure false:=by rfl):PS X (.Expr e pos) (b60 te):=by
 intro pins s σ H D I h
 exact wpAny_Expr_any (thn (he pins s σ H _ I h) fun v s1 ⟨x,H1,I1,r1,q1⟩=>⟨σ,H1,I1,q1⟩) I.quiet hs
noncomputable def cg4 (te:TE):TS:=fun D σ H=>te σ H D.rt
theorem ba7 (he:PE X e te):PS X (.Return (some e) pos) (cg4 te):=by
 intro pins s σ H D I h
 exact wpAny_Return_some (thn (he pins s σ H _ I h) fun v s1 ⟨x,H1,I1,r1,q1⟩=>⟨x,σ,H1,I1,r1,q1⟩)
noncomputable def b61:TS:=fun D _ H=>D.rt .non H
theorem am9:PS X (.Return none pos) b61:=fun _ _ σ H _ I h=>wpAny_Return_none ⟨.non,σ,H,I,rfl,h⟩
noncomputable def cg0 (c:TT) (t u:TS):TS:=fun D σ H=>c σ H fun b H1=>if b=true then t D σ H1 else u D σ H1
theorem by7 {c:Expr} {a b:List Stmt} {tc:TT} (hc:PT X c tc) (ha:PSs X a t) (hb:PSs X b u):PS X (.If c a b pos) (cg0 tc t u):=by
 intro pins s σ H D I h
 refine wpAny_If (thn (hc pins s σ H _ I h) fun d s1 ⟨H1,I1,q1⟩=>?_)
 cases d with
 | true=>exact ha pins s1 σ H1 D I1 q1
 | false=>exact hb pins s1 σ H1 D I1 q1
end
noncomputable abbrev TG:=V->St->Hp->(St->Hp->Prop)->Prop
noncomputable abbrev TGs:=List V->St->Hp->(St->Hp->Prop)->Prop
noncomputable def PG (X:Cx) (target:Expr) (t:TG):Prop:=
 ∀ (pins:List (Addr×Obj)) (s:ah) (σ:St) (H:Hp) (v:V) (u:Value) (Q:St->Hp->Prop),Inv X pins σ H s->RelV v u->t v σ H Q ->
  aI (model X.prog X.w) X.A (i4 target X.env u) (fun _ s'=>∃ σ' H',Inv X pins σ' H' s'/\Q σ' H') X.xe s
noncomputable def PGs (X:Cx) (ts:List Expr) (t:TGs):Prop:=
 ∀ (pins:List (Addr×Obj)) (s:ah) (σ:St) (H:Hp) (vs:List V) (us:List Value) (Q:St->Hp->Prop),Inv X pins σ H s->Vals vs us->t vs σ H Q ->
  aI (model X.prog X.w) X.A (assignInOrder ((cu ts X.env).map (·.2)) us) (fun _ s'=>∃ σ' H',Inv X pins σ' H' s'/\Q σ' H') X.xe s
noncomputable abbrev a01:=V->V->V->Hp->(Hp->Prop)->Prop
noncomputable def a00 (X:Cx) (t:a01):Prop:=
 ∀ (pins:List (Addr×Obj)) (s:ah) (σ:St) (H:Hp) (o i v:V) (ov iv u:Value) (Q:Hp->Prop),Inv X pins σ H s->RelV o ov->RelV i iv->RelV v u->t o i v H Q ->
  aI (model X.prog X.w) X.A (setItem ov iv u) (fun _ s'=>∃ H',Inv X pins σ H' s'/\Q H') X.xe s
section
variable {X:Cx} {pos:Pos}
noncomputable def Zg (i:Nat):TG:=fun v σ H Q=>Q (σ.set i (some v)) H
theorem am3 {i:Nat} {x:Str} (hN:X.N.Nodup) (hi:X.N[i]? = some x) (hx:Loc X.env.scope x) (hf:X.fn x=true\/X.env.scope.names.lookup x=some .local:=by first|exact .inl rfl|exact .inr rfl|assumption):PG X (.Name x pos) (Zg i):=by
 intro pins s σ H v u Q I r h
 exact wpAny_assign_Name (Gd I hN hi hx r (fun s' I'=>⟨_,H,I',h⟩) hf)
noncomputable def cd7:TGs:=fun vs σ H Q=>vs=[]/\Q σ H
noncomputable def bu1 (t:TG) (u:TGs):TGs:=fun vs σ H Q=>∃ v r,vs=v::r/\t v σ H fun σ' H'=>u r σ' H' Q
theorem am4:PGs X [] cd7:=by
 intro pins s σ H vs us Q I r h
 obtain⟨e,h⟩:=h
 subst e
 cases r
 exact assignInOrder_nil ⟨σ,H,I,h⟩
theorem ab4 {e:Expr} {es:List Expr} {t:TG} {u:TGs} (h1:PG X e t) (h2:PGs X es u)
  (hs:(cu (e::es) X.env).map (·.2)=i4 e X.env::(cu es X.env).map (·.2):=by rfl):PGs X (e::es) (bu1 t u):=by
 intro pins s σ H vs us Q I r h
 obtain⟨v,vr,e1,h⟩:=h
 subst e1
 cases r with
 | cons r rr=>
  rw [hs]
  refine assignInOrder_cons (thn (h1 pins s σ H _ _ _ I r h) fun _ s1 ⟨σ1,H1,I1,q1⟩=>?_)
  exact h2 pins s1 σ1 H1 _ _ Q I1 rr q1
noncomputable def cd9 (K:aa) (n:Nat) (t:TGs):TG:=fun v σ H Q=>∃ a xs,v=.ref a/\SqT K H a xs/\xs.length=n/\t xs σ H Q
theorem ba5 {es:List Expr} {k:Nat} {t:TGs} {n:Nat} (hc:X.calm=true) (h:PGs X es t)
  (hn:(cu es X.env).length=n:=by rfl) (hst:(cu es X.env).findIdx? (·.1)=none:=by rfl):PG X (.Tuple es k pos) (cd9 X.K n t):=by
 intro pins s σ H v u Q I r hw
 obtain⟨a,xs,e1,hq,hl,hw⟩:=hw
 subst e1
 cases r
 obtain⟨its,rv,ht,hz⟩:=I.tuple hq
 refine assign_Tuple_tuple (I.ok.hd hc) ht (by simp [hn,<- hl,rv.length]) hst fun h' hx=>?_
 have I1:Inv X pins σ H { s with heap:=h' }:=I.kept (t':=s.toks) fun b o e=>hx b o (aL (aA e)) e
 exact h pins _ σ H xs _ Q I1 (by simpa using rv) hw
noncomputable def cd8 (to ti:TE) (t:a01):TG:=fun v σ H Q=>to σ H fun o H1=>ti σ H1 fun i H2=>t o i v H2 fun H3=>Q σ H3
theorem ba4 {o i:Expr} {to ti:TE} {t:a01} (ho:PE X o to) (hi:PE X i ti) (hs:a00 X t)
  (ha:∀ v,i4 (.Subscript o i pos) X.env v=(do
   let ov <- holding [v] (eval o X.env)
   let iv <- holding [v,ov] (eval i X.env)
   iW pos
   holding [v,ov,iv] (setItem ov iv v)
   release [v,ov,iv] []):=by intro _;rfl):PG X (.Subscript o i pos) (cd8 to ti t):=by
 intro pins s σ H v u Q I r h
 rw [ha]
 refine ag (bv (thn (ho pins s σ H _ I h) fun ov s1 ⟨x,H1,I1,r1,q1⟩=>?_))
 refine ag (bv (thn (hi pins s1 σ H1 _ I1 q1) fun iv s2 ⟨y,H2,I2,r2,q2⟩=>?_))
 refine ag (cZ (ag (bv (thn (hs pins s2 σ H2 x y v ov iv u _ I2 r1 r2 r q2) fun _ s3 ⟨H3,I3,q3⟩=>?_))))
 exact wpAny_release ⟨σ,H3,I3,q3⟩
noncomputable def bn2 (te:TE) (g:TG):TS:=fun D σ H=>te σ H fun x H1=>g x σ H1 D.nx
theorem ac3 {tg e:Expr} {te:TE} {g:TG} (he:PE X e te) (hg:PG X tg g) (hs:iM [tg] e pos.line X.env=pure false:=by rfl) (hw:swappedStores [tg] e X.env=pure none:=by rfl)
  (h1:(cu [tg] X.env).map (·.2)=[i4 tg X.env]:=by rfl):PS X (.Assign [tg] e pos) (bn2 te g):=by
 intro pins s σ H D I h
 refine wpAny_Assign_stores (thn (he pins s σ H _ I h) fun v s1 ⟨x,H1,I1,r1,q1⟩=>?_) hs hw
 rw [h1]
 exact thn (hg pins s1 σ H1 x v _ I1 r1 q1) fun _ s2 q=>q
theorem ba8 {i:Nat} {x:Str} {e:Expr} {te:TE} {pos':Pos} (hN:X.N.Nodup) (hi:X.N[i]? = some x) (hx:Loc X.env.scope x) (he:PE X e te) (hs:fX e (some (.Name x pos')) pos.line X.env=pure false:=by rfl) (hf:X.fn x=true\/X.env.scope.names.lookup x=some .local:=by first|exact .inl rfl|exact .inr rfl|assumption) :
  PS X (.Assign [.Name x pos'] e pos) (bn2 te (Zg i)):=by
 intro pins s σ H D I h
 refine wpAny_Assign_Name (thn (he pins s σ H _ I h) fun v s1 ⟨y,H1,I1,r1,q1⟩=>?_) hs
 exact Gd I1 hN hi hx r1 (fun s2 I2=>⟨_,H1,I2,q1⟩) hf
end
structure It where
 go:Nat->Hp->Prop
 yld:Nat->Hp->V->Hp->Prop
 stop:Nat->Hp->Prop
noncomputable def Df (X:Cx) (pins:List (Addr×Obj)) (H:Hp) (b:Addr):Prop:=
 H b=none/\b≠X.env.locals/\b∉X.fs/\(b∈X.ex\/X.s₀.heap.objs.size<=b)/\(∀ x c,X.env.cells.lookup x=some c->c≠b) /\ ∀ p∈X.pn++pins,p.1≠b
theorem Inv.fpOk {X:Cx} {pins:List (Addr×Obj)} {σ:St} {H H':Hp} {s:ah} {b:Addr} (I:Inv X pins σ H s) (hb:s.heap.objs.size<=b) (hn:H' b=none):Df X pins H' b:=by
 refine⟨hn,eN (av I.lt hb),I.nofs hb,.inr (aD I.sz hb),fun x c e z=>?_,fun p hp z=>?_⟩
 ·obtain⟨v,q⟩:=I.cell x c e
  exact absurd (av q.lt (by rw [z];exact hb)) (d8 _)
 ·exact absurd (av (aA (I.pin p hp).1) (by rw [z];exact hb)) (d8 _)
structure Ov (P:aE) (w:bq) (K:aa) (tg:Expr) (J:It) (fp:List Addr) (it:Addr) (tn:Nat->Heap->Prop):Prop where
 mem:it∈fp
 obj:∀ i h,tn i h -> ∀ b∈fp,∃ o,h.get? b=some o /\ ∀ v,o.data≠.cell v
 keep:∀ i h h',tn i h->(∀ b∈fp,∀ o,h.get? b=some o->h'.get? b=some o)->tn i h'
 item:∀ (X:Cx),X.prog=P->X.w=w->X.K=K->X.calm=true -> ∀ (i:Nat) (pins:List (Addr×Obj)) (s:ah) (σ:St) (H:Hp) (E:Value->ah->Prop),Inv X pins σ H s->(∀ b∈fp,Df X pins H b)->tn i s.heap->J.go i H ->
  aI (model P w) X.A (pyNext (.ref it)) (fun r s1=>∃ u,r=some u /\
   aI (model P w) X.A (fq tg (.ref it) u) (fun _ s2=>∃ x H',Inv X pins σ H' s2/\RelV x u/\J.yld i H x H'/\tn (i+1) s2.heap /\ ∀ b∈fp,H' b=none) E s1) E s
 done:∀ (X:Cx),X.prog=P->X.w=w->X.K=K->X.calm=true -> ∀ (i:Nat) (pins:List (Addr×Obj)) (s:ah) (σ:St) (H:Hp) (E:Value->ah->Prop),Inv X pins σ H s->(∀ b∈fp,Df X pins H b)->tn i s.heap->J.stop i H ->
  aI (model P w) X.A (pyNext (.ref it)) (fun r s1=>r=none/\Inv X pins σ H s1) E s
 self:∀ (A:aT) (i:Nat) (s:ah) (Q:Value->ah->Prop) (E:Value->ah->Prop),tn i s.heap->Q (.ref it) s->aI (model P w) A (pyIter (.ref it)) Q E s
noncomputable abbrev TI:=St->Hp->(It->Hp->Prop)->Prop
noncomputable def PIE (X:Cx) (pins:List (Addr×Obj)) (σ:St) (tg:Expr) (R:It->Hp->Prop) (itv:Value) (s2:ah):Prop:=
 ∃ (it:Addr) (fp:List Addr) (tn:Nat->Heap->Prop) (J:It) (H':Hp),itv=.ref it/\Inv X pins σ H' s2/\Ov X.prog X.w X.K tg J fp it tn/\tn 0 s2.heap/\(∀ b∈fp,Df X pins H' b)/\R J H'
noncomputable def PI (X:Cx) (tg iter:Expr) (wi:TI):Prop:=
 ∀ (pins:List (Addr×Obj)) (s:ah) (σ:St) (H:Hp) (R:It->Hp->Prop),Inv X pins σ H s->wi σ H R ->
  aI (model X.prog X.w) X.A (eval iter X.env) (fun v s1=>aI (model X.prog X.w) X.A (pyIter v) (PIE X pins σ tg R) X.xe s1) X.xe s
theorem Lg {M:Model} {A:aT} {E:Value->ah->Prop} {s:ah} {tg:Expr} {it:Addr} {u:Value} {o:Obj} {n:String} {vs:Array Value} {Q:Unit->ah->Prop} (ho:s.heap.get? it=some o) (hc:o.cls=.type n) (hd:o.data=.fields vs)
    (hn:["enumerate", "zip", "dict_itemiterator", "dict_reverseitemiterator", "odict_iterator", "itertools.zip_longest", "itertools.pairwise"].contains n=false) (hQ:Q () s):aI M A (fq tg (.ref it) u) Q E s:=by
  unfold fq
  cases tg <;> first
    | exact am hQ
    | (cases u <;> first
        | exact am hQ
        | (refine ag (wpAny_load ho ?_)
           rw [hc,hd]
           show aI M A (if (["enumerate", "zip", "dict_itemiterator", "dict_reverseitemiterator", "odict_iterator", "itertools.zip_longest", "itertools.pairwise"].contains n&&vs[0]? == some (jf _))=true then _ else _) Q E s
           rw [if_neg (by intro h;rw [hn,hY] at h;cases h)]
           exact am hQ))
noncomputable def Itl (K:aa) (a:Addr):It:=
 ⟨fun i H=>∃ xs x,SqL K H a xs/\xs[i]? = some x,fun i H x H'=>H'=H /\ ∀ xs,SqL K H a xs->xs[i]? = some x,fun i H=>∃ xs,SqL K H a xs/\xs.length<=i⟩
noncomputable def Itt (K:aa) (a:Addr):It:=
 ⟨fun i H=>∃ xs x,SqT K H a xs/\xs[i]? = some x,fun i H x H'=>H'=H /\ ∀ xs,SqT K H a xs->xs[i]? = some x,fun i H=>∃ xs,SqT K H a xs/\xs.length<=i⟩
noncomputable def Itr (lo:Int) (n:Nat):It:=⟨fun i _=>i<n,fun i H x H'=>H'=H/\x=.int (lo+i),fun i _=>n<=i⟩
theorem Wp {P:aE} {w:bq} {K:aa} {tg:Expr} (a it:Addr):Ov P w K tg (Itl K a) [it] it (fun i h=>h.IsListIter it a i) where
 mem:=by simp
 obj:=fun i h st b hb=>by
  have e:b=it:=by simpa using hb
  subst e
  obtain⟨o,e,c,d⟩:=st
  exact⟨o,e,fun v z=>by rw [d] at z;cases z⟩
 keep:=fun i h h' st k=>st.at fun o e=>k it (by simp) o e
 item:=by
  intro X hP hw hK hc i pins s σ H E I hf st hg
  subst hP hw hK
  obtain⟨xs,x,hq,hx⟩:=hg
  obtain⟨its,rv,p,hz⟩:=I.list hq
  obtain⟨u,hu,ru⟩:=rv.get hx
  obtain⟨f0,f1,f2,f3,f4,f5⟩:=hf it (by simp)
  refine wpAny_pyNext_list_item st p.isList (x:=u) (by simpa using hu) fun h' st' sb=>?_
  have I1:Inv X pins σ H { s with heap:=h' }:=I.turned (t':=s.toks) (fun b o hb e=>(sb.2 b hb).trans e) f0 f1 f3 f4 f5
  obtain⟨o,e,c,d⟩:=id st'
  exact⟨u,rfl,Lg (s:={ s with heap:=h' }) e c d (by decide) ⟨x,H,I1,ru,⟨rfl,fun ys hy=>by rw [I.list_inj hy hq];exact hx⟩,st',fun b hb=>(hf b hb).1⟩⟩
 done:=by
  intro X hP hw hK hc i pins s σ H E I hf st hg
  subst hP hw hK
  obtain⟨xs,hq,hx⟩:=hg
  obtain⟨its,rv,p,hz⟩:=I.list hq
  obtain⟨f0,f1,f2,f3,f4,f5⟩:=hf it (by simp)
  have hl:=rv.length
  exact wpAny_pyNext_list_end (I.ok.hd hc) st p.isList (by simp;omega) fun h' eb=>⟨rfl,I.turned (t':=s.toks) (fun b o hb e=>eb b o hb e) f0 f1 f3 f4 f5⟩
 self:=fun _ _ _ _ _ st h=>wpAny_pyIter_listiter st h
theorem Sz {P:aE} {w:bq} {K:aa} {tg:Expr} (a it:Addr):Ov P w K tg (Itt K a) [it] it (fun i h=>h.IsTupleIter it a i) where
 mem:=by simp
 obj:=fun i h st b hb=>by
  have e:b=it:=by simpa using hb
  subst e
  obtain⟨o,e,c,d⟩:=st
  exact⟨o,e,fun v z=>by rw [d] at z;cases z⟩
 keep:=fun i h h' st k=>st.at fun o e=>k it (by simp) o e
 item:=by
  intro X hP hw hK hc i pins s σ H E I hf st hg
  subst hP hw hK
  obtain⟨xs,x,hq,hx⟩:=hg
  obtain⟨its,rv,p,hz⟩:=I.tuple hq
  obtain⟨u,hu,ru⟩:=rv.get hx
  obtain⟨f0,f1,f2,f3,f4,f5⟩:=hf it (by simp)
  refine wpAny_pyNext_tuple_item st (show s.heap.IsTuple a its.toArray from p) (x:=u) (by simpa using hu) fun h' st' sb=>?_
  have I1:Inv X pins σ H { s with heap:=h' }:=I.turned (t':=s.toks) (fun b o hb e=>(sb.2 b hb).trans e) f0 f1 f3 f4 f5
  obtain⟨o,e,c,d⟩:=id st'
  exact⟨u,rfl,Lg (s:={ s with heap:=h' }) e c d (by decide) ⟨x,H,I1,ru,⟨rfl,fun ys hy=>by rw [I.tuple_inj hy hq];exact hx⟩,st',fun b hb=>(hf b hb).1⟩⟩
 done:=by
  intro X hP hw hK hc i pins s σ H E I hf st hg
  subst hP hw hK
  obtain⟨xs,hq,hx⟩:=hg
  obtain⟨its,rv,p,hz⟩:=I.tuple hq
  obtain⟨f0,f1,f2,f3,f4,f5⟩:=hf it (by simp)
  have hl:=rv.length
  exact wpAny_pyNext_tuple_end (I.ok.hd hc) st (show s.heap.IsTuple a its.toArray from p) (by simp;omega) fun h' eb=>⟨rfl,I.turned (t':=s.toks) (fun b o hb e=>eb b o hb e) f0 f1 f3 f4 f5⟩
 self:=fun _ _ _ _ _ st h=>wpAny_pyIter_tupleiter st h
theorem Sy {P:aE} {w:bq} {K:aa} {tg:Expr} (it:Addr) (lo:Int) (n:Nat):Ov P w K tg (Itr lo n) [it] it (fun i h=>ib h it (lo+(i:Nat) * 1) ((n:Int) - (i:Nat)) 1) where
 mem:=by simp
 obj:=fun i h st b hb=>by
  have e:b=it:=by simpa using hb
  subst e
  exact⟨_,st,fun v z=>by
   have z':Data.fields _=Data.cell v:=z
   cases z'⟩
 keep:=fun i h h' st k=>k it (by simp) _ st
 item:=by
  intro X hP hw hK hc i pins s σ H E I hf st hg
  subst hP hw hK
  obtain⟨f0,f1,f2,f3,f4,f5⟩:=hf it (by simp)
  have W:=Walks.range (prog:=X.prog) (w:=X.w) (I.ok.hd hc) it lo 1 n
  refine bB (ae _) (W.item i s _ _ hg st fun v h' tk hv st' kk htk=>?_)
  obtain⟨t,rfl⟩:=hv
  have I1:Inv X pins σ H { s with heap:=h',toks:=tk }:=I.turned (fun b o hb e=>kk b o (by simpa using hb) e) f0 f1 f3 f4 f5
  refine⟨_,rfl,Lg (s:={ s with heap:=h',toks:=tk }) (n := "range_iterator") st' rfl rfl (by decide) ⟨.int (lo+i),H,I1,⟨t,?_⟩,⟨rfl,rfl⟩,st',fun b hb=>(hf b hb).1⟩⟩
  rw [Int.mul_one]
 done:=by
  intro X hP hw hK hc i pins s σ H E I hf st hg
  subst hP hw hK
  obtain⟨f0,f1,f2,f3,f4,f5⟩:=hf it (by simp)
  exact gN (I.ok.hd hc) st (by have:n<=i:=hg;omega) fun h' eb=>⟨rfl,I.turned (t':=s.toks) (fun b o hb e=>eb b o hb e) f0 f1 f3 f4 f5⟩
 self:=fun _ _ _ _ _ st h=>gM st h
section
variable {X:Cx} {tg:Expr}
theorem P4 {pins:List (Addr×Obj)} {σ:St} {H:Hp} {s:ah} {R:It->Hp->Prop} {E:Value->ah->Prop} {lo hi:Int} {t u v:Tok} {tk:Nat} (I:Inv X pins σ H s) (htk:s.toks<=tk) (h1:-(2 ^ 62)<=lo) (h2:lo<2 ^ 62) (h3:-(2 ^ 62)<=hi) (h4:hi<2 ^ 62)
  (q:R (Itr lo (hi - lo).toNat) H):aI (model X.prog X.w) X.A (pyIter (.ref s.heap.objs.size)) (PIE X pins σ tg R) E { s with heap:=s.heap.push { cls:=.type "range", data:=.fields #[.int lo t,.int hi u,.int 1 v] },toks:=tk }:=by
 refine iO (IsRange.new ..) (small_one h1 h2 h3 h4) ?_
 have I1:Inv X pins σ H { s with heap:=s.heap.push { cls:=.type "range", data:=.fields #[.int lo t,.int hi u,.int 1 v] },toks:=tk }:=I.kept fun b o e=>af _ e
 refine⟨(s.heap.push { cls:=.type "range", data:=.fields #[.int lo t,.int hi u,.int 1 v] }).objs.size,[(s.heap.push { cls:=.type "range", data:=.fields #[.int lo t,.int hi u,.int 1 v] }).objs.size],_,_,H,rfl,
  I1.kept (t':=tk) fun b o e=>af _ e,Sy _ lo (hi - lo).toNat,?_,fun b hb=>?_,q⟩
 ·have e1:lo+((0:Nat):Int) * 1=lo:=by simp
  have e2:(((hi - lo).toNat:Nat):Int) - ((0:Nat):Int)=bM lo hi 1:=by rw [rangeSize_one];split <;> omega
  show ib _ _ (lo+((0:Nat):Int) * 1) ((((hi - lo).toNat:Nat):Int) - ((0:Nat):Int)) 1
  rw [e1,e2]
  exact aF _ rfl
 ·have e:b=(s.heap.push { cls:=.type "range", data:=.fields #[.int lo t,.int hi u,.int 1 v] }).objs.size:=by simpa using hb
  subst e
  exact I1.fpOk (ae _) (I1.hok.fresh (ae _))
noncomputable def cf9 (wi:TI) (g:TG) (tb:TS):TS:=fun D σ H=>wi σ H fun J H1=>∃ W:Nat->Nat->St->Hp->Prop,(∃ m,W 0 m σ H1) /\ ∀ i m σ H,W i m σ H ->
 (J.stop i H/\D.nx σ H)\/(J.go i H /\ ∃ N:St->Hp->Prop,(∀ σ' H',N σ' H' -> ∃ m',m'<m/\W (i+1) m' σ' H') /\ ∀ x H',J.yld i H x H'->g x σ H' fun σ2 H2=>tb { D with nx:=N,ct:=N,bk:=D.nx } σ2 H2)
noncomputable def Gw (fp:List Addr) (h:Heap):List (Addr×Obj):=fp.filterMap fun b=>(h.get? b).map fun o=>(b,o)
theorem Dv {fp:List Addr} {h:Heap} {b:Addr} {o:Obj} (hb:b∈fp) (e:h.get? b=some o):(b,o)∈Gw fp h:=List.mem_filterMap.mpr ⟨b,hb,by rw [e];rfl⟩
theorem V6 {fp:List Addr} {h:Heap} {p:Addr×Obj} (hp:p∈Gw fp h):p.1∈fp/\h.get? p.1=some p.2:=by
 obtain⟨b,hb,e⟩:=List.mem_filterMap.mp hp
 cases q:h.get? b with
 | none=>rw [q] at e;cases e
 | some o=>
  rw [q] at e
  have e':(b,o)=p:=aM e
  subst e'
  exact⟨hb,q⟩
theorem Inv.pinned {pins:List (Addr×Obj)} {σ:St} {H:Hp} {s:ah} {fp:List Addr} (I:Inv X pins σ H s) (hf:∀ b∈fp,Df X pins H b) (ho:∀ b∈fp,∃ o,s.heap.get? b=some o /\ ∀ v,o.data≠.cell v):Inv X (pins++Gw fp s.heap) σ H s:=
 I.pins_of fun p hp=>(List.mem_append.mp hp).elim (fun z=>I.pin p (aW _ z)) fun z=>by
  obtain⟨hb,e⟩:=V6 z
  obtain⟨f0,f1,f2,_⟩:=hf p.1 hb
  obtain⟨o,e',d⟩:=ho p.1 hb
  rw [e] at e';cases e'
  exact⟨e,f0,f1,f2,d⟩
theorem Inv.unpinned {pins pl:List (Addr×Obj)} {σ:St} {H:Hp} {s:ah} (I:Inv X (pins++pl) σ H s):Inv X pins σ H s:=I.pins_of fun p hp=>I.pin p (aW _ (dD _ hp))
theorem ba6 {iter:Expr} {body:List Stmt} {wi:TI} {g:TG} {tb:TS} {pos:Pos} (hp:e8 (model X.prog X.w) X.A X.env X.xe) (hc:X.calm=true) (hi:PI X tg iter wi) (hg:PG X tg g) (hb:PSs X body tb)
  (hs:∀ x,dy iter X.env x=pure x:=by intro _;rfl):PS X (.For tg iter body [] pos) (cf9 wi g tb):=by
 intro pins s σ H D I h
 refine wpAny_For (thn (hi pins s σ H _ I h) fun v s1 h1=>thn h1 fun itv s2 h2=>?_) hs
 obtain⟨it,fp,tn,J,H2,e,I2,T,st2,f2,W,⟨m0,w0⟩,turn⟩:=h2
 subst e
 have stat:∀ {H':Hp},(∀ b∈fp,H' b=none) -> ∀ b∈fp,Df X pins H' b:=fun hn b hb=>⟨hn b hb,(f2 b hb).2⟩
 refine codeAny_forLoop_any (fun n s'=>∃ i σ' H',Inv X pins σ' H' s'/\tn i s'.heap/\(∀ b∈fp,H' b=none)/\W i n σ' H') ?_ m0 ⟨0,σ,H2,I2,st2,fun b hb=>(f2 b hb).1,w0⟩
 rintro n s3 ⟨i,σ3,H3,I3,st3,fr3,w3⟩
 rcases turn i n σ3 H3 w3 with ⟨stop,qn⟩|⟨go,N,hN,step⟩
 ·refine eh hp (thn (T.done X rfl rfl rfl hc i pins s3 σ3 H3 X.xe I3 (stat fr3) st3 stop) fun r s4 ⟨hr,I4⟩=>?_)
  subst hr
  exact hJ ⟨σ3,H3,I4,qn⟩
 ·refine eh hp (thn (T.item X rfl rfl rfl hc i pins s3 σ3 H3 X.xe I3 (stat fr3) st3 go) fun r s4 ⟨u,hr,h4⟩=>?_)
  subst hr
  refine eh hp (thn h4 fun _ s5 ⟨x,H5,I5,r5,y5,st5,fr5⟩=>?_)
  have I5':=I5.pinned (stat fr5) (T.obj _ _ st5)
  refine eh hp (thn (hg _ s5 σ3 H5 x u _ I5' r5 (step x H5 y5)) fun _ s6 ⟨σ6,H6,I6,q6⟩=>?_)
  refine eh hp (thn (hb _ s6 σ6 H6 _ I6 q6) fun f s7 q7=>?_)
  have again:∀ {σ7:St} {H7:Hp},Inv X (pins++Gw fp s5.heap) σ7 H7 s7->N σ7 H7 -> ∃ m,m<n /\ ∃ i σ' H',Inv X pins σ' H' s7/\tn i s7.heap/\(∀ b∈fp,H' b=none)/\W i m σ' H':=fun {σ7 H7} I7 n7=>by
   obtain⟨m',hm,w7⟩:=hN σ7 H7 n7
   refine⟨m',hm,i+1,σ7,H7,I7.unpinned,T.keep _ _ _ st5 fun b hb o e=>(I7.pin (b,o) (aW _ (aW _ (Dv hb e)))).1,fun b hb=>?_,w7⟩
   obtain⟨o,e,d⟩:=T.obj _ _ st5 b hb
   exact (I7.pin (b,o) (aW _ (aW _ (Dv hb e)))).2.1
  cases f with
  | next=>obtain⟨σ7,H7,I7,n7⟩:=q7;exact again I7 n7
  | cont=>obtain⟨σ7,H7,I7,n7⟩:=q7;exact again I7 n7
  | brk=>obtain⟨σ7,H7,I7,q7⟩:=q7;exact⟨σ7,H7,I7.unpinned,q7⟩
  | ret v=>obtain⟨x7,σ7,H7,I7,r7,q7⟩:=q7;exact⟨x7,σ7,H7,I7.unpinned,r7,q7⟩
end
noncomputable abbrev R2:=V->V->Hp->VK->Prop
noncomputable def OpR (X:Cx) (f:Value->Value->Sem Value) (r:R2):Prop:=
 ∀ (pins:List (Addr×Obj)) (s:ah) (σ:St) (H:Hp) (x y:V) (v u:Value) (Q:VK),Inv X pins σ H s->RelV x v->RelV y u->r x y H Q ->
  aI (model X.prog X.w) X.A (f v u) (EP X pins σ Q) X.xe s
noncomputable def UnR (X:Cx) (f:Value->Sem Value) (r:V->Hp->VK->Prop):Prop:=
 ∀ (pins:List (Addr×Obj)) (s:ah) (σ:St) (H:Hp) (x:V) (v:Value) (Q:VK),Inv X pins σ H s->RelV x v->r x H Q ->
  aI (model X.prog X.w) X.A (f v) (EP X pins σ Q) X.xe s
noncomputable def Br (X:Cx) (f:Value) (r:List V->Hp->VK->Prop):Prop:=
 ∀ (pins:List (Addr×Obj)) (s:ah) (σ:St) (H:Hp) (xs:List V) (us:List Value) (Q:VK),Inv X pins σ H s->Vals xs us->r xs H Q ->
  aI (model X.prog X.w) X.A (call f us) (EP X pins σ Q) X.xe s
noncomputable def bt0 (X:Cx) (r:V->Hp->(Bool->Hp->Prop)->Prop):Prop:=
 ∀ (pins:List (Addr×Obj)) (s:ah) (σ:St) (H:Hp) (x:V) (v:Value) (Q:Bool->Hp->Prop),Inv X pins σ H s->RelV x v->r x H Q ->
  aI (model X.prog X.w) X.A (truthy v) (TP X pins σ Q) X.xe s
noncomputable def tOp (r:R2) (ta tb:TE):TE:=fun σ H Q=>ta σ H fun x H1=>tb σ H1 fun y H2=>r x y H2 Q
noncomputable def tUn (r:V->Hp->VK->Prop) (ta:TE):TE:=fun σ H Q=>ta σ H fun x H1=>r x H1 Q
noncomputable def rI (C:Int->Int->Prop) (g:Int->Int->V):R2:=fun x y H Q=>∃ i j,x=.int i/\y=.int j/\C i j/\Q (g i j) H
noncomputable def rI0 (g:Int->Int->V):R2:=fun x y H Q=>∃ i j,x=.int i/\y=.int j/\Q (g i j) H
noncomputable def rU (g:Int->V):V->Hp->VK->Prop:=fun x H Q=>∃ i,x=.int i/\Q (g i) H
section
variable {X:Cx} {a b c:Expr} {ta tb tc:TE} {pos:Pos}
theorem a04 (ha:PE X a ta) (hb:PE X b tb) {pins:List (Addr×Obj)} {s:ah} {σ:St} {H:Hp} {R:V->V->Hp->Prop} (I:Inv X pins σ H s)
  (h:ta σ H fun x H1=>tb σ H1 fun y H2=>R x y H2) {Q:Value->ah->Prop} {f:Value->Value->Sem Value}
  (hf:∀ v u s2 x y H2,Inv X pins σ H2 s2->RelV x v->RelV y u->R x y H2->aI (model X.prog X.w) X.A (f v u) Q X.xe s2) :
  aI (model X.prog X.w) X.A (eval a X.env) (fun v s₁=>aI (model X.prog X.w) X.A (eval b X.env) (fun u s₂=>aI (model X.prog X.w) X.A (f v u) Q X.xe s₂) X.xe s₁) X.xe s:=by
 refine thn (ha pins s σ H _ I h) fun v s1 ⟨x,H1,I1,r1,q1⟩=>?_
 refine thn (hb pins s1 σ H1 _ I1 q1) fun u s2 ⟨y,H2,I2,r2,q2⟩=>?_
 exact hf v u s2 x y H2 I2 r1 r2 q2
theorem by3 {op:jm} {r:R2} (ho:OpR X (ef op) r) (ha:PE X a ta) (hb:PE X b tb):PE X (.BinOp a op b pos) (tOp r ta tb):=by
 intro pins s σ H Q I h
 exact wpAny_BinOp (a04 ha hb I h fun v u s2 x y H2 I2 rx ry q=>ho pins s2 σ H2 x y v u Q I2 rx ry q)
theorem at3 {op:UnaryOp} {r:V->Hp->VK->Prop} (ho:UnR X (js op) r) (ha:PE X a ta):PE X (.UnaryOp op a pos) (tUn r ta):=by
 intro pins s σ H Q I h
 exact UnaryOp_ (thn (ha pins s σ H _ I h) fun v s1 ⟨x,H1,I1,r1,q1⟩=>ho pins s1 σ H1 x v Q I1 r1 q1)
theorem opI {f:Value->Value->Sem Value} {C:Int->Int->Prop} {g:Int->Int->Int}
  (rule:∀ (i j:Int) (t u:Tok) (s:ah) (Q:Value->ah->Prop) (E:Value->ah->Prop),C i j->Q (.int (g i j) s.toks) { s with toks:=s.toks+1 }->aI (model X.prog X.w) X.A (f (.int i t) (.int j u)) Q E s) :
  OpR X f (rI C fun i j=>.int (g i j)):=by
 intro pins s σ H x y v u Q I rx ry h
 obtain⟨i,j,rfl,rfl,hc,q⟩:=h
 obtain⟨t,rfl⟩:=rx
 obtain⟨t',rfl⟩:=ry
 exact rule i j t t' s _ _ hc ⟨.int (g i j),H,I.tok _,⟨_,rfl⟩,q⟩
theorem bx6 {f:Value->Value->Sem Value} {g:Int->Int->Int}
  (rule:∀ (i j:Int) (t u:Tok) (s:ah) (Q:Value->ah->Prop) (E:Value->ah->Prop),Q (.int (g i j) s.toks) { s with toks:=s.toks+1 }->aI (model X.prog X.w) X.A (f (.int i t) (.int j u)) Q E s) :
  OpR X f (rI0 fun i j=>.int (g i j)):=by
 intro pins s σ H x y v u Q I rx ry h
 obtain⟨i,j,rfl,rfl,q⟩:=h
 obtain⟨t,rfl⟩:=rx
 obtain⟨t',rfl⟩:=ry
 exact rule i j t t' s _ _ ⟨.int (g i j),H,I.tok _,⟨_,rfl⟩,q⟩
theorem al4 {f:Value->Value->Sem Value} {g:Int->Int->Bool}
  (rule:∀ (i j:Int) (t u:Tok) (s:ah) (Q:Value->ah->Prop) (E:Value->ah->Prop),Q (.bool (g i j)) s->aI (model X.prog X.w) X.A (f (.int i t) (.int j u)) Q E s) :
  OpR X f (rI0 fun i j=>.bl (g i j)):=by
 intro pins s σ H x y v u Q I rx ry h
 obtain⟨i,j,rfl,rfl,q⟩:=h
 obtain⟨t,rfl⟩:=rx
 obtain⟨t',rfl⟩:=ry
 exact rule i j t t' s _ _ ⟨.bl (g i j),H,I,rfl,q⟩
noncomputable def bs3 (i j:Int):Prop:=0<j/\j<1073741824
noncomputable def bs4 (i j:Int):Prop:=0<=j/\j<=1000000/\i.natAbs<2 ^ 64
noncomputable def CMul (i j:Int):Prop:=(-(2 ^ 64)<i/\i<2 ^ 64)\/(-(2 ^ 64)<j/\j<2 ^ 64)
theorem CMul.ok {i j:Int} (h:CMul i j):IntMulOk i j:=by
 rcases h with ⟨h1,h2⟩|⟨h1,h2⟩
 ·exact .of_left (intBits_le_64 h1 h2)
 ·exact .of_right (intBits_le_64 h1 h2)
theorem a88:OpR X (ef .Add) (rI0 fun i j=>.int (i+j)):=bx6 fun _ _ _ _ _ _ _ q=>add_int q
theorem a95:OpR X (ef .Sub) (rI0 fun i j=>.int (i - j)):=bx6 fun _ _ _ _ _ _ _ q=>sub_int q
theorem a92:OpR X (ef .Mult) (rI CMul fun i j=>.int (i * j)):=opI fun _ _ _ _ _ _ _ hc q=>mul_int q hc.ok
theorem al6:OpR X (ef .FloorDiv) (rI bs3 fun i j=>.int (i / j)):=opI fun i j _ _ _ _ _ hc q=>by
 have h1:(0:Int)<j:=hc.1
 have h2:j<1073741824:=hc.2
 exact floordiv_int (by omega) (by rw [Int.fdiv_eq_ediv_of_nonneg i (by omega)];exact q) (.inl (gI (by omega)))
theorem a91:OpR X (ef .Mod) (rI (fun _ j=>0<j) fun i j=>.int (i % j)):=opI fun i j _ _ _ _ _ hc q=>by
 have h1:(0:Int)<j:=hc
 exact mod_int' (by omega) (by rw [Int.fmod_eq_emod_of_nonneg i (by omega)];exact q)
theorem a94:OpR X (ef .Pow) (rI bs4 fun i j=>.int (i ^ j.toNat)):=opI fun _ _ _ _ _ _ _ hc q=>pow_int_small hc.1 hc.2.1 hc.2.2 q
theorem unI {f:Value->Sem Value} {g:Int->Int}
  (rule:∀ (i:Int) (t:Tok) (s:ah) (Q:Value->ah->Prop) (E:Value->ah->Prop),Q (.int (g i) s.toks) { s with toks:=s.toks+1 }->aI (model X.prog X.w) X.A (f (.int i t)) Q E s) :
  UnR X f (rU fun i=>.int (g i)):=by
 intro pins s σ H x v Q I rx h
 obtain⟨i,rfl,q⟩:=h
 obtain⟨t,rfl⟩:=rx
 exact rule i t s _ _ ⟨.int (g i),H,I.tok _,⟨_,rfl⟩,q⟩
theorem bn7:UnR X (js .USub) (rU fun i=>.int (-i)):=unI fun _ _ _ _ _ q=>neg_int q
theorem bn6:UnR X (js .Invert) (rU fun i=>.int (Builtin.bitNot i)):=unI fun _ _ _ _ _ q=>invert_int q
end
noncomputable def bm6:V->V->Bool
 | .non,.non=>true | .non,.int _=>true | .int _,.non=>true | .non,.bl _=>true | .bl _,.non=>true | .non,.str _=>true | .str _,.non=>true
 | .int _,.int _=>true | .bl _,.bl _=>true | .str _,.str _=>true | .byt _,.byt _=>true
 | .int _,.str _=>true | .str _,.int _=>true | .bl _,.str _=>true | .str _,.bl _=>true
 | _,_=>false
noncomputable def rEq:R2:=fun x y H Q=>bm6 x y=true/\Q (.bl (decide (x=y))) H
noncomputable def rNe:R2:=fun x y H Q=>bm6 x y=true/\Q (.bl (!decide (x=y))) H
theorem Hg {i j:Int}:decide (V.int i=V.int j)=(i==j):=by
 rw [df]
 simp
theorem Mi {i j:Bool}:decide (V.bl i=V.bl j)=(i==j):=by
 rw [df]
 simp
theorem Hh {i j:Str}:decide (V.str i=V.str j)=(i==j):=by
 rw [df]
 simp
theorem To {i j:Array UInt8}:decide (V.byt i=V.byt j)=(i.toList==j.toList):=by
 rw [df]
 cases i
 cases j
 simp
section
variable {X:Cx} {a b c:Expr} {ta tb tc:TE} {pos:Pos}
theorem Av {pins:List (Addr×Obj)} {σ:St} {H:Hp} {s:ah} {Q:VK} {k k':Bool} (I:Inv X pins σ H s) (q:Q (.bl k) H) (e:k=k'):EP X pins σ Q (.bool k') s:=by
 subst e
 exact⟨.bl k,H,I,rfl,q⟩
theorem Uj:OpR X (bY .Eq) rEq:=by
 intro pins s σ H x y v u Q I rx ry h
 obtain⟨hs,q⟩:=h
 cases x with
 | non=>
  cases rx
  cases y with
  | non=>cases ry;exact PySem.EqNone.eq_none_none (Av I q (by simp))
  | bl j=>cases ry;exact PySem.EqNone.eq_none_bool (Av I q (by simp))
  | int j=>obtain⟨t',rfl⟩:=ry;exact PySem.EqNone.eq_none_int (Av I q (by simp))
  | str j=>obtain⟨t',rfl⟩:=ry;exact PySem.EqNone.eq_none_str (Av I q (by simp))
  | _=>exact absurd (show false=true from hs) aj
 | bl i=>
  cases rx
  cases y with
  | non=>cases ry;exact PySem.EqNone.eq_bool_none (Av I q (by simp))
  | bl j=>cases ry;exact eq_bool (Av I q Mi)
  | str j=>obtain⟨t',rfl⟩:=ry;exact PySem.EqMixed.eq_bool_str (Av I q (by simp))
  | _=>exact absurd (show false=true from hs) aj
 | int i=>
  obtain⟨t,rfl⟩:=rx
  cases y with
  | non=>cases ry;exact PySem.EqNone.eq_int_none (Av I q (by simp))
  | int j=>obtain⟨t',rfl⟩:=ry;exact eq_int (Av I q Hg)
  | str j=>obtain⟨t',rfl⟩:=ry;exact PySem.EqMixed.eq_int_str (Av I q (by simp))
  | _=>exact absurd (show false=true from hs) aj
 | str i=>
  obtain⟨t,rfl⟩:=rx
  cases y with
  | non=>cases ry;exact PySem.EqNone.eq_str_none (Av I q (by simp))
  | bl j=>cases ry;exact PySem.EqMixed.eq_str_bool (Av I q (by simp))
  | int j=>obtain⟨t',rfl⟩:=ry;exact PySem.EqMixed.eq_str_int (Av I q (by simp))
  | str j=>obtain⟨t',rfl⟩:=ry;exact eq_str (Av I q Hh)
  | _=>exact absurd (show false=true from hs) aj
 | byt i=>
  obtain⟨t,rfl⟩:=rx
  cases y with
  | byt j=>obtain⟨t',rfl⟩:=ry;exact PySem.W.eq_bytes (Av I q To)
  | _=>exact absurd (show false=true from hs) aj
 | _=>cases y <;> exact absurd (show false=true from hs) aj
theorem Uk:OpR X (bY .NotEq) rNe:=by
 intro pins s σ H x y v u Q I rx ry h
 obtain⟨hs,q⟩:=h
 cases x with
 | non=>
  cases rx
  cases y with
  | non=>cases ry;exact PySem.EqNone.ne_none_none (Av I q (by simp))
  | bl j=>cases ry;exact PySem.EqNone.ne_none_bool (Av I q (by simp))
  | int j=>obtain⟨t',rfl⟩:=ry;exact PySem.EqNone.ne_none_int (Av I q (by simp))
  | str j=>obtain⟨t',rfl⟩:=ry;exact PySem.EqNone.ne_none_str (Av I q (by simp))
  | _=>exact absurd (show false=true from hs) aj
 | bl i=>
  cases rx
  cases y with
  | non=>cases ry;exact PySem.EqNone.ne_bool_none (Av I q (by simp))
  | bl j=>cases ry;exact ne_bool (Av I q (congrArg not Mi))
  | str j=>obtain⟨t',rfl⟩:=ry;exact PySem.EqMixed.ne_bool_str (Av I q (by simp))
  | _=>exact absurd (show false=true from hs) aj
 | int i=>
  obtain⟨t,rfl⟩:=rx
  cases y with
  | non=>cases ry;exact PySem.EqNone.ne_int_none (Av I q (by simp))
  | int j=>obtain⟨t',rfl⟩:=ry;exact ne_int (Av I q (congrArg not Hg))
  | str j=>obtain⟨t',rfl⟩:=ry;exact PySem.EqMixed.ne_int_str (Av I q (by simp))
  | _=>exact absurd (show false=true from hs) aj
 | str i=>
  obtain⟨t,rfl⟩:=rx
  cases y with
  | non=>cases ry;exact PySem.EqNone.ne_str_none (Av I q (by simp))
  | bl j=>cases ry;exact PySem.EqMixed.ne_str_bool (Av I q (by simp))
  | int j=>obtain⟨t',rfl⟩:=ry;exact PySem.EqMixed.ne_str_int (Av I q (by simp))
  | str j=>obtain⟨t',rfl⟩:=ry;exact ne_str (Av I q (congrArg not Hh))
  | _=>exact absurd (show false=true from hs) aj
 | byt i=>
  obtain⟨t,rfl⟩:=rx
  cases y with
  | byt j=>obtain⟨t',rfl⟩:=ry;exact PySem.W.ne_bytes (Av I q (congrArg not To))
  | _=>exact absurd (show false=true from hs) aj
 | _=>cases y <;> exact absurd (show false=true from hs) aj
theorem by0:OpR X (bY .Lt) (rI0 fun i j=>.bl (decide (i<j))):=al4 fun _ _ _ _ _ _ _ q=>lt_int q
theorem bx9:OpR X (bY .LtE) (rI0 fun i j=>.bl (decide (i<=j))):=al4 fun _ _ _ _ _ _ _ q=>le_int q
theorem bx8:OpR X (bY .Gt) (rI0 fun i j=>.bl (decide (j<i))):=al4 fun _ _ _ _ _ _ _ q=>gt_int q
theorem bx7:OpR X (bY .GtE) (rI0 fun i j=>.bl (decide (j<=i))):=al4 fun _ _ _ _ _ _ _ q=>ge_int q
theorem V9:OpR X (bY .Lt) (fun x y H Q=>∃ i j,x=.str i/\y=.str j/\Q (.bl (decide (i.cps.toList<j.cps.toList))) H):=by
 intro pins s σ H x y v u Q I rx ry h
 obtain⟨i,j,rfl,rfl,q⟩:=h
 obtain⟨t,rfl⟩:=rx
 obtain⟨t',rfl⟩:=ry
 exact lt_str (Av I q rfl)
theorem a90:OpR X (bY .Is) (fun x y H Q=>y=.non/\Q (.bl (decide (x=.non))) H):=by
 intro pins s σ H x y v u Q I rx ry h
 obtain⟨rfl,q⟩:=h
 cases ry
 refine is_none_gen (Av I q ?_)
 cases x <;> first
  | (cases rx;rfl)
  | (obtain⟨t,rfl⟩:=rx;rfl)
  | (obtain⟨t,rfl,_⟩:=rx;rfl)
theorem al7:OpR X (bY .IsNot) (fun x y H Q=>y=.non/\Q (.bl (!decide (x=.non))) H):=by
 intro pins s σ H x y v u Q I rx ry h
 obtain⟨rfl,q⟩:=h
 cases ry
 refine isnot_none_gen (Av I q ?_)
 cases x <;> first
  | (cases rx;rfl)
  | (obtain⟨t,rfl⟩:=rx;rfl)
  | (obtain⟨t,rfl,_⟩:=rx;rfl)
theorem OpR.or {f:Value->Value->Sem Value} {r r':R2} (h:OpR X f r) (h':OpR X f r'):OpR X f (fun x y H Q=>r x y H Q\/r' x y H Q):=by
 intro pins s σ H x y v u Q I rx ry q
 rcases q with q|q
 ·exact h pins s σ H x y v u Q I rx ry q
 ·exact h' pins s σ H x y v u Q I rx ry q
theorem am1 {op:jk} {r:R2} (ho:OpR X (bY op) r) (ha:PE X a ta) (hb:PE X b tb) (hm:gf op b=false):PE X (.Compare a [op] [b] pos) (tOp r ta tb):=by
 intro pins s σ H Q I h
 exact wpAny_Compare1 (a04 ha hb I h fun v u s2 x y H2 I2 rx ry q=>ho pins s2 σ H2 x y v u Q I2 rx ry q) hm
noncomputable def bt1 (K:aa) (x:V) (H:Hp) (k:Bool):Prop:=
 match x with
 | .non=>k=false
 | .bl b=>k=b
 | .int i=>k=(i != 0)
 | .str y=>y.length<=sizeLine/\k=((y.length:Int) != 0)
 | .byt y=>y.size<=sizeLine/\k=((y.size:Int) != 0)
 | .ref p=>(∃ xs,SqL K H p xs/\k = !xs.isEmpty)\/(∃ xs,SqT K H p xs/\k = !xs.isEmpty) \/ ∃ kvs,H p=some (.dK kvs)/\k = !kvs.isEmpty
 | _=>False
theorem Qx {κ:Type} {kvs:List (κ×V)} {vs:List (κ×Value)} (r:KV kvs vs):(!vs.isEmpty) = !kvs.isEmpty:=by
 cases r <;> rfl
theorem Ij {xs:List V} {its:List Value} (r:Vals xs its):(!its.toArray.isEmpty) = !xs.isEmpty:=by
 cases r <;> simp
theorem Ff:(sizeLine:Nat)<2 ^ 63:=by rw [bD];decide
theorem Km:bt0 X (fun x H Q=>∃ k,bt1 X.K x H k/\Q k H):=by
 intro pins s σ H x v Q I rx h
 obtain⟨k,e,q⟩:=h
 have hl:=Ff
 have hs:sizeLine=16777216:=bD
 cases x with
 | non=>
  cases rx
  have e':k=false:=e
  subst e'
  exact truthy_none ⟨H,I,q⟩
 | bl b=>
  cases rx
  have e':k=b:=e
  subst e'
  exact cU ⟨H,I,q⟩
 | int i=>
  obtain⟨t,rfl⟩:=rx
  have e':k=(i != 0):=e
  subst e'
  exact PySem.P.truthy_int ⟨H,I,q⟩
 | str y=>
  obtain⟨t,rfl⟩:=rx
  obtain⟨hy,e'⟩:y.length<=sizeLine/\k=((y.length:Int) != 0):=e
  subst e'
  exact PySem.P.truthy_str (by omega) ⟨H,I.tok _,q⟩
 | byt y=>
  obtain⟨t,rfl⟩:=rx
  obtain⟨hy,e'⟩:y.size<=sizeLine/\k=((y.size:Int) != 0):=e
  subst e'
  exact PySem.W.truthy_bytes (by omega) ⟨H,I.tok _,q⟩
 | ref p=>
  cases rx
  have e':(∃ xs,SqL X.K H p xs/\k = !xs.isEmpty)\/(∃ xs,SqT X.K H p xs/\k = !xs.isEmpty) \/ ∃ kvs,H p=some (.dK kvs)/\k = !kvs.isEmpty:=e
  rcases e' with ⟨xs,hx,e'⟩|⟨xs,hx,e'⟩|⟨kvs,hx,e'⟩
  ·subst e'
   obtain⟨its,r,pl,hz⟩:=I.list hx
   have hlen:=r.length
   exact wpAny_truthy_list pl.isList (by simp only [al];omega) ⟨H,I.tok _,by rw [Ij r];exact q⟩
  ·subst e'
   obtain⟨its,r,pl,hz⟩:=I.tuple hx
   have hlen:=r.length
   exact truthy_tuple pl (by simp only [al];omega) ⟨H,I.tok _,by rw [Ij r];exact q⟩
  ·subst e'
   obtain⟨hz,hS,vs,r,m⟩:kvs.length<=sizeLine/\(p==cS)=false /\ ∃ vs,KV kvs vs/\s.heap.DictOf (Ay X.prog X.w) p vs:=I.hok p _ hx
   have hlen:kvs.length=vs.length:=fZ r
   exact wpAny_truthy_dict hS m (by omega) ⟨H,I.tok _,by rw [Qx r];exact q⟩
 | _=>exact (show False from e).elim
theorem Q9:OpR X (ef .Add) (fun x y H Q=>∃ i j,x=.str i/\y=.str j/\i.length+j.length<=sizeLine/\Q (.str (i++j)) H):=by
 intro pins s σ H x y v u Q I rx ry h
 obtain⟨i,j,rfl,rfl,hz,q⟩:=h
 obtain⟨t,rfl⟩:=rx
 obtain⟨t',rfl⟩:=ry
 exact bB (ae _) (add_str (fun t' tk htk=>⟨.str (i++j),H,I.tok _ htk,⟨_,rfl⟩,q⟩) hz)
theorem Fc {x:V} {us:List Value} (r:Vals [x] us):∃ u,us=[u]/\RelV x u:=by
 cases r with
 | cons r1 r2=>cases r2;exact⟨_,rfl,r1⟩
theorem aw5 {x y:V} {us:List Value} (r:Vals [x,y] us):∃ u w',us=[u,w']/\RelV x u/\RelV y w':=by
 cases r with
 | cons r1 r2=>
  cases r2 with
  | cons r3 r4=>cases r4;exact⟨_,_,rfl,r1,r3⟩
theorem Vh (hc:X.calm=true):Br X (.builtin "max") (fun xs H Q=>∃ i j,xs=[.int i,.int j]/\Q (.int (if j > i then j else i)) H):=by
 intro pins s σ H xs us Q I r h
 obtain⟨i,j,rfl,q⟩:=h
 obtain⟨u,w',rfl,⟨t,rfl⟩,⟨t',rfl⟩⟩:=aw5 r
 refine bB (ae _) (max_two_ints (I.ok.hd hc) fun h' tk k htk=>⟨_,H,I.kept k htk,?_,q⟩)
 by_cases hj:j > i
 ·rw [if_pos hj,if_pos hj];exact⟨_,rfl⟩
 ·rw [if_neg hj,if_neg hj];exact⟨_,rfl⟩
theorem La:Br X (.type "int") (fun xs H Q=>(∃ i,xs=[.int i]/\Q (.int i) H) \/ ∃ k,xs=[.bl k]/\Q (.int (if k then 1 else 0)) H):=by
 intro pins s σ H xs us Q I r h
 rcases h with ⟨i,rfl,q⟩|⟨k,rfl,q⟩
 ·obtain⟨u,rfl,t,rfl⟩:=Fc r
  exact call_int_int ⟨.int i,H,I,⟨_,rfl⟩,q⟩
 ·obtain⟨u,rfl,r1⟩:=Fc r
  cases r1
  exact call_int_bool ⟨.int (if k then 1 else 0),H,I.tok _,⟨_,rfl⟩,q⟩
theorem Yv:Br X (.builtin "ord") (fun xs H Q=>∃ x,xs=[.str x]/\x.length=1/\Q (.int (x.cps.getD 0 0:Nat)) H):=by
 intro pins s σ H xs us Q I r h
 obtain⟨x,rfl,hz,q⟩:=h
 obtain⟨u,rfl,t,rfl⟩:=Fc r
 exact ord_of_one hz ⟨.int _,H,I.tok _,⟨_,rfl⟩,q⟩
end
structure ObjM (h:Heap) (x dx C:Addr) (mA:Str->Option Value):Prop where
 obj:h.get? x=some (bt C dx)
 ns:h.Ns1 dx mA
 ne:dx≠x
theorem Gs {h:Heap} {dx:Addr} {mA:Str->Option Value} (n:h.Ns1 dx mA):∃ od,h.get? dx=some od /\ ∀ name,fI name od=some (mA name):=by
 obtain⟨o,es,ep,ho,hd,hk,_,hm⟩:=n
 refine⟨o,ho,fun name=>?_⟩
 have e:=hm name
 unfold nsFind findBy at e
 rw [<- Array.find?_toList] at e
 unfold fI
 rw [hd]
 dsimp only
 split
 ·rename_i y q
  rw [q] at e
  exact congrArg some e
 ·rename_i q
  rw [q] at e
  have a:es.toList.any (·.refKey)=false:=by
   rw [List.any_eq_false]
   intro y hy
   obtain⟨z,t,hkey⟩:=hk y (Array.mem_toList_iff.mp hy)
   simp [DictEntry.refKey,hkey]
  have a':¬ es.toList.any (·.refKey)=true:=by rw [a];exact aj
  rw [if_neg a']
  exact congrArg some e
theorem ObjM.look {h:Heap} {x dx C:Addr} {mA:Str->Option Value} (I:ObjM h x dx C mA):∃ od,dH h x (bt C dx) C (some od) /\ ∀ name,fI name od=some (mA name):=
 let ⟨od,ho,hl⟩:=Gs I.ns
 ⟨od,⟨I.obj,rfl,rfl,ho⟩,hl⟩
section
variable {prog:aE} {w:bq} {A:aT} {E:Value->ah->Prop} {s:ah} {K:aa} {x dx C f:Addr} {mA:Str->Option Value} {name:Str} {v:Value}
theorem ak2 {expr:Bool} {Q:Value->ah->Prop} (X:K.In s.heap) (I:ObjM s.heap x dx C mA) (hg:bR K C name=true) (hh:bV K C=true)
  (ha:ac K (.ref C) name=some none) (hv:mA name=some v) (hv':dJ v=true) (h:Q v { s with toks:=s.toks+1 }) :
  aI (model prog w) A (iS (.ref x) name expr) Q E s:=by
 obtain⟨od,J,hl⟩:=I.look
 exact PySem.W.get_value X J (ff hg).1 (ie hh ha rfl (by rw [hl,hv])) hv' h
theorem Zj {pl:Sem Bool} {Q:Value×List Value->ah->Prop} (X:K.In s.heap) (I:ObjM s.heap x dx C mA) (hg:bR K C name=true)
  (hf:ac K (.ref C) name=some (some (.ref f))) (ht:bK K (.ref f)=true) (hv:mA name=none) (h:Q (.ref f,[.ref x]) s) :
  aI (model prog w) A (getMethod (.ref x) name pl) Q E s:=by
 obtain⟨od,J,hl⟩:=I.look
 exact PySem.W.method_fn X J (ff hg).1 (ff hg).2 hf (beq_iff_eq.mp ht) (by show (fI name od).map (·.isSome)=some false;rw [hl,hv];rfl) h
theorem ap0 {ns:List Str} {Q:Unit->ah->Prop} (X:K.In s.heap) (I:ObjM s.heap x dx C mA)
  (hs:ac K (.ref C) "__setattr__" = some (some (.builtin "object.__setattr__"))) (hp:b_ K C=true) (ht:gY K C name=some none) (hh:bV K C=true)
  (hw:cV mA ns) (hsz:ns.length<=sizeLine)
  (h:∀ h',ObjM h' x dx C (fun y=>if y=name then some v else mA y)->cC dx s.heap h'->Q () { s with heap:=h',toks:=s.toks+2 }) :
  aI (model prog w) A (jh (.ref x) name v) Q E s:=by
 obtain⟨od,J,hl⟩:=I.look
 refine PySem.W.set_plain X J hs (PySem.W.osa_open (s:={ s with toks:=s.toks+1 }) (r:=none) X J hp ht fun b=>?_)
 obtain⟨cd,hc,hd'⟩:=PySem.W.any_some hh
 have hx:s.heap.get? x=some ⟨.ref C,some dx,.plain,#[]⟩:=I.obj
 refine ag (am (ag (ag (fN hx (ag (PySem.W.Looks.here (s:={ s with toks:=s.toks+1 }) (PySem.W.looks_clsIn X hc) ?_))))))
 rw [hd']
 refine am (a:=some dx) (ag (am (ag ?_)))
 refine i9 (s:={ s with toks:=s.toks+1 }) I.ns fun h' hn2 hs2=>?_
 obtain⟨oD,esD,epD,hoD,hdD,hcD⟩:=hn2.count (PySem.Within.cons name v hw)
 refine ag (gF hoD (by rw [hdD];exact gz (aD hcD (by rw [aS];omega))) ?_)
 exact am (h _ ⟨(hs2.2 _ (cK I.ne)).trans I.obj,hn2,I.ne⟩ hs2)
theorem Z3 {R:g6->ah->Prop} {vs:List Value} {kw:List (Str×Value)} (X:K.In s.heap) (hm:aU K C=true)
  (hi:ac K (.ref C) "__init__" = some (some (.ref f))) (hf:h_ K (.ref f)=some (.type "function"))
  (h:dP (model prog w) (A.under (.builtin "type.__call__" ⟨.ref C::vs,kw⟩)) (.call (.ref f) ⟨.ref (s.heap.objs.size+1)::vs,kw⟩) (PySem.W.InitBack (s.heap.objs.size+1) R)
   {s with heap:=(s.heap.push bb).push (bt C s.heap.objs.size) }) :
  dP (model prog w) A (.call (.ref C) ⟨vs,kw⟩) R s:=by
 obtain⟨hh,g,d,t,os⟩:=s
 exact PySem.W.make_core (gu X hm) (ci X hi) (fun self=>PySem.W.bind_fn X self hf) (.inl rfl) h
theorem V1 {R:g6->ah->Prop} (X:K.In s.heap) (hm:aU K C=true)
  (hi:ac K (.ref C) "__init__" = some (some (.builtin "object.__init__")))
  (hb:∀ self,eV (model prog w) s.heap (gh (.builtin "object.__init__") self) (.builtin "object.__init__", [self]))
  (h:dP (model prog w) (A.under (.builtin "type.__call__" ⟨[.ref C],[]⟩)) (.call (.builtin "object.__init__") ⟨[.ref (s.heap.objs.size+1)],[]⟩) (PySem.W.InitBack (s.heap.objs.size+1) R)
   {s with heap:=(s.heap.push bb).push (bt C s.heap.objs.size) }) :
  dP (model prog w) A (.call (.ref C) ⟨[],[]⟩) R s:=by
 obtain⟨hh,g,d,t,os⟩:=s
 exact PySem.W.make_core (gu X hm) (ci X hi) hb (.inr ⟨rfl,rfl⟩) h
end
noncomputable def D7 (f:Str) (v:V):List (Str×V)->List (Str×V)
 | []=>[(f,v)]
 | (g,x)::r=>if g=f then (g,v)::r else (g,x)::D7 f v r
theorem En (f g:Str) (v:V):∀ fs:List (Str×V),(D7 f v fs).lookup g=if g=f then some v else fs.lookup g
 | []=>by
  show cW g [(f,v)]=_
  by_cases h:g=f
  ·have hb:(g==f)=true:=beq_iff_eq.mpr h
   simp only [cW,hb,if_pos h]
  ·have hb:(g==f)=false:=beq_eq_false_iff_ne.mpr h
   simp only [cW,hb,if_neg h]
 | (k,x)::r=>by
  have ih:=En f g v r
  rw [show D7 f v ((k,x)::r)=(if k=f then (k,v)::r else (k,x)::D7 f v r) from rfl]
  by_cases hk:k=f
  ·rw [if_pos hk]
   by_cases h:g=k
   ·have hb:(g==k)=true:=beq_iff_eq.mpr h
    simp only [cW,hb,if_pos (h.trans hk)]
   ·have hb:(g==k)=false:=beq_eq_false_iff_ne.mpr h
    simp only [cW,hb,if_neg (fun e:g=f=>h (e.trans hk.symm))]
  ·rw [if_neg hk]
   by_cases h:g=k
   ·have hb:(g==k)=true:=beq_iff_eq.mpr h
    simp only [cW,hb,if_neg (fun e:g=f=>hk (h.symm.trans e))]
   ·have hb:(g==k)=false:=beq_eq_false_iff_ne.mpr h
    simp only [cW,hb]
    exact ih
theorem Dl (f:Str) (v:V):∀ fs:List (Str×V),f∈(D7 f v fs).map (·.1) /\ ∀ g,g∈fs.map (·.1)->g∈(D7 f v fs).map (·.1)
 | []=>⟨by simp [D7],fun g h=>by simp at h⟩
 | (k,x)::r=>by
  obtain⟨i1,i2⟩:=Dl f v r
  rw [show D7 f v ((k,x)::r)=(if k=f then (k,v)::r else (k,x)::D7 f v r) from rfl]
  by_cases hk:k=f
  ·rw [if_pos hk]
   subst hk
   exact⟨by simp,fun g h=>by simpa using h⟩
  ·rw [if_neg hk]
   refine⟨?_,fun g h=>?_⟩
   ·rw [ba]
    exact aJ _ i1
   ·rw [ba] at h ⊢
    rcases List.mem_cons.mp h with e|e
    ·exact List.mem_cons.mpr (.inl e)
    ·exact aJ _ (i2 g e)
theorem El (f:Str) (v:V):∀ fs:List (Str×V),(D7 f v fs).length<=fs.length+1
 | []=>by simp [D7]
 | (k,x)::r=>by
  have ih:=El f v r
  rw [show D7 f v ((k,x)::r)=(if k=f then (k,v)::r else (k,x)::D7 f v r) from rfl]
  by_cases hk:k=f
  ·rw [if_pos hk,aS,aS];omega
  ·rw [if_neg hk,aS,aS];omega
theorem RelO.some_of {v:V} {o:Option Value} (r:RelO (some v) o):∃ u,o=some u/\RelV v u:=by
 cases o with
 | none=>exact (show False from r).elim
 | some u=>exact⟨u,rfl,r⟩
theorem RelO.none_of {o:Option Value} (r:RelO none o):o=none:=by
 cases o with
 | none=>rfl
 | some u=>exact (show False from r).elim
theorem Li {v:V} {u:Value} (r:RelV v u):dJ u=true:=by
 cases v with
 | non=>cases (show u=bh from r);rfl
 | bl b=>cases (show u=eW b from r);rfl
 | int i=>obtain⟨t,e⟩:=(show ∃ t,u=iE i t from r);cases e;rfl
 | str x=>obtain⟨t,e⟩:=(show ∃ t,u=fj x t from r);cases e;rfl
 | byt b=>obtain⟨t,e⟩:=(show ∃ t,u=Value.bytes b t from r);cases e;rfl
 | stk y n ex=>obtain⟨t,e,_⟩:=(show ∃ t,u=fj y t/\(if ex=true then t=n else n<=t) from r);cases e;rfl
 | ref a=>cases (show u=aC a from r);rfl
 | ty n=>cases (show u=Value.type n from r);rfl
section
variable {P:aE} {w:bq} {H H':Hp} {h h':Heap} {a C dx:Addr} {fs fs':List (Str×V)}
theorem Hj (hok:HOk P w H h) (e:H a=some (.ins C dx fs)):∃ mA,ObjM h a dx C mA/\(∀ f,RelO (fs.lookup f) (mA f))/\cV mA (fs.map (·.1))/\fs.length<=1000/\H dx=some (.own a):=by
 obtain⟨d,z,ne,ob,mA,n,r,q⟩:=(show ObjOk P w H h a (.ins C dx fs) from hok a _ e)
 exact⟨mA,⟨ob,n,ne⟩,r,q,z,d⟩
end
structure Cls (K:aa) (C:Addr):Prop where
 pg:bR K C du=true
 hd:bV K C=true
 po:b_ K C=true
 sa:ac K (.ref C) "__setattr__" = some (some (.builtin "object.__setattr__"))
theorem Cls.get {K:aa} {C:Addr} (c:Cls K C) (f:Str):bR K C f=true:=c.pg
noncomputable def NoAttr (K:aa) (C:Addr) (f:Str):Prop:=ac K (.ref C) f=some none
theorem NoAttr.taker {K:aa} {C:Addr} {f:Str} (n:NoAttr K C f):gY K C f=some none:=by
 unfold gY
 rw [show ac K (.ref C) f=some none from n]
 rfl
structure A0 (K:aa) (C:Addr) (m:Str) (f:Addr):Prop where
 at_:ac K (.ref C) m=some (some (.ref f))
 fn:bK K (.ref f)=true
 kp:ak K (.ref f)=true
section
variable {X:Cx} {pins:List (Addr×Obj)} {σ:St} {H:Hp} {s:ah} {a C dx:Addr} {fs:List (Str×V)} {f:Str} {v:V} {A:aT} {E:Value->ah->Prop}
theorem Qu {b:Bool} {Q:Value->ah->Prop} (I:Inv X pins σ H s) (e:H a=some (.ins C dx fs)) (c:Cls X.K C) (n:NoAttr X.K C f) (l:fs.lookup f=some v)
  (h:∀ u s',Inv X pins σ H s'->RelV v u->Q u s'):aI (model X.prog X.w) A (iS (.ref a) f b) Q E s:=by
 obtain⟨mA,O,r,_,_,_⟩:=Hj I.hok e
 obtain⟨u,hu,ru⟩:=RelO.some_of (v:=v) (o:=mA f) (by rw [<- l];exact r f)
 exact ak2 I.kIn O (c.get f) c.hd n hu (Li ru) (h u _ (I.tok _) ru)
theorem Ie {m:Str} {g:Addr} {pl:Sem Bool} {Q:Value×List Value->ah->Prop} (I:Inv X pins σ H s) (e:H a=some (.ins C dx fs)) (c:Cls X.K C) (k:A0 X.K C m g) (l:fs.lookup m=none)
  (h:Q (.ref g,[.ref a]) s):aI (model X.prog X.w) A (getMethod (.ref a) m pl) Q E s:=by
 obtain⟨mA,O,r,_,_,_⟩:=Hj I.hok e
 have hn:mA m=none:=RelO.none_of (by rw [<- l];exact r m)
 exact Zj I.kIn O (c.get m) k.at_ k.fn hn h
theorem Si {y:V} {u:Value} {Q:Unit->ah->Prop} (I:Inv X pins σ H s) (e:H a=some (.ins C dx fs)) (c:Cls X.K C) (n:NoAttr X.K C f) (hl:fs.length<1000) (ry:RelV y u)
  (h:∀ s',Inv X pins σ (upd H a (.ins C dx (D7 f y fs))) s'->Q () s'):aI (model X.prog X.w) A (jh (.ref a) f u) Q E s:=by
 obtain⟨mA,O,r,wi,_,ho⟩:=Hj I.hok e
 have hz:(fs.map (·.1)).length<=sizeLine:=by rw [aw,bD];omega
 refine ap0 I.kIn O c.sa c.po n.taker c.hd wi hz fun h' O' sb=>h _ ?_
 have hd:∃ o,h'.get? dx=some o:=let ⟨o,_,_,e',_⟩:=O'.ns;⟨o,e'⟩
 refine I.write (x:=a) (e:=dx) (by rw [e];exact aX) (.inr ho) (fun b q hb z=>(sb.2 b hb).trans z) hd ?_
 refine⟨by rw [Ak O.ne];exact ho,?_,O.ne,O'.obj,_,O'.ns,fun g=>?_,fun g hg=>?_⟩
 ·have:=El f y fs;omega
 ·show RelO ((D7 f y fs).lookup g) (if g=f then some u else mA g)
  rw [En]
  by_cases q:g=f
  ·rw [if_pos q,if_pos q];exact ry
  ·rw [if_neg q,if_neg q];exact r g
 ·by_cases q:g=f
  ·rw [q];exact (Dl f y fs).1
  ·refine (Dl f y fs).2 g (wi g fun z=>hg ?_)
   show (if g=f then some u else mA g)=none
   rw [if_neg q];exact z
theorem Inv.made (I:Inv X pins σ H s):Inv X pins σ (upd (upd H s.heap.objs.size (.own (s.heap.objs.size+1))) (s.heap.objs.size+1) (.ins C s.heap.objs.size []))
  {s with heap:=(s.heap.push bb).push (bt C s.heap.objs.size) }:=by
 have e1:(s.heap.push bb).get? s.heap.objs.size=some bb:=aF s.heap rfl
 have e2:((s.heap.push bb).push (bt C s.heap.objs.size)).get? (s.heap.objs.size+1)=some (bt C s.heap.objs.size):=by
  have:=aF (s.heap.push bb) (o:=bt C s.heap.objs.size) rfl
  rwa [cI] at this
 have e3:(s.heap.push bb).Ns s.heap.objs.size (fun _=>none):=⟨bb,#[],_,e1,rfl,(fun e he=>absurd he (by simp)),fun _=>rfl⟩
 have I1:=I.laid (a:=s.heap.objs.size) (o:=.own (s.heap.objs.size+1)) (h':=s.heap.push bb) (t':=s.toks) (fun b u q=>af _ q) (ae _) ⟨_,e1⟩
 refine I1.laid (a:=s.heap.objs.size+1) (o:=.ins C s.heap.objs.size []) (t':=s.toks) (fun b u q=>af _ q) (i3 (cI _ _)) ?_
 have ne:s.heap.objs.size≠s.heap.objs.size+1:=aL (eP _)
 refine⟨by rw [Ak ne,Ad],bT _,ne,e2,fun _=>none,(Heap.Ns1.of_empty e3).at fun o q=>af _ q,fun _=>aX,fun y hy=>absurd rfl hy⟩
theorem aj0 {prog:aE} {w:bq} {env:Env} {e:Expr} {f:Str} {pos:Pos} {s:ah} {Q:Value->ah->Prop} (hb:ge e f env (eval e env)=eval e env)
  (h:aI (model prog w) A (eval e env) (fun o s₁=>aI (model prog w) A (iS o f true) Q E s₁) E s):aI (model prog w) A (eval (.Attribute e f pos) env) Q E s:=
 Attribute_any_ h (by rw [arm_eval_Attribute,hb])
end
section
variable {X:Cx} {o e value:Expr} {f:Str} {pos pos' tpos:Pos} {ta tv:TE}
end
section
variable {X:Cx} {pins:List (Addr×Obj)} {σ:St} {H:Hp} {s:ah} {A:aT} {E:Value->ah->Prop} {Q:Value->ah->Prop} {c:Value} {b:Bool}
inductive TyOf (K:aa) (H:Hp):V->Value->Prop where
 | non:TyOf K H .non (.type "NoneType")
 | bl (x:Bool):TyOf K H (.bl x) (.type "bool")
 | int (i:Int):TyOf K H (.int i) (.type "int")
 | str (x:Str):TyOf K H (.str x) (.type "str")
 | stk (x:Str) (n:Nat) (ex:Bool):TyOf K H (.stk x n ex) (.type "str")
 | lst {a:Addr} {xs:List V} (e:H a=some (.lst xs)):TyOf K H (.ref a) (.type "list")
 | frz {a:Addr} {o:Obj} {xs:List V} (e:H a=some (.frz o (.lst xs))):TyOf K H (.ref a) (.type "list")
 | tup {a:Addr} {xs:List V} (e:H a=some (.tup xs)):TyOf K H (.ref a) (.type "tuple")
 | dK {a:Addr} {kvs:List (Key×V)} (e:H a=some (.dK kvs)):TyOf K H (.ref a) (.type "dict")
 | dT {a:Addr} {kvs:List (List Key×V)} (e:H a=some (.dT kvs)):TyOf K H (.ref a) (.type "dict")
 | ins {a C dx:Addr} {fs:List (Str×V)} (e:H a=some (.ins C dx fs)) (cl:Cls K C) (ha:ac K (.ref C) "__class__" = some (some (.builtin "object.__class__")))
   (hn:cr K (.builtin "object.__class__") "__get__" = some (some (.builtin "getset_descriptor.__get__"))) (htk:gZ K (.builtin "object.__class__")=some true)
   (hm:aV K C (.type "object")=some true):TyOf K H (.ref a) (.ref C)
theorem Lm {x:V} {u t:Value} (I:Inv X pins σ H s) (rx:RelV x u) (ty:TyOf X.K H x t) (e:ce X.K t c=some b) (h:∀ tk,Q (.bool b) { s with toks:=tk }) :
  aI (model X.prog X.w) A (call (.builtin "isinstance") [u,c]) Q E s:=by
 cases ty with
 | non=>cases (show u=bh from rx);exact bz PySem.W.kitx_none I.kIn aX e (fun z=>nomatch z) h
 | bl y=>cases (show u=eW y from rx);exact bz PySem.W.kitx_bool I.kIn aX e (fun z=>nomatch z) h
 | int i=>obtain⟨t,q⟩:=(show ∃ t,u=iE i t from rx);cases q;exact bz PySem.W.kitx_int I.kIn aX e (fun z=>nomatch z) h
 | str y=>obtain⟨t,q⟩:=(show ∃ t,u=fj y t from rx);cases q;exact bz PySem.W.kitx_str I.kIn aX e (fun z=>nomatch z) h
 | stk y n ex=>obtain⟨t,q,_⟩:=(show ∃ t,u=fj y t/\(if ex=true then t=n else n<=t) from rx);cases q;exact bz PySem.W.kitx_str I.kIn aX e (fun z=>nomatch z) h
 | @lst a xs ea=>
  cases (show u=aC a from rx)
  obtain⟨_,_,n,_,h1⟩:=(show ObjOk X.prog X.w H s.heap a (.lst xs) from I.hok a _ ea)
  exact bz fT I.kIn ⟨_,h1,rfl⟩ e (fun z=>nomatch z) h
 | @frz a ob xs ea=>
  cases (show u=aC a from rx)
  obtain⟨_,_,_,n,_,h1⟩:=(show ObjOk X.prog X.w H s.heap a (.frz ob (.lst xs)) from I.hok a _ ea)
  exact bz fT I.kIn ⟨_,h1,rfl⟩ e (fun z=>nomatch z) h
 | @tup a xs ea=>
  cases (show u=aC a from rx)
  obtain⟨_,_,_,p⟩:=(show ObjOk X.prog X.w H s.heap a (.tup xs) from I.hok a _ ea)
  obtain⟨o,h1,h2,_⟩:=p
  exact bz iz I.kIn ⟨o,h1,h2⟩ e (fun z=>nomatch z) h
 | @dK a kvs ea=>
  cases (show u=aC a from rx)
  obtain⟨_,_,vs,_,p⟩:=(show ObjOk X.prog X.w H s.heap a (.dK kvs) from I.hok a _ ea)
  obtain⟨o,es,ep,h1,h2,_⟩:=p
  exact bz PySem.W.kitx_dict I.kIn ⟨o,h1,h2.1⟩ e (fun z=>nomatch z) h
 | @dT a kvs ea=>
  cases (show u=aC a from rx)
  obtain⟨_,_,xs,_,o,es,ep,h1,h2,_⟩:=(show ObjOk X.prog X.w H s.heap a (.dT kvs) from I.hok a _ ea)
  exact bz PySem.W.kitx_dict I.kIn ⟨o,h1,h2.1⟩ e (fun z=>nomatch z) h
 | @ins a C dx fs ea cl ha hn htk hm=>
  cases (show u=aC a from rx)
  obtain⟨mA,O,_⟩:=Hj I.hok ea
  obtain⟨od,J,_⟩:=O.look
  exact bz (PySem.W.kitx_own (cl.get _) cl.hd ha hn htk hm) I.kIn J e (fun z=>nomatch z) h
end
structure Room (k:Nat) (A:aT):Prop where
 hd:A.handled=none
 dp:A.depth+3 * k+5<recursionLimit
 un:A.units+16 * k+200<cLine
theorem Room.mono {j k:Nat} {A:aT} (r:Room k A) (h:j<=k):Room j A:=⟨r.hd,by have:=r.dp;omega,by have:=r.un;omega⟩
theorem Room.deeper {k:Nat} {A:aT} (r:Room (k+1) A) (env:Env):Room k (A.deeper env):=
 ⟨r.hd,by have:=r.dp;show A.depth+1+3 * k+5<_;omega,by have:=r.un;show A.units+3+16 * k+200<_;omega⟩
theorem Q0 {A:aT} {C:Addr} {us:List Value} {kw:List (Str×Value)}:(A.under (.builtin "type.__call__" ⟨.ref C::us,kw⟩)).depth=A.depth+1:=by
 first|rfl|simp [iY,Code.weight,Code.isCreation,Code.isGuard,Code.isCaller,Code.frames,iZ,guardIds]
theorem Q3 {A:aT} {C:Addr} {us:List Value} {kw:List (Str×Value)}:(A.under (.builtin "type.__call__" ⟨.ref C::us,kw⟩)).units=A.units+1:=by
 first|rfl|simp [iY,Code.cUnits,Code.frames,iZ]
theorem Room.make {k:Nat} {A:aT} (r:Room (k+1) A) (C:Addr) (us:List Value) (kw:List (Str×Value)):Room k (A.under (.builtin "type.__call__" ⟨.ref C::us,kw⟩)):=
 ⟨r.hd,by have:=r.dp;rw [Q0];omega,by have:=r.un;rw [Q3];omega⟩
theorem Room.depth {k:Nat} {A:aT} (r:Room k A):A.depth<recursionLimit:=by have:=r.dp;omega
theorem Room.units {k:Nat} {A:aT} (r:Room k A):A.units+64<cLine:=by have:=r.un;omega
noncomputable def cg2:TA:=fun _ H Q=>Q [] H
noncomputable def b57 (ta:TE) (tr:TA):TA:=fun σ H Q=>ta σ H fun x H1=>tr σ H1 fun xs H2=>Q (x::xs) H2
section
variable {X:Cx} {e:Expr} {es:List Expr} {te:TE} {t:TA} {pos:Pos}
theorem a96:PA X [] cg2:=fun _ _ _ _ H Q I h=>Calls.spliced_nil ⟨[],H,I,.nil,h⟩
theorem al9 (ha:PE X e te) (hr:PA X es t) (hs:cn (e::es) X.env=(false,eval e X.env)::cn es X.env:=by rfl):PA X (e::es) (b57 te t):=by
 intro pos pins s σ H Q I h
 rw [hs]
 show aI _ _ (spliced ((false,eval e X.env)::g7 pos (cn es X.env))) _ _ s
 refine Calls.spliced_cons (thn (ha pins s σ H _ I h) fun u s1 ⟨x,H1,I1,r1,q1⟩=>?_)
 exact thn (hr pos pins s1 σ H1 _ I1 q1) fun us s2 ⟨xs,H2,I2,r2,q2⟩=>⟨x::xs,H2,I2,.cons r1 r2,q2⟩
noncomputable def cg6 (t:TA):TE:=fun σ H Q=>t σ H fun xs H1=>xs.length<=sizeLine /\ ∀ p,H1 p=none->Q (.ref p) (upd H1 p (.tup xs))
noncomputable def cg1 (t:TA):TE:=fun σ H Q=>t σ H fun xs H1=>xs.length<=sizeLine /\ ∀ p,H1 p=none->Q (.ref p) (upd H1 p (.lst xs))
theorem ba2 {x1} (h:PA X es t):PE X (.Tuple es x1 pos) (cg6 t):=by
 intro pins s σ H Q I hq
 refine wpAny_Tuple_spliced (thn (h pos pins s σ H _ I hq) fun us s1 ⟨xs,H1,I1,r,z,q⟩=>⟨by rw [<- r.length];exact z,?_⟩)
 have hf:H1 s1.heap.objs.size=none:=I1.hok.fresh (ae _)
 refine⟨.ref s1.heap.objs.size,upd H1 s1.heap.objs.size (.tup xs),I1.laid (t':=s1.toks) (fun b u e=>af _ e) (ae _) ?_,rfl,q _ hf⟩
 exact⟨z,us,r,⟨_,aF _ rfl,rfl,_,rfl⟩⟩
theorem a98 (h:PA X es t):PE X (.List es pos) (cg1 t):=by
 intro pins s σ H Q I hq
 refine wpAny_List_spliced (thn (h pos pins s σ H _ I hq) fun us s1 ⟨xs,H1,I1,r,z,q⟩=>⟨by rw [<- r.length];exact z,?_⟩)
 have hf:H1 s1.heap.objs.size=none:=I1.hok.fresh (ae _)
 refine⟨.ref s1.heap.objs.size,upd H1 s1.heap.objs.size (.lst xs),I1.laid (t':=s1.toks) (fun b u e=>af _ e) (ae _) ?_,rfl,q _ hf⟩
 exact⟨z,us,0,r,aF _ rfl⟩
end
noncomputable abbrev Sp:=List V->Hp->VK->XK->Prop
noncomputable abbrev CXT:=List Env->Hp->ah->XK->Value->ah->Prop
structure Env0 (P:aE) (w:bq) (K:aa) (mg:Str->Option Value) (base:Heap) (A:aT) (outer:List Env) (s:ah) (H:Hp):Prop where
 frames:A.frames=some outer
 mod:Mod K mg base
 bs:∀ b o,base.get? b=some o->s.heap.get? b=some o/\H b=none
 bsz:base.objs.size<=s.heap.objs.size
 funs:s.heap.FunFrames base outer
 frf:∀ b∈frs outer,H b=none
 hok:HOk P w H s.heap
 bare:gO s.gens
 tk:K4 K s.toks
noncomputable def CE (outer:List Env) (P:aE) (w:bq) (H:Hp) (s:ah) (Q:VK) (u:Value) (s':ah):Prop:=
 ∃ v H',(s'.os=s.os/\s.toks<=s'.toks)/\gO s'.gens/\Un (frs outer) [] H H' s.heap s'.heap/\HOk P w H' s'.heap/\RelV v u/\Q v H'
noncomputable def CR (CX:CXT) (outer:List Env) (P:aE) (w:bq) (H:Hp) (s:ah) (Q:VK) (E:XK) (r:g6) (s':ah):Prop:=
 match r with
 | .ok (.ret u)=>CE outer P w H s Q u s'
 | .ok _=>False
 | .error e=>CX outer H s E e s'
structure FnOk (P:aE) (w:bq) (K:aa) (mg:Str->Option Value) (base:Heap) (CX:CXT) (k:Nat) (f:Addr) (fd:ai) (ps:List Str) (sp:Sp):Prop where
 len:∀ vs H Q E,sp vs H Q E->vs.length=ps.length
 run:∀ (A:aT) (outer:List Env) (s:ah) (H:Hp) (args:Args) (us:List Value) (vs:List V) (Q:VK) (E:XK),Room k A->Env0 P w K mg base A outer s H->iP s fd args (ps.zip us)->Vals vs us->sp vs H Q E ->
  dP (model P w) A (.call (.ref f) args) (CR CX outer P w H s Q E) s
theorem FnOk.imp {P:aE} {w:bq} {K:aa} {mg:Str->Option Value} {base:Heap} {CX:CXT} {k:Nat} {f:Addr} {fd:ai} {ps:List Str} {sp sp':Sp} (F:FnOk P w K mg base CX k f fd ps sp)
  (h:∀ vs H Q E,sp' vs H Q E->sp vs H Q E):FnOk P w K mg base CX k f fd ps sp':=
 ⟨fun vs H Q E q=>F.len vs H Q E (h _ _ _ _ q),fun A outer s H args us vs Q E hr he hb hv hs=>F.run A outer s H args us vs Q E hr he hb hv (h _ _ _ _ hs)⟩
theorem Env0.make {P:aE} {w:bq} {K:aa} {mg:Str->Option Value} {base:Heap} {A:aT} {outer:List Env} {s:ah} {H:Hp} (e:Env0 P w K mg base A outer s H) (C:Addr) (us:List Value) (kw:List (Str×Value)) :
  Env0 P w K mg base (A.under (.builtin "type.__call__" ⟨.ref C::us,kw⟩)) outer s H:=⟨by first|exact e.frames|(simpa [iY,Code.envs,iZ,pushEnvs] using e.frames),e.mod,e.bs,e.bsz,e.funs,e.frf,e.hok,e.bare,e.tk⟩
section
variable {X:Cx} {pins:List (Addr×Obj)} {σ:St} {H:Hp} {s s':ah}
theorem Inv.env0 (I:Inv X pins σ H s):Env0 X.prog X.w X.K X.mg X.base X.A X.stack s H:=
 ⟨I.ok.frames,I.ok.mod,I.bs,aD I.ok.bsz I.sz,I.stack,I.stkFree,I.hok,I.bare,fun x y t e=>av (I.ok.tk x y t e) I.os.2⟩
theorem Inv.after {Q:VK} {u:Value} (I:Inv X pins σ H s) (h:CE X.stack X.prog X.w H s Q u s'):EP X pins σ Q u s':=by
 obtain⟨v,H',os,bare,un,hok,r,q⟩:=h
 obtain⟨hh,g,d,t,os'⟩:=s'
 obtain rfl:os'=s.os:=os.1
 exact⟨v,H',I.call (h':=hh) (g':=g) (d':=d) (t':=t) (ch:=[]) un hok bare (fun b z=>absurd z (by simp)) os.2,r,q⟩
end
noncomputable def Binds (K:aa) (fd:ai) (ps:List Str) (ds:List Value):Prop:=
 ∀ (s:ah) (us:List Value),K.In s.heap->(us++ds).length=ps.length->iP s fd ⟨us,[]⟩ (ps.zip (us++ds))
theorem Binds.all {K:aa} {fd:ai} {ps:List Str} (h:∀ us:List Value,us.length=ps.length->iG fd ⟨us,[]⟩=pure (ps.zip us)):Binds K fd ps []:=fun s us _ hl=>by
 rw [eY] at hl ⊢
 exact .of_eq (h us hl)
section
variable {X:Cx} {CX:CXT} {k:Nat} {f C:Addr} {fd:ai} {ps:List Str} {sp:Sp} {dvs:List V} {ds:List Value} {E:XK} {x m:Str} {p pos apos:Pos} {e o:Expr} {es:List Expr} {ta:TE} {t:TA}
structure Mk (K:aa) (C f:Addr):Prop where
 makes:aU K C=true
 init:ac K (.ref C) "__init__" = some (some (.ref f))
 fn:bK K (.ref f)=true
 kp:ak K (.ref C)=true
end
section
variable {X:Cx} {CX:CXT} {k:Nat} {f C:Addr} {fd:ai} {ps ks:List Str} {sp:Sp} {E:XK} {x m:Str} {p pos apos kpos:Pos} {e o:Expr} {es:List Expr} {kws:List ja} {te ta:TE} {t tk:TA} {nm:Option Str}
variable {g:List Value->List Value->List Value} {gV:List V->List V->List V}
end
structure Aj (N P:List Str) (sc:Scope):Prop where
 kind:sc.kind=.function
 co:sc.isCoroutine=false
 gen:sc.isGenerator=false
 nd:N.Nodup
 pre:N.take P.length=P
 par:∀ x∈P,sc.names.lookup x=some .local\/sc.names.lookup x=some .cell
 nofree:∀ y∈sc.names,y.2≠.free
theorem K9 {kindOf:Str->Option bN} {x:Str}:∀ {binds:List (Str×Value)} {m:Str->Option Value},(∀ v,(x,v)∉binds)->bindL kindOf binds m x=m x
 | [],_,_=>rfl
 | (n,v)::r,m,h=>by
  unfold bindL
  rw [K9 fun w hw=>h w (aJ _ hw)]
  split
  ·have:x≠n:=by rintro rfl;exact h v c6
   simp [this]
  ·rfl
theorem K7 {kindOf:Str->Option bN} {x:Str}:∀ {binds:List (Str×Value)} {m:Str->Option Value},(∀ v,(x,v)∉binds)->bindC kindOf binds m x=m x
 | [],_,_=>rfl
 | (n,v)::r,m,h=>by
  unfold bindC
  rw [K7 fun w hw=>h w (aJ _ hw)]
  split
  ·rfl
  ·have:x≠n:=by rintro rfl;exact h v c6
   simp [this]
theorem K8 {kindOf:Str->Option bN} {x:Str} {v:Value}:∀ {P:List Str} {vs:List Value} {i:Nat} {m:Str->Option Value},P.Nodup->P[i]? = some x->vs[i]? = some v->kindOf x=some .local ->
  bindL kindOf (P.zip vs) m x=some v
 | [],_,_,_,_,h,_,_=>by simp at h
 | _::_,[],_,_,_,_,h,_=>by simp at h
 | p::P,w::vs,0,m,nd,h1,h2,hk=>by
  simp at h1 h2;subst h1;subst h2
  show bindL kindOf ((p,w)::P.zip vs) m p=_
  unfold bindL
  rw [K9 fun v hv=>(List.nodup_cons.mp nd).1 (gU hv).1,if_pos hk]
  simp
 | p::P,w::vs,i+1,m,nd,h1,h2,hk=>by
  show bindL kindOf ((p,w)::P.zip vs) m x=_
  unfold bindL
  exact K8 (i:=i) (List.nodup_cons.mp nd).2 (by simpa using h1) (by simpa using h2) hk
theorem K6 {kindOf:Str->Option bN} {x:Str} {v:Value}:∀ {P:List Str} {vs:List Value} {i:Nat} {m:Str->Option Value},P.Nodup->P[i]? = some x->vs[i]? = some v->kindOf x≠some .local ->
  bindC kindOf (P.zip vs) m x=some v
 | [],_,_,_,_,h,_,_=>by simp at h
 | _::_,[],_,_,_,_,h,_=>by simp at h
 | p::P,w::vs,0,m,nd,h1,h2,hk=>by
  simp at h1 h2;subst h1;subst h2
  show bindC kindOf ((p,w)::P.zip vs) m p=_
  unfold bindC
  rw [K7 fun v hv=>(List.nodup_cons.mp nd).1 (gU hv).1,if_neg hk]
  simp
 | p::P,w::vs,i+1,m,nd,h1,h2,hk=>by
  show bindC kindOf ((p,w)::P.zip vs) m x=_
  unfold bindC
  exact K6 (i:=i) (List.nodup_cons.mp nd).2 (by simpa using h1) (by simpa using h2) hk
noncomputable def Fb (N:List Str) (vs:List V):St:=vs.map some++hZ (N.length - vs.length) none
noncomputable def Hx (CX:CXT) (P:aE) (w:bq) (K:aa) (mg:Str->Option Value) (base:Heap) (N:List Str) (qual:Str) (scope:Scope) (f:Addr) (cd:Value) (A:aT) (outer:List Env) (s:ah) (H:Hp) (E:XK):Cx where
 prog:=P
 w:=w
 K:=K
 mg:=mg
 base:=base
 A:=A.deeper (i7 qual scope s.heap.objs.size f cd)
 N:=N
 s₀:=s
 H₀:=H
 env:=i7 qual scope s.heap.objs.size f cd
 outer:=outer
 stack:=i7 qual scope s.heap.objs.size f cd::outer
 ex:=[]
 calm:=true
 fn:=fun _=>true
 pn:=[]
 xe:=fun e s'=>aI (model P w) (A.deeper (i7 qual scope s.heap.objs.size f cd)) (leaving (i7 qual scope s.heap.objs.size f cd) e) (fun _ s''=>CX outer H s E e s'') (fun e' s''=>CX outer H s E e' s'') s'
theorem Fr {sc:Scope} {n:Nat} {x:Str} (h:sc.names.lookup x=some .cell):∃ c,(cellsFrom n sc.names []).lookup x=some c:=by
 have q:=gJ sc.names n [] (.inl h)
 exact Option.isSome_iff_exists.mp q
theorem Vw {CX:CXT} {P:aE} {w:bq} {K:aa} {mg:Str->Option Value} {base:Heap} {N ps:List Str} {qual:Str} {scope:Scope} {f:Addr} {cd:Value} {A:aT} {outer:List Env} {s s1:ah} {H:Hp} {E:XK} {us:List Value} {vs:List V}
  (S:Aj N ps scope) (hd:A.handled=none) (e0:Env0 P w K mg base A outer s H) (htk:s.toks<=s1.toks) (hl:vs.length=ps.length) (r:Vals vs us)
  (x:InCallC s s.heap.objs.size (bindL (i7 qual scope s.heap.objs.size f cd).kindOf (ps.zip us) fun _=>none) (cellsFrom (s.heap.objs.size+1) scope.names []) (bindC (i7 qual scope s.heap.objs.size f cd).kindOf (ps.zip us) fun _=>none) s1) :
  Inv (Hx CX P w K mg base N qual scope f cd A outer s H E) [] (Fb N vs) H s1:=by
 have hpl:ps.length<=N.length:=by have:=congrArg List.length S.pre;rw [aZ] at this;omega
 obtain⟨h1,tk,rfl,hk⟩:=x.done
 have noA:∀ b:Addr,b∉(Hx CX P w K mg base N qual scope f cd A outer s H E).ex:=fun b z=>absurd (show b∈([]:List Addr) from z) (by simp)
 refine⟨⟨e0.mod,S.kind,rfl,rfl,ae _,fun y z c h1 h2=>?_,fun y hy=>?_,fun y c _ h=>?_,fun _=>hd,Around.frames_deeper e0.frames,.inr ⟨rfl,rfl⟩,fun b z=>absurd z (noA b),e0.bs,e0.bsz,fun b _ _=>noA b,fun b z=>absurd z (noA b),e0.funs,e0.frf,e0.tk⟩,
  ⟨rfl,htk⟩,e0.bare,Un.kept hk,⟨_,x.toInCall.ns,fun i y v h1 h2 h3=>?_⟩,fun y c h=>⟨_,x.cell y c h⟩,e0.hok.fresh (ae _),fun y c h=>?_,fun p hp=>absurd (show p∈([]:List (Addr×Obj)) from hp) (by simp),e0.hok.kept hk,?_⟩
 ·exact name_of_addr x.apart (bA h1) (bA h2)
 ·have hy:scope.names.lookup y=some .cell\/scope.names.lookup y=some .free:=hy
  rcases hy with hy|hy
  ·exact Fr hy
  ·exact absurd rfl (S.nofree _ (bA hy))
 ·exact gW (x.above y c (bA h))
 ·have hi:i<vs.length:=by
   unfold Fb at h2
   by_cases hi:i<vs.length
   ·exact hi
   ·rw [dB (by simpa using hi)] at h2
    rw [List.getElem?_replicate] at h2
    split at h2 <;> cases h2
  have ha:vs[i]? = some v:=by
   unfold Fb at h2
   rw [fF (by simpa using hi),aY] at h2
   cases e:vs[i]? with
   | none=>rw [e] at h2;cases h2
   | some a=>rw [e] at h2;cases h2;rfl
  obtain⟨u,hu,rv⟩:=r.get ha
  have hp:ps[i]? = some y:=by
   rw [<- S.pre,List.getElem?_take_of_lt (by omega)];exact h1
  have ndP:ps.Nodup:=by rw [<- S.pre];exact S.nd.sublist (List.take_sublist _ _)
  refine⟨u,rv,?_⟩
  rcases S.par y (bC hp) with k|k
  ·exact .inl ⟨k,K8 ndP hp hu k⟩
  ·obtain⟨c,e⟩:=Fr (n:=s.heap.objs.size+1) k
   refine .inr ⟨.inl k,c,e,?_⟩
   have q:=x.cell y c e
   rw [K6 ndP hp hu (by show scope.names.lookup y≠_;rw [k];decide)] at q
   exact q
 ·exact e0.hok.fresh (gW (x.above y c (bA h)))
 ·unfold Fb
  show _=N.length
  rw [aH,aw,List.length_replicate]
  omega
theorem aq6 {CX:CXT} {P:aE} {w:bq} {K:aa} {mg:Str->Option Value} {base:Heap} {k:Nat} {f:Addr} {name qual:Str} {params:Arguments} {body:List Stmt} {scope:Scope} {dV kV doc pm cdv ct oc:Value} {an od:Option Addr}
  {osl:Array (Option Value)} {N ps:List Str} {sp:Sp} (lk:K.lookup f=some ⟨oc,od,.func (bp name qual params body scope dV kV doc pm an cdv ct),osl⟩) (hcd:bW K cdv qual=true) (S:Aj N ps scope)
  (len:∀ vs H Q E,sp vs H Q E->vs.length=ps.length)
  (hbody:∀ (A:aT) (outer:List Env) (s:ah) (H:Hp) (vs:List V) (Q:VK) (E:XK),Room k (A.deeper (i7 qual scope s.heap.objs.size f cdv))->sp vs H Q E ->
   ∃ t,PSs (Hx CX P w K mg base N qual scope f cdv A outer s H E) body t/\t { nx:=fun _ H'=>Q .non H',rt:=Q } (Fb N vs) H) :
  FnOk P w K mg base CX (k+1) f (bp name qual params body scope dV kV doc pm an cdv ct) ps sp:=by
 refine⟨len,fun A outer s H args us vs Q E hr e0 hb r hsp=>?_⟩
 have hl:=len _ _ _ _ hsp
 have KX:K.In s.heap:=e0.mod.kin.keeps fun b o e=>(e0.bs b o e).1
 have lim:s.heap.NoLimit:=e0.mod.nolimit.keeps fun b o e=>(e0.bs b o e).1
 have hkind:∀ y∈ps.zip us,scope.names.lookup y.1=some .local\/(scope.names.lookup y.1=some .cell/\((cellsFrom (s.heap.objs.size+1) scope.names []).lookup y.1).isSome=true):=fun⟨n,v⟩ hy=>by
  rcases S.par n (gU hy).1 with q|q
  ·exact .inl q
  ·exact .inr ⟨q,gJ _ _ _ (.inl q)⟩
 refine codeAny_call_function hr.depth (KX _ _ lk) rfl S.co S.gen rfl (PySem.W.codeRec_of KX hcd) (hb _ _ _ _ ?_)
 refine bB (ae _) (wpAny_newFunctionEnv_cells S.kind hkind fun env he s1 x htk=>?_)
 subst he
 refine⟨lim.keeps x.toInCall.keep,codeAny_func ?_⟩
 obtain⟨t,ht,hq⟩:=hbody A outer s H vs Q E (hr.deeper _) hsp
 have I:Inv (Hx CX P w K mg base N qual scope f cdv A outer s H E) [] (Fb N vs) H s1:=Vw S hr.hd e0 htk hl r x
 refine bP (ht [] s1 (Fb N vs) H _ I hq) (fun fl s' hs=>?_) fun e s' hs=>hs
 have fin:∀ {σ':St} {H':Hp} {v:V} {u:Value},Inv (Hx CX P w K mg base N qual scope f cdv A outer s H E) [] σ' H' s'->RelV v u->Q v H'->CE outer P w H s Q u s':=
  fun {σ' H' v u} J rv q=>⟨v,H',J.os,J.bare,J.base,J.hok,rv,q⟩
 cases fl with
 | ret u=>
  obtain⟨v,σ',H',J,rv,q⟩:=hs
  exact fin J rv q
 | next=>
  obtain⟨σ',H',J,q⟩:=hs
  exact fin (v:=V.non) (u:=bh) J rfl q
 | brk=>
  obtain⟨_,_,_,q⟩:=hs
  exact b6 q
 | cont=>
  obtain⟨_,_,_,q⟩:=hs
  exact b6 q
section
variable {X:Cx} {x:Str} {p pos:Pos} {e:Expr} {es:List Expr} {t:TA} {id T:String} {r:List V->Hp->VK->Prop}
noncomputable def tCB (r:List V->Hp->VK->Prop) (t:TA):TE:=fun σ H Q=>t σ H fun vs H1=>r vs H1 Q
theorem ab2 (hc:Br X (.builtin id) r) (hg:Gl X x) (hm:X.mg x=none) (hv:cq x=some (.builtin id)) (ha:PA X (e::es) t) (hn:x ≠ "__name__" := by decide) (hdb:(x==("__debug__" : Str))=false:=by decide)
  (he:cn (e::es) X.env=(false,eval e X.env)::cn es X.env:=by rfl) (hpl:(g7 pos (cn es X.env)).any (·.1)=false:=by rfl):PE X (.Call (.Name x p) (e::es) [] pos) (tCB r t):=by
 intro pins s σ H Q I h
 refine bZ (Mv I hg hm hv ?_ hn hdb)
 exact PyProof.Rows.callWith_builtin1 (thn (ha pos pins s σ H _ I h) fun us s1 ⟨vs,H1,I1,r1,q1⟩=>hc pins s1 σ H1 vs us Q I1 r1 q1) he hpl
theorem Wa (hc:Br X (.type T) r) (hg:Gl X x) (hm:X.mg x=none) (hv:cq x=some (.type T)) (ha:PA X (e::es) t) (hn:x ≠ "__name__" := by decide) (hdb:(x==("__debug__" : Str))=false:=by decide)
  (he:cn (e::es) X.env=(false,eval e X.env)::cn es X.env:=by rfl) (hpl:(g7 pos (cn es X.env)).any (·.1)=false:=by rfl):PE X (.Call (.Name x p) (e::es) [] pos) (tCB r t):=by
 intro pins s σ H Q I h
 refine bZ (Mv I hg hm hv ?_ hn hdb)
 exact e_ (thn (ha pos pins s σ H _ I h) fun us s1 ⟨vs,H1,I1,r1,q1⟩=>hc pins s1 σ H1 vs us Q I1 r1 q1) he hpl
end
end L2
namespace HT
open PySem PyProof.Rows
section
open PySem.SeqAt
open PySem.AutoSeq1 (wpAny_loadPart')
open PySem.MeetsSeq PySem.MeetsSeq2 PySem.MeetsSeq3
end
section
variable {prog:aE} {w:bq} {A:aT} {E:Value->ah->Prop} {s:ah}
theorem cat_tup {t b:Addr} {vs ws:List Value} {Q:Value->ah->Prop} (ht:jt s.heap t vs.toArray) (hb:jt s.heap b ws.toArray) (hv:vs≠[])
  (h1:ws=[]->Q (.ref t) s) (h2:ws≠[]->Q (.ref s.heap.objs.size) { s with heap:=s.heap.push { cls:=.type "tuple", data:=.seq (vs++ws).toArray } })
  (hsz:vs.length+ws.length<=sizeLine):aI (model prog w) A (ef .Add (.ref t) (.ref b)) Q E s:=by
 obtain⟨⟨cls,dd,data,sl⟩,ho,hc,n,hd⟩:=id ht
 obtain⟨⟨cls2,dd2,data2,sl2⟩,ho2,hc2,n2,hd2⟩:=id hb
 simp only at hc hd hc2 hd2
 subst hc hd hc2 hd2
 have e:vs.toArray++ws.toArray=(vs++ws).toArray:=by simp
 by_cases hw:ws=[]
 ·exact i5 ⟨_,ho,rfl⟩ ⟨_,ho2,rfl⟩ gw iK eI d9 (dR _ _)
   (tuple_addW1 t b vs.toArray ws.toArray n n2 dd dd2 sl sl2 (by simpa using hv) (by simp [hw])) ⟨ho,ho2,h1 hw⟩
 ·refine i5 ⟨_,ho,rfl⟩ ⟨_,ho2,rfl⟩ gw iK eI d9 (dR _ _)
   (tuple_addW2 t b vs.toArray ws.toArray n n2 dd dd2 sl sl2 (by simpa using hv) (by simpa using hw) (by rw [al,al];exact hsz)) ⟨ho,ho2,?_⟩
  rw [e]
  exact h2 hw
noncomputable def sIx (n d:Nat):Option Int->Nat
 | none=>d
 | some v=>if v<0 then (v+(n:Int)).toNat else min v.toNat n
theorem sIx_nat (n d k:Nat):sIx n d (some (k:Int))=min k n:=by
 show (if (k:Int)<0 then ((k:Int)+(n:Int)).toNat else min (k:Int).toNat n)=min k n
 rw [if_neg (by omega),cP]
theorem bi5 (n d:Nat) (hd:d<=n) (o:Option Int):sIx n d o<=n:=by
 cases o with
 | none=>exact hd
 | some v=>
  show (if v<0 then (v+(n:Int)).toNat else min v.toNat n)<=n
  by_cases hv:v<0
  ·rw [if_pos hv];omega
  ·rw [if_neg hv];exact Nat.min_le_right _ _
theorem Tm (v:Int) (n d:Nat):(if v<0 then max (v+(n:Int)) 0 else min v (n:Int))=((sIx n d (some v):Nat):Int):=by
 show (if v<0 then max (v+(n:Int)) 0 else min v (n:Int))=(((if v<0 then (v+(n:Int)).toNat else min v.toNat n):Nat):Int)
 by_cases hv:v<0
 ·simp only [if_pos hv];omega
 ·simp only [if_neg hv];omega
theorem Qd (lo hi:Option Int) (n:Nat):dG lo hi 1 (n:Int)=(((sIx n 0 lo:Nat):Int),((sIx n n hi:Nat):Int)):=by
 have h1:¬ ((1:Int)<0):=by omega
 unfold dG
 simp only [h1,if_false]
 refine Prod.ext ?_ ?_
 ·cases lo with
  | none=>rfl
  | some v=>exact Tm v n 0
 ·cases hi with
  | none=>rfl
  | some v=>exact Tm v n n
theorem Rf (i j:Nat):cH (i:Int) (j:Int) 1=j - i:=by
 unfold cH
 have h1:(1:Int) > 0:=by omega
 simp only [h1,if_true,Int.ediv_one]
 split <;> omega
theorem Kj {v:Value} {o:Option Int} {Q:Option Int->ah->Prop} (p:iw v o) (h:Q o s):aI (model prog w) A (Builtin.Slice.slicePartIndex v) Q E s:=by
 cases p with
 | none=>exact slicePart_none h
 | int i t=>exact slicePart_int h
theorem sliceApplied_gen {sl:Addr} {vl vu:Value} {lo hi:Option Int} {n:Nat} {Q:Int×Int×Nat->ah->Prop} (hs:s.heap.IsSliceOf sl vl vu .none) (pl:iw vl lo) (pu:iw vu hi)
  (h:Q (((sIx n 0 lo:Nat):Int),1,sIx n n hi - sIx n 0 lo) s):aI (model prog w) A (fu (.ref sl) (pure (n:Int))) Q E s:=by
 obtain⟨os,hos,hcs,hds⟩:=id hs
 unfold fu Builtin.Slice.sliceFields
 refine ag (ag (cb hos hds (x:=vl) rfl (ag (cb hos hds (x:=vu) rfl (ag (cb hos hds (x:=.none) rfl (am ?_)))))))
 refine ag (slicePart_none ?_)
 show aI _ _ (if ((1:Int)==0)=true then _ else _) _ _ s
 rw [if_neg (by decide)]
 refine ag (Kj pl (ag (Kj pu (ag (am ?_)))))
 show aI _ _ (match dG lo hi 1 (n:Int) with|(lo,hi)=>pure (lo,(1:Int),cH lo hi 1)) _ _ s
 rw [Qd lo hi n]
 show aI _ _ (pure (((sIx n 0 lo:Nat):Int),(1:Int),cH ((sIx n 0 lo:Nat):Int) ((sIx n n hi:Nat):Int) 1)) _ _ s
 rw [Rf]
 exact am h
theorem ab5 (xs:Array Value) (i k:Nat):((cB k).filterMap fun (m:Nat)=>xs[((i:Int)+(m:Int) * 1).toNat]?).toArray=((xs.toList.drop i).take k).toArray:=by
 have e:(fun (m:Nat)=>xs[((i:Int)+(m:Int) * 1).toNat]?)=fun m=>xs[i+m]?:=by
  funext m
  have:((i:Int)+(m:Int) * 1).toNat=i+m:=by omega
  rw [this]
 rw [e]
 have:=pick_run xs i k
 rw [List.filterMap_map] at this
 have e2:((fun x=>xs[x]?)∘fun x=>i+x)=fun m=>xs[i+m]?:=rfl
 rw [e2] at this
 rw [this]
theorem getItem_tuple_cut {t sl:Addr} {items:Array Value} {vl vu:Value} {lo hi:Option Int} {Q:Value->ah->Prop} (ht:jt s.heap t items) (hs:s.heap.IsSliceOf sl vl vu .none) (pl:iw vl lo) (pu:iw vu hi)
  (hw:¬ (sIx items.size 0 lo=0/\sIx items.size items.size hi=items.size))
  (h:Q (.ref s.heap.objs.size) { s with heap:=s.heap.push { cls:=.type "tuple", data:=.seq ((items.toList.drop (sIx items.size 0 lo)).take (sIx items.size items.size hi - sIx items.size 0 lo)).toArray } })
  (hsz:items.size<=sizeLine):aI (model prog w) A (im (.ref t) (.ref sl)) Q E s:=by
 have htake:sizeOk (.seq ((items.toList.drop (sIx items.size 0 lo)).take (sIx items.size items.size hi - sIx items.size 0 lo)).toArray):=by
  show ((items.toList.drop (sIx items.size 0 lo)).take (sIx items.size items.size hi - sIx items.size 0 lo)).toArray.size<=sizeLine
  rw [al,aZ,br,bS]
  omega
 have hj:sIx items.size items.size hi<=items.size:=bi5 _ _ (ae _) hi
 obtain⟨os,hos,hcs,hds⟩:=id hs
 have hTs:s.TypeIs (.ref sl) "slice" := ⟨os,hos,hcs⟩
 unfold im
 try with_reducible refine bv ?_
 first|refine ag (am ?_)|skip
 refine ag (wpAny_sequenceKey ht.typeIs (by decide) ?_)
 refine ag (gp (name:=dU "__getitem__") ht.typeIs bw
  (eR bw ht.typeIs entry_tuple_getitem ?_ (args_tuple_getitem _ _)))
 show aI _ _ (fv (.ref t) >>= _) _ _ s
 refine ag (tupleItemsOf_ ht ?_)
 refine ag (i_ hTs ?_)
 rw [if_pos (by decide)]
 refine ag (sliceApplied_gen hs pl pu ?_)
 have hno:¬ ((((sIx items.size 0 lo:Nat):Int)==0&&(1:Int)==1&&(sIx items.size items.size hi - sIx items.size 0 lo)==items.size)=true):=by
  intro q
  rw [au,au] at q
  have q1:((sIx items.size 0 lo:Nat):Int)=0:=bG q.1.1
  have q2:sIx items.size items.size hi - sIx items.size 0 lo=items.size:=bG q.2
  exact hw ⟨by omega,by omega⟩
 show aI _ _ (if (((sIx items.size 0 lo:Nat):Int)==0&&(1:Int)==1&&(sIx items.size items.size hi - sIx items.size 0 lo)==items.size)=true then _ else _) _ _ s
 rw [if_neg hno,ab5]
 first
  | exact ag (m:=cN _) (cT (am ⟨_,rfl,am h⟩) htake)
  | exact ag (m:=cN _) (cT (ag (am (am ⟨_,rfl,am h⟩))) htake)
  | exact ag (ag (m:=cN _) (cT (am (am ⟨_,rfl,am h⟩)) htake))
  | exact ag (ag (m:=cN _) (cT (am ⟨_,rfl,am h⟩) htake))
end
end HT
namespace L2
open PySem PySem.Spec PyProof.Rows
noncomputable abbrev TO:=St->Hp->(Option Int->Hp->Prop)->Prop
noncomputable def PO (X:Cx) (e:Option Expr) (t:TO):Prop:=
 ∀ (pins:List (Addr×Obj)) (s:ah) (σ:St) (H:Hp) (Q:Option Int->Hp->Prop),Inv X pins σ H s->t σ H Q ->
  aI (model X.prog X.w) X.A (evalPart e X.env) (fun u s'=>∃ o H',Inv X pins σ H' s'/\iw u o/\Q o H') X.xe s
noncomputable def ap4:TO:=fun _ H Q=>Q none H
section
variable {X:Cx} {e:Expr} {te:TE} {lo hi:Option Expr} {tl th:TO} {pos p2:Pos}
theorem am5:PO X none ap4:=by
 intro pins s σ H Q I h
 rw [evalPart_none]
 exact am ⟨none,H,I,.none,h⟩
noncomputable def SlR (X:Cx) (r:V->Option Int->Option Int->Hp->VK->Prop):Prop:=
 ∀ (pins:List (Addr×Obj)) (s:ah) (σ:St) (H:Hp) (x:V) (v vl vu:Value) (lo hi:Option Int) (sl:Addr) (Q:VK),Inv X pins σ H s->RelV x v->s.heap.IsSliceOf sl vl vu .none->iw vl lo->iw vu hi->r x lo hi H Q ->
  ∃ T id,dW (.type T) "__getitem__" = pure (some (.builtin id))/\s.TypeIs v T/\aI (model X.prog X.w) X.A (im v (.ref sl)) (EP X pins σ Q) X.xe s
noncomputable def Ec (xs:List V) (lo hi:Option Int):List V:=(xs.drop (HT.sIx xs.length 0 lo)).take (HT.sIx xs.length xs.length hi - HT.sIx xs.length 0 lo)
theorem G3 (xs:List V) (lo hi:Option Int):(Ec xs lo hi).length<=xs.length:=by
 unfold Ec
 rw [aZ,br]
 omega
noncomputable def cf4 (K:aa):V->Option Int->Option Int->Hp->VK->Prop:=fun x lo hi H Q=>∃ a xs,x=.ref a/\SqT K H a xs /\
 ¬ (HT.sIx xs.length 0 lo=0/\HT.sIx xs.length xs.length hi=xs.length) /\ ∀ p,H p=none->Q (.ref p) (upd H p (.tup (Ec xs lo hi)))
theorem bm8:SlR X (cf4 X.K):=by
 intro pins s σ H x v vl vu lo hi sl Q I rx hs pl pu h
 obtain⟨a,xs,rfl,hx,hw,q⟩:=h
 cases rx
 obtain⟨its,r,ht,hz⟩:=I.tuple hx
 have hlen:its.toArray.size=xs.length:=by rw [al];exact r.length.symm
 refine⟨"tuple", _,PyProof.Rows.slot_tuple_getitem.lookup,ht.typeIs,?_⟩
 refine HT.getItem_tuple_cut ht hs pl pu (by rw [hlen];exact hw) ?_ (by rw [hlen];exact hz)
 rw [hlen]
 refine⟨.ref s.heap.objs.size,_,I.laid (t':=s.toks) (o:=.tup (Ec xs lo hi)) (fun b ob q=>af _ q) (ae _) ?_,rfl,q _ (I.hok.fresh (ae _))⟩
 exact⟨aD (G3 xs lo hi) hz,_,(r.drop (HT.sIx xs.length 0 lo)).take (HT.sIx xs.length xs.length hi - HT.sIx xs.length 0 lo),IsTup.new _ _⟩
noncomputable def at7 (K:aa):R2:=fun x y H Q=>∃ a b xs ys,x=.ref a/\y=.ref b/\SqT K H a xs/\SqT K H b ys/\xs≠[]/\xs.length+ys.length<=sizeLine /\
 (ys=[]->Q (.ref a) H)/\(ys≠[] -> ∀ p,H p=none->Q (.ref p) (upd H p (.tup (xs++ys))))
theorem Vals.nil_iff {xs:List V} {us:List Value} (r:Vals xs us):us=[] ↔ xs=[]:=by
 cases r with
 | nil=>simp
 | cons _ _=>simp
theorem op_catT:OpR X (ef .Add) (at7 X.K):=by
 intro pins s σ H x y v u Q I rx ry h
 obtain⟨a,b,xs,ys,rfl,rfl,ha,hb,hx,hz,q1,q2⟩:=h
 cases rx
 cases ry
 obtain⟨its,r1,p1,_⟩:=I.tuple ha
 obtain⟨its2,r2,p2,_⟩:=I.tuple hb
 refine HT.cat_tup p1 p2 (fun z=>hx (r1.nil_iff.mp z)) (fun z=>⟨.ref a,H,I,rfl,q1 (r2.nil_iff.mp z)⟩) (fun z=>?_) (by rw [<- r1.length,<- r2.length];exact hz)
 refine⟨.ref s.heap.objs.size,_,I.laid (t':=s.toks) (o:=.tup (xs++ys)) (fun b ob q=>af _ q) (ae _) ?_,rfl,q2 (fun w=>z (r2.nil_iff.mpr w)) _ (I.hok.fresh (ae _))⟩
 exact⟨by rw [aH];exact hz,_,r1.append r2,IsTup.new _ _⟩
end
noncomputable def ixN (n:Nat) (i:Int):Option Nat:=if 0<=i then (if i<n then some i.toNat else none) else if -(n:Int)<=i then some (i+n).toNat else none
noncomputable def atI {α:Type} (xs:List α) (i:Int):Option α:=(ixN xs.length i).bind fun j=>xs[j]?
theorem Ud {n:Nat} {i:Int} {j:Nat} (h:ixN n i=some j):iJ i n=some j/\j<n /\ -(n:Int)<=i/\i<n:=by
 unfold ixN at h
 by_cases h0:0<=i
 ·rw [if_pos h0] at h
  by_cases h1:i<n
  ·rw [if_pos h1] at h
   have e:i.toNat=j:=aM h
   exact⟨by rw [jg h0 h1,e],by omega,by omega,h1⟩
  ·rw [if_neg h1] at h;cases h
 ·rw [if_neg h0] at h
  by_cases h1:-(n:Int)<=i
  ·rw [if_pos h1] at h
   have e:(i+n).toNat=j:=aM h
   exact⟨by rw [i8 (by omega) h1,e],by omega,h1,by omega⟩
  ·rw [if_neg h1] at h;cases h
theorem L6 {α:Type} {xs:List α} {i:Int} {v:α} (h:atI xs i=some v):∃ j,iJ i xs.length=some j/\xs[j]? = some v/\j<xs.length /\ -(xs.length:Int)<=i/\i<xs.length:=by
 unfold atI at h
 cases e:ixN xs.length i with
 | none=>rw [e] at h;cases h
 | some j=>
  rw [e] at h
  obtain⟨h1,h2,h3,h4⟩:=Ud e
  exact⟨j,h1,h,h2,h3,h4⟩
noncomputable def Te (b:Expr):Prop:=∀ o i,subscripted b false o i=operate [o,i] (im o i)
noncomputable def IxR (X:Cx) (r:R2):Prop:=
 ∀ (value slice:Expr) (pins:List (Addr×Obj)) (s:ah) (σ:St) (H:Hp) (x y:V) (v u:Value) (Q:VK),Inv X pins σ H s->RelV x v->RelV y u->r x y H Q ->
  subscripted slice false v u=operate [v,u] (im v u)->aI (model X.prog X.w) X.A (iL value slice v u) (EP X pins σ Q) X.xe s
noncomputable def MtR (X:Cx) (id:String) (r:V->List V->Hp->VK->Prop):Prop:=
 ∀ (pins:List (Addr×Obj)) (s:ah) (σ:St) (H:Hp) (x:V) (xs:List V) (v:Value) (us:List Value) (Q:VK),Inv X pins σ H s->RelV x v->Vals xs us->r x xs H Q ->
  aI (model X.prog X.w) X.A (call (.builtin id) (v::us)) (EP X pins σ Q) X.xe s
section
variable {X:Cx} {a b:Expr} {ta tb:TE} {pos:Pos}
theorem by2 {r:R2} (hr:IxR X r) (ha:PE X a ta) (hb:PE X b tb) (hs:Te b):PE X (.Subscript a b pos) (tOp r ta tb):=by
 intro pins s σ H Q I h
 exact Subscript_ (a04 ha hb I h fun v u s2 x y H2 I2 rx ry q=>hr a b pins s2 σ H2 x y v u Q I2 rx ry q (hs _ _))
noncomputable def ce9 (K:aa):R2:=fun x y H Q=>∃ p xs i v,x=.ref p/\y=.int i/\SqL K H p xs/\atI xs i=some v/\Q v H
noncomputable def cf1 (K:aa):R2:=fun x y H Q=>∃ p xs i v,x=.ref p/\y=.int i/\SqT K H p xs/\atI xs i=some v/\Q v H
noncomputable def cf0:R2:=fun x y H Q=>∃ z i c,x=.str z/\y=.int i/\z.length<=sizeLine/\atI z.cps.toList i=some c/\Q (.str ⟨#[c]⟩) H
theorem ak4:IxR X (ce9 X.K):=by
 intro value slice pins s σ H x y v u Q I rx ry h hs
 obtain⟨p,xs,i,z,rfl,rfl,hq,he,q⟩:=h
 cases rx
 obtain⟨t,rfl⟩:=ry
 obtain⟨its,r,pl,hz⟩:=I.list hq
 obtain⟨j,h1,h2,h3,h4,h5⟩:=L6 he
 obtain⟨w,ew,rw'⟩:=r.get h2
 have hl:=r.length
 have hn:=Ff
 have fin:EP X pins σ Q w s:=⟨z,H,I,rw',q⟩
 by_cases h0:0<=i
 ·have hj:i.toNat=j:=by
   rw [jg h0 h5] at h1
   exact aM h1
  exact item_listR pl.isList h0 (by omega) (by rw [hj];simpa using ew) fin hs
 ·have hj:(i+(its.toArray.size:Int)).toNat=j:=by
   rw [i8 (by omega) h4] at h1
   rw [al,<- hl]
   exact aM h1
  exact gL (x:=w) pl.isList.typeIs slot_list_getitem.lookup
   (wpAny_getItem_list_neg (Q:=fun r s'=>r=w/\EP X pins σ Q r s') pl.isList (by omega) (by rw [al] <;> omega) (by omega) (by rw [hj];simpa using ew) ⟨rfl,fin⟩) hs
theorem a41:IxR X (cf1 X.K):=by
 intro value slice pins s σ H x y v u Q I rx ry h hs
 obtain⟨p,xs,i,z,rfl,rfl,hq,he,q⟩:=h
 cases rx
 obtain⟨t,rfl⟩:=ry
 obtain⟨its,r,pl,hz⟩:=I.tuple hq
 obtain⟨j,h1,h2,h3,h4,h5⟩:=L6 he
 obtain⟨w,ew,rw'⟩:=r.get h2
 have hl:=r.length
 have hn:=Ff
 have fin:EP X pins σ Q w s:=⟨z,H,I,rw',q⟩
 exact gL (x:=w) pl.typeIs slot_tuple_getitem.lookup
  (getItem_tuple (j:=j) (Q:=fun r s'=>r=w/\EP X pins σ Q r s') pl (by omega) (by omega) (by rw [al,<- hl];exact h1) (by simpa using ew) ⟨rfl,fin⟩) hs
theorem a40:IxR X cf0:=by
 intro value slice pins s σ H x y v u Q I rx ry h hs
 obtain⟨z,i,c,rfl,rfl,hz,he,q⟩:=h
 obtain⟨t,rfl⟩:=rx
 obtain⟨t',rfl⟩:=ry
 obtain⟨j,h1,h2,h3,h4,h5⟩:=L6 he
 have hl:z.cps.toList.length=z.length:=by simp [Str.length]
 rw [hl] at h1 h4 h5
 have hn:=Ff
 exact tail_any (typeIs_str s z t) slot_str_getitem.lookup (getItem_str (c:=c) (by
  have e1:decide (i < -(2 ^ 63:Int))=false:=decide_eq_false (by omega)
  have e2:decide (i ≥ 2 ^ 63)=false:=decide_eq_false (by omega)
  rw [e1,e2,Bool.or_false]) (by rw [h1];simpa using h2) ⟨.str ⟨#[c]⟩,H,I.tok _,⟨_,rfl⟩,q⟩) hs
theorem Q4 (its:List Value) (n j:Nat) (u:Value):bO (·.setIfInBounds j u) { cls:=.type "list", data:=.seq its.toArray n }={ cls:=.type "list", data:=.seq (its.set j u).toArray n }:=by
 simp [bO]
theorem Inv.lst {pins:List (Addr×Obj)} {σ:St} {H:Hp} {s:ah} {p:Addr} {xs:List V} (I:Inv X pins σ H s) (h:H p=some (.lst xs)) :
  ∃ (its:List Value) (n:Nat),Vals xs its/\s.heap.get? p=some { cls:=.type "list", data:=.seq its.toArray n }/\xs.length<=sizeLine:=by
 obtain⟨z,its,n,r,e⟩:=I.hok p _ h
 exact⟨its,n,r,e,z⟩
theorem Inv.lstUpd {pins:List (Addr×Obj)} {σ:St} {H:Hp} {s:ah} {p:Addr} {xs ys:List V} {its its':List Value} {n n':Nat} {f:Obj->Obj} (I:Inv X pins σ H s) (h:H p=some (.lst xs))
  (ho:s.heap.get? p=some { cls:=.type "list", data:=.seq its.toArray n }) (hf:f { cls:=.type "list", data:=.seq its.toArray n }={ cls:=.type "list", data:=.seq its'.toArray n' }) (r:Vals ys its') (hz:ys.length<=sizeLine) (t:Nat) (ht:s.toks<=t:=by first|exact ae _|exact a0 _ _|assumption|omega|(dsimp only;omega)) :
  Inv X pins σ (upd H p (.lst ys)) { s with heap:=s.heap.update p f,toks:=t }:=by
 have e:(s.heap.update p f).get? p=some { cls:=.type "list", data:=.seq its'.toArray n' }:=by
  rw [bH f ho (by rw [hf] <;> rfl),hf]
 refine I.write (x:=p) (e:=p) (by rw [h];trivial) (.inl rfl) (fun b u hb q=>(aQ _ _ (cK hb)).trans q) ⟨_,e⟩ ?_
 exact⟨hz,its',n',r,e⟩
noncomputable def bz8:V->V->V->Hp->(Hp->Prop)->Prop:=fun o i v H Q=>∃ p xs k j,o=.ref p/\i=.int k/\H p=some (.lst xs)/\ixN xs.length k=some j/\Q (upd H p (.lst (xs.set j v)))
theorem af1:a00 X bz8:=by
 intro pins s σ H o i v ov iv u Q I ro ri rv h
 obtain⟨p,xs,k,j,rfl,rfl,hp,hj,q⟩:=h
 cases ro
 obtain⟨t,rfl⟩:=ri
 obtain⟨its,n,r,ho,hz⟩:=I.lst hp
 obtain⟨h1,h2,h3,h4⟩:=Ud hj
 have hl:=r.length
 have hn:=Ff
 have I':Inv X pins σ (upd H p (.lst (xs.set j v))) { s with heap:=s.heap.update p (bO (·.setIfInBounds j u)) }:=
  I.lstUpd hp ho (Q4 its n j u) (r.set rv j) (by rw [cQ];exact hz) s.toks
 by_cases h0:0<=k
 ·have hk:k.toNat=j:=by
   rw [jg h0 h4] at h1
   exact aM h1
  exact PySem.W.ki_setAt ho h0 (by omega) (by rw [al,<- hl];exact h4) (by rw [hk];exact⟨_,I',q⟩)
 ·have hk:(k+(its.toArray.size:Int)).toNat=j:=by
   rw [i8 (by omega) h3] at h1
   rw [al,<- hl]
   exact aM h1
  exact PySem.W.ki_setBack ho (by omega) (by rw [al,<- hl];exact h3) (by omega) (by rw [hk];exact⟨_,I',q⟩)
theorem Nd (lo hi:Option Int) (n:Nat):(eK lo hi none n).1=((HT.sIx n 0 lo:Nat):Int)/\(eK lo hi none n).2.1=((HT.sIx n n hi:Nat):Int)/\(eK lo hi none n).2.2=1:=by
 refine⟨?_,?_,rfl⟩
 ·cases lo with
  | none=>simp [eK,HT.sIx]
  | some i=>
   simp only [eK,HT.sIx,Option.getD_none,show (1:Int) > 0 by decide,if_true]
   by_cases h:i<0
   ·simp only [h,if_true] <;> omega
   ·simp only [h,if_false] <;> omega
 ·cases hi with
  | none=>simp [eK,HT.sIx]
  | some i=>
   simp only [eK,HT.sIx,Option.getD_none,show (1:Int) > 0 by decide,if_true]
   by_cases h:i<0
   ·simp only [h,if_true] <;> omega
   ·simp only [h,if_false] <;> omega
theorem Kz (its:List Value) (lo hi:Option Int):slicePick its.toArray lo hi none=((its.drop (HT.sIx its.length 0 lo)).take (HT.sIx its.length its.length hi - HT.sIx its.length 0 lo)).toArray:=by
 obtain⟨h1,h2,h3⟩:=Nd lo hi its.toArray.size
 unfold slicePick
 rw [h1,h2,h3]
 simp only [sliceRange_one,pick_run,al] <;> rfl
noncomputable def cf3 (K:aa):V->Option Int->Option Int->Hp->VK->Prop:=fun x lo hi H Q=>∃ a xs,x=.ref a/\SqL K H a xs /\ ∀ p,H p=none->Q (.ref p) (upd H p (.lst (Ec xs lo hi)))
theorem ap1:SlR X (cf3 X.K):=by
 intro pins s σ H x v vl vu lo hi sl Q I rx hs pl pu h
 obtain⟨a,xs,rfl,hx,q⟩:=h
 cases rx
 obtain⟨its,r,ht,hz⟩:=I.list hx
 have hlen:=r.length
 refine⟨"list", _,slot_list_getitem.lookup,ht.isList.typeIs,?_⟩
 refine wpAny_getItem_list_slice ht.isList hs pl pu .none (by simp) ?_ (by rw [al] <;> omega)
 rw [Kz,<- hlen]
 refine⟨.ref s.heap.objs.size,_,I.laid (t':=s.toks) (o:=.lst (Ec xs lo hi)) (fun b ob q=>af _ q) (ae _) ?_,rfl,q _ (I.hok.fresh (ae _))⟩
 exact⟨aD (G3 xs lo hi) hz,_,0,(r.drop (HT.sIx xs.length 0 lo)).take (HT.sIx xs.length xs.length hi - HT.sIx xs.length 0 lo),aF _ rfl⟩
noncomputable def Bd:V->Bool
 | .non=>true
 | .bl _=>true
 | .int _=>true
 | .str _=>true
 | _=>false
noncomputable def eqV:V->V->Bool
 | .non,.non=>true
 | .bl a,.bl b=>a==b
 | .bl a,.int b=>(if a then 1 else 0)==b
 | .int a,.bl b=>a==(if b then 1 else 0)
 | .int a,.int b=>a==b
 | .str a,.str b=>a==b
 | _,_=>false
theorem Mj {A:aT} {s:ah} {y x:V} {u v:Value} (ry:RelV y u) (rx:RelV x v) (fy:Bd y=true) (fx:Bd x=true):bc A s u v (eqV y x):=by
 cases y with
 | non=>
  cases ry
  cases x with
  | non=>cases rx;exact SeqAt.EqAt.same _
  | bl b=>cases rx;exact SeqAt.EqAt.none_bool b
  | int b=>obtain⟨t,rfl⟩:=rx;exact SeqAt.EqAt.none_int b t
  | str b=>obtain⟨t,rfl⟩:=rx;exact SeqAt.EqAt.none_str b t
  | _=>exact absurd (show false=true from fx) aj
 | bl a=>
  cases ry
  cases x with
  | non=>cases rx;exact SeqAt.EqAt.bool_none a
  | bl b=>cases rx;exact SeqAt.EqAt.bool_bool a b
  | int b=>obtain⟨t,rfl⟩:=rx;exact SeqAt.EqAt.bool_int a b t
  | str b=>obtain⟨t,rfl⟩:=rx;exact SeqAt.EqAt.bool_str a b t
  | _=>exact absurd (show false=true from fx) aj
 | int a=>
  obtain⟨t',rfl⟩:=ry
  cases x with
  | non=>cases rx;exact SeqAt.EqAt.int_none a t'
  | bl b=>cases rx;exact SeqAt.EqAt.int_bool a t' b
  | int b=>obtain⟨t,rfl⟩:=rx;exact SeqAt.EqAt.int_int a t' b t
  | str b=>obtain⟨t,rfl⟩:=rx;exact iC a t' b t
  | _=>exact absurd (show false=true from fx) aj
 | str a=>
  obtain⟨t',rfl⟩:=ry
  cases x with
  | non=>cases rx;exact SeqAt.EqAt.str_none a t'
  | bl b=>cases rx;exact SeqAt.EqAt.str_bool a t' b
  | int b=>obtain⟨t,rfl⟩:=rx;exact iD a t' b t
  | str b=>obtain⟨t,rfl⟩:=rx;exact SeqAt.EqAt.str_str a t' b t
  | _=>exact absurd (show false=true from fx) aj
 | _=>exact absurd (show false=true from fy) aj
noncomputable def eqU (x:V) (u:Value):Bool:=match u with
 | .none=>eqV .non x
 | .bool b=>eqV (.bl b) x
 | .int i _=>eqV (.int i) x
 | .str z _=>eqV (.str z) x
 | _=>false
theorem Y9 {x y:V} {u:Value} (r:RelV y u) (f:Bd y=true):eqU x u=eqV y x:=by
 cases y with
 | non=>cases r;rfl
 | bl b=>cases r;rfl
 | int i=>obtain⟨t,rfl⟩:=r;rfl
 | str z=>obtain⟨t,rfl⟩:=r;rfl
 | _=>exact absurd (show false=true from f) aj
theorem Fo {x:V}:∀ {xs:List V} {us:List Value},Vals xs us->xs.all Bd=true->us.any (eqU x)=xs.any fun y=>eqV y x
 | _,_,.nil,_=>rfl
 | y::xs,u::us,.cons r t,f=>by
  rw [bj,au] at f
  rw [dw,dw,Y9 r f.1,Fo t f.2]
theorem Ep {A:aT} {s:ah} {x:V} {v:Value} (rx:RelV x v) (fx:Bd x=true):∀ {xs:List V} {us:List Value},Vals xs us->xs.all Bd=true -> ∀ u∈us,bc A s u v (eqU x u)
 | _,_,.nil,_=>fun u hu=>by cases hu
 | y::xs,u::us,.cons r t,f=>fun u' hu=>by
  rw [bj,au] at f
  rcases List.mem_cons.mp hu with rfl|hu
  ·rw [Y9 r f.1];exact Mj r rx f.1 fx
  ·exact Ep rx fx t f.2 u' hu
noncomputable def inV (x:V) (xs:List V):Bool:=xs.any fun y=>eqV y x
noncomputable def rIn (K:aa) (neg:Bool):R2:=fun x y H Q=>∃ p xs,y=.ref p/\(SqL K H p xs\/SqT K H p xs)/\Bd x=true/\xs.all Bd=true/\Q (.bl (if neg then !inV x xs else inV x xs)) H
theorem V7:OpR X (bY .In) (rIn X.K false):=by
 intro pins s σ H x y v u Q I rx ry h
 obtain⟨p,xs,rfl,hq,fx,fs,q⟩:=h
 cases ry
 rcases hq with hq|hq
 ·obtain⟨its,r,pl,hz⟩:=I.list hq
  refine SeqAt.in_listAt (eqU x) pl.isList (fun w hw=>Ep rx fx r fs w (by simpa using hw)) ⟨.bl _,H,I,rfl,?_⟩
  rw [show its.toArray.any (eqU x)=its.any (eqU x) by simp,Fo r fs]
  exact q
 ·obtain⟨its,r,pl,hz⟩:=I.tuple hq
  refine SeqAt.in_tupleAt (eqU x) pl (fun w hw=>Ep rx fx r fs w (by simpa using hw)) ⟨.bl _,H,I,rfl,?_⟩
  rw [show its.toArray.any (eqU x)=its.any (eqU x) by simp,Fo r fs]
  exact q
theorem M5:OpR X (bY .NotIn) (rIn X.K true):=by
 intro pins s σ H x y v u Q I rx ry h
 obtain⟨p,xs,rfl,hq,fx,fs,q⟩:=h
 cases ry
 rcases hq with hq|hq
 ·obtain⟨its,r,pl,hz⟩:=I.list hq
  refine SeqAt.notIn_listAt (eqU x) pl.isList (fun w hw=>Ep rx fx r fs w (by simpa using hw)) ⟨.bl _,H,I,rfl,?_⟩
  rw [show its.toArray.any (eqU x)=its.any (eqU x) by simp,Fo r fs]
  exact q
 ·obtain⟨its,r,pl,hz⟩:=I.tuple hq
  refine SeqAt.notIn_tupleAt (eqU x) pl (fun w hw=>Ep rx fx r fs w (by simpa using hw)) ⟨.bl _,H,I,rfl,?_⟩
  rw [show its.toArray.any (eqU x)=its.any (eqU x) by simp,Fo r fs]
  exact q
theorem Ma:Br X (.builtin "len") (fun xs H Q=>∃ p ys,xs=[.ref p]/\(SqL X.K H p ys\/SqT X.K H p ys)/\Q (.int ys.length) H):=by
 intro pins s σ H xs us Q I r h
 obtain⟨p,ys,rfl,hq,q⟩:=h
 obtain⟨u,rfl,rx⟩:=Fc r
 cases rx
 have hn:=Ff
 rcases hq with hq|hq
 ·obtain⟨its,r',pl,hz⟩:=I.list hq
  have hlen:=r'.length
  exact Calls.call_len_list pl.isList (by simp only [al] <;> omega) ⟨.int ys.length,H,I.tok _,⟨s.toks+1,by rw [al,hlen]⟩,q⟩
 ·obtain⟨its,r',pl,hz⟩:=I.tuple hq
  have hlen:=r'.length
  exact len_tuple pl (by simp only [al] <;> omega) ⟨.int ys.length,H,I.tok _,⟨s.toks+1,by rw [al,hlen]⟩,q⟩
theorem Mb:Br X (.builtin "len") (fun xs H Q=>∃ z,xs=[.str z]/\z.length<=sizeLine/\Q (.int z.length) H):=by
 intro pins s σ H xs us Q I r h
 obtain⟨z,rfl,hz,q⟩:=h
 obtain⟨u,rfl,t,rfl⟩:=Fc r
 have hn:=Ff
 exact len_str (by omega) ⟨.int z.length,H,I.tok _,⟨_,rfl⟩,q⟩
theorem Mc:Br X (.type "list") (fun xs H Q=>∃ p ys,xs=[.ref p]/\(SqL X.K H p ys\/SqT X.K H p ys) /\ ∀ l,H l=none->Q (.ref l) (upd H l (.lst ys))):=by
 intro pins s σ H xs us Q I r h
 obtain⟨p,ys,rfl,hq,q⟩:=h
 obtain⟨u,rfl,rx⟩:=Fc r
 cases rx
 have fin:∀ (its:List Value),Vals ys its->ys.length<=sizeLine -> ∀ (h':Heap) (c':Nat),(∀ b o',s.heap.get? b=some o'->h'.get? b=some o') ->
   h'.get? s.heap.objs.size=some { cls:=.type "list", dict:=none,data:=.seq its.toArray c',slots:=#[] }->EP X pins σ Q (.ref s.heap.objs.size) { s with heap:=h' }:=fun its r' hz h' c' kp e=>
  ⟨.ref s.heap.objs.size,_,I.laid (t':=s.toks) kp (ae _) (show ObjOk X.prog X.w _ h' _ (.lst ys) from⟨hz,its,c',r',e⟩),rfl,q _ (I.hok.fresh (ae _))⟩
 rcases hq with hq|hq
 ·obtain⟨its,r',pl,hz⟩:=I.list hq
  have hlen:=r'.length
  obtain⟨o,ho,hc,n,hd⟩:=pl.isList
  exact call_list_seq p (.inl rfl) ho hc hd (fun h' c' kp e=>fin its r' hz h' c' kp e) (by simp only [al] <;> omega)
 ·obtain⟨its,r',pl,hz⟩:=I.tuple hq
  have hlen:=r'.length
  obtain⟨o,ho,hc,n,hd⟩:=pl
  exact call_list_seq p (.inr rfl) ho hc hd (fun h' c' kp e=>fin its r' hz h' c' kp e) (by simp only [al] <;> omega)
theorem Ks:Br X (.type "tuple") (fun xs H Q=>∃ p ys,xs=[.ref p]/\((SqL X.K H p ys /\ ∀ l,H l=none->Q (.ref l) (upd H l (.tup ys)))\/(SqT X.K H p ys/\Q (.ref p) H))):=by
 intro pins s σ H xs us Q I r h
 obtain⟨p,ys,rfl,h⟩:=h
 obtain⟨u,rfl,rx⟩:=Fc r
 cases rx
 rcases h with ⟨hq,q⟩|⟨hq,q⟩
 ·obtain⟨its,r',pl,hz⟩:=I.list hq
  have hlen:=r'.length
  refine call_tuple_list pl.isList (fun h' kp=>?_) (by simp only [al] <;> omega)
  have I1:Inv X pins σ H { s with heap:=h' }:=I.kept (t':=s.toks) kp
  have I2:Inv X pins σ (upd H h'.objs.size (.tup ys)) { s with heap:=h'.push { cls:=.type "tuple", data:=.seq its.toArray } }:=
   I1.laid (t':=s.toks) (fun b o e=>af _ e) (ae _) (show ObjOk X.prog X.w _ _ _ (.tup ys) from⟨hz,its,r',IsTup.new _ _⟩)
  exact⟨.ref h'.objs.size,_,I2,rfl,q _ (I1.hok.fresh (ae _))⟩
 ·obtain⟨its,r',pl,hz⟩:=I.tuple hq
  exact call_tuple_same pl ⟨.ref p,H,I,rfl,q⟩
noncomputable def tyV (K:aa) (T:String) (x:V) (H:Hp):Prop:=match x with
 | .str _=>T = "str"
 | .int _=>T = "int"
 | .ref p=>(T = "list" /\ ∃ xs,SqL K H p xs)\/(T = "tuple" /\ ∃ o,K.lookup p=some o/\o.cls=.type "tuple" /\ o.dict=none) \/
   (T = "dict" /\ ((∃ kvs,H p=some (.dK kvs)) \/ ∃ kvs,H p=some (.dT kvs)))\/(T = "set" /\ ∃ S n,H p=some (.set S n))
 | _=>False
theorem ai0 {pins:List (Addr×Obj)} {σ:St} {H:Hp} {s:ah} {T:String} {x:V} {v:Value} (I:Inv X pins σ H s) (r:RelV x v) (ty:tyV X.K T x H) :
  s.TypeIs v T /\ ∀ a,v=.ref a -> ∃ ob,s.heap.get? a=some ob/\ob.dict=none:=by
 cases x with
 | str z=>
  obtain⟨t,rfl⟩:=r
  cases (show T = "str" from ty)
  exact⟨typeIs_str s z t,fun _ e=>nomatch e⟩
 | int i=>
  obtain⟨t,rfl⟩:=r
  cases (show T = "int" from ty)
  exact⟨typeIs_int s i t,fun _ e=>nomatch e⟩
 | ref p=>
  cases r
  rcases ty with ⟨rfl,xs,hq⟩|⟨rfl,o,hk,hc,hd⟩|⟨rfl,hk⟩|⟨rfl,S,n,hk⟩
  ·obtain⟨its,_,pl,_⟩:=I.list hq
   refine⟨pl.isList.typeIs,fun a e=>?_⟩
   cases e
   obtain⟨o,n,e,c,hd,_⟩:=pl
   exact⟨o,e,hd⟩
  ·refine⟨⟨o,I.kIn p o hk,hc⟩,fun a e=>?_⟩
   cases e
   exact⟨o,I.kIn _ o hk,hd⟩
  ·have z:∃ o,s.heap.get? p=some o/\o.ExactDict:=by
    rcases hk with ⟨kvs,hk⟩|⟨kvs,hk⟩
    ·obtain⟨_,_,_,_,o,_,_,e,ex,_⟩:=I.hok p _ hk
     exact⟨o,e,ex⟩
    ·obtain⟨_,_,_,_,o,_,_,e,ex,_⟩:=I.hok p _ hk
     exact⟨o,e,ex⟩
   obtain⟨o,e,ex⟩:=z
   refine⟨⟨o,e,ex.1⟩,fun a e2=>?_⟩
   cases e2
   exact⟨o,e,ex.2.1⟩
  ·obtain⟨o,_,_,_,e,ex,_⟩:=I.hok p _ hk
   refine⟨⟨o,e,ex.1⟩,fun a e2=>?_⟩
   cases e2
   exact⟨o,e,ex.2.1⟩
 | _=>exact b6 ty
variable {o e:Expr} {es:List Expr} {to:TE} {t:TA} {name:Str} {apos cpos:Pos} {T id:String} {r:V->List V->Hp->VK->Prop}
end
noncomputable def MtM (X:Cx) (id:String) (r:V->List V->Hp->VK->Prop):Prop:=
 ∀ (pins:List (Addr×Obj)) (s:ah) (σ:St) (H:Hp) (x:V) (xs:List V) (v:Value) (us:List Value) (Q:VK),Inv X pins σ H s->RelV x v->Vals xs us->r x xs H Q ->
  aI (model X.prog X.w) X.A (call (.builtin id) (v::us)) (EP X pins σ Q) X.xe s
theorem Vals.one:∀ {x:V} {us:List Value},Vals [x] us -> ∃ u,us=[u]/\RelV x u
 | _,_,.cons r .nil=>⟨_,rfl,r⟩
theorem Vals.two:∀ {x y:V} {us:List Value},Vals [x,y] us -> ∃ u v,us=[u,v]/\RelV x u/\RelV y v
 | _,_,_,.cons r (.cons q .nil)=>⟨_,_,rfl,r,q⟩
theorem Vals.zero:∀ {us:List Value},Vals [] us->us=[]
 | _,.nil=>rfl
theorem Vals.dropLast {xs:List V} {us:List Value} (h:Vals xs us):Vals xs.dropLast us.dropLast:=by
 induction h with
 | nil=>exact .nil
 | cons r t ih=>
  cases t with
  | nil=>exact .nil
  | cons q t'=>exact .cons r ih
theorem Vals.eraseIdx:∀ {xs:List V} {us:List Value} (i:Nat),Vals xs us->Vals (xs.eraseIdx i) (us.eraseIdx i)
 | _,_,_,.nil=>.nil
 | _,_,0,.cons _ t=>t
 | _,_,i+1,.cons r t=>.cons r (Vals.eraseIdx i t)
theorem Qo {α:Type} (l:List α):l.eraseIdx (l.length - 1)=l.dropLast:=by
 induction l with
 | nil=>rfl
 | cons a r ih=>
  cases r with
  | nil=>rfl
  | cons b r=>
   have e:(a::b::r).length - 1=((b::r).length - 1)+1:=by
    have h1:(a::b::r).length=r.length+2:=rfl
    have h2:(b::r).length=r.length+1:=rfl
    omega
   rw [e,List.eraseIdx_cons_succ,ih]
   all_goals rfl
theorem Lq {α:Type}:∀ (l:List α) (i:Nat),(l.eraseIdx i).length<=l.length
 | [],_=>ae _
 | _::_,0=>cJ _
 | _::r,i+1=>dI (Lq r i)
section
variable {X:Cx} {pins:List (Addr×Obj)} {σ:St} {H:Hp} {s:ah} {l b:Addr} {xs ys zs:List V}
theorem Inv.lset {its its':List Value} {n:Nat} {f:Array Value->Array Value} {t':Nat} (I:Inv X pins σ H s) (hH:H l=some (.lst xs))
  (e:s.heap.get? l=some { cls:=.type "list", data:=.seq its.toArray n }) (hf:f its.toArray=its'.toArray) (hv:Vals ys its') (hz:ys.length<=sizeLine) (ht:s.toks<=t':=by first|exact ae _|exact a0 _ _|assumption|omega|(dsimp only;omega)) :
  Inv X pins σ (upd H l (.lst ys)) { s with heap:=s.heap.update l (bO f),toks:=t' }:=by
 have q:=PySem.IsL.update e f
 rw [hf] at q
 refine I.write (x:=l) (e:=l) (by rw [hH];exact trivial) (.inl rfl) (fun b' u hb hu=>(aQ s.heap (bO f) (cK hb)).trans hu) ⟨_,q⟩ ?_
 exact⟨hz,its',_,hv,q⟩
theorem Inv.lstM (I:Inv X pins σ H s) (hH:H l=some (.lst xs)):xs.length<=sizeLine /\ ∃ (its:List Value) (n:Nat),Vals xs its/\xs.length=its.length/\s.heap.get? l=some { cls:=.type "list", data:=.seq its.toArray n }:=by
 obtain⟨z,its,n,r,e⟩:=I.hok l _ hH
 exact⟨z,its,n,r,r.length,e⟩
end
section
variable {X:Cx}
noncomputable def E2:V->List V->Hp->VK->Prop:=fun x vs H Q=>∃ l xs y,x=.ref l/\vs=[y]/\H l=some (.lst xs)/\xs.length<sizeLine/\Q .non (upd H l (.lst (xs++[y])))
theorem Lr:MtM X "list.append" E2:=by
 intro pins s σ H x vs v us Q I rx rv h
 obtain⟨l,xs,y,rfl,rfl,hH,hz,q⟩:=h
 cases rx
 obtain⟨u,rfl,ru⟩:=rv.one
 obtain⟨z,its,n,r,hl,e⟩:=I.lstM hH
 refine fW F.slot_list_append ⟨_,e,rfl⟩ F.entry_list_append (F.args_list_append_2 _ _) (PySem.list_append l its.toArray n u (by rw [al];omega)) ⟨e,?_⟩
 refine⟨.non,_,I.lset (its':=its++[u]) hH e (by simp) (r.append (.cons ru .nil)) ?_,rfl,q⟩
 rw [aH,List.length_singleton]
 omega
noncomputable def bz7:V->List V->Hp->VK->Prop:=fun x vs H Q=>∃ l xs y,x=.ref l/\vs=[]/\H l=some (.lst xs)/\xs[xs.length - 1]? = some y/\Q y (upd H l (.lst xs.dropLast))
theorem a48:MtM X "list.pop" bz7:=by
 intro pins s σ H x vs v us Q I rx rv h
 obtain⟨l,xs,y,rfl,rfl,hH,hy,q⟩:=h
 cases rx
 have hus:=rv.zero
 subst hus
 obtain⟨z,its,n,r,hl,e⟩:=I.lstM hH
 obtain⟨u,hu,ru⟩:=r.get hy
 have hy':its.toArray[its.toArray.size - 1]? = some u:=by
  show its.toArray[its.length - 1]? = some u
  rw [<- bU,<- hl]
  exact hu
 refine fW F.slot_list_pop ⟨_,e,rfl⟩ F.entry_list_pop (F.args_list_pop_1 _) (MeetsSeq.list_pop_last l its.toArray n u hy' (by rw [al];omega)) ⟨e,?_⟩
 refine⟨y,_,I.lset (its':=its.dropLast) hH e ?_ r.dropLast ?_,ru,q⟩
 ·show its.toArray.eraseIdxIfInBounds (its.toArray.size - 1)=its.dropLast.toArray
  rw [al,eJ,Qo]
 ·rw [List.length_dropLast]
  omega
noncomputable def ae2:V->List V->Hp->VK->Prop:=fun x vs H Q=>∃ l xs i k y,x=.ref l/\vs=[.int i]/\H l=some (.lst xs) /\ -(2 ^ 63)<=i/\i<2 ^ 63/\iJ i xs.length=some k/\xs[k]? = some y/\Q y (upd H l (.lst (xs.eraseIdx k)))
theorem Z8:MtM X "list.pop" ae2:=by
 intro pins s σ H x vs v us Q I rx rv h
 obtain⟨l,xs,i,k,y,rfl,rfl,hH,h1,h2,hk,hy,q⟩:=h
 cases rx
 obtain⟨u,rfl,ru⟩:=rv.one
 obtain⟨t,rfl⟩:=ru
 obtain⟨z,its,n,r,hl,e⟩:=I.lstM hH
 obtain⟨w,hw,rw'⟩:=r.get hy
 refine fW F.slot_list_pop ⟨_,e,rfl⟩ F.entry_list_pop (F.args_list_pop_2 _ _)
  (MeetsSeq.list_pop_at l its.toArray n i t k w (fitsIndex_both h1 h2) (by rw [al,<- hl];exact hk) (by rw [<- bU];exact hw) (by rw [al];omega)) ⟨e,?_⟩
 refine⟨y,_,I.lset (its':=its.eraseIdx k) hH e ?_ (r.eraseIdx k) ?_,rw',q⟩
 ·show its.toArray.eraseIdxIfInBounds k=(its.eraseIdx k).toArray
  rw [eJ]
 ·have:=Lq xs k
  omega
end
section
variable {prog:aE} {w:bq} {A:aT} {E:Value->ah->Prop} {s:ah}
set_option maxRecDepth 100000 in
end
section
variable {X:Cx}
end
end L2
namespace Att
open PySem PySem.W PySem.Calls PyProof.Rows
theorem Hd {P:Params} {h:Heap}:∀ (ns:List Int) (vs:List Value),WellAll P h vs (ns.map jc)->IntsAre vs ns:=by
 intro ns
 induction ns with
 | nil=>
  intro vs w
  rw [fz] at w
  cases w
  exact .nil
 | cons n ns ih=>
  intro vs w
  rw [ba] at w
  cases w with
  | cons a b=>
   cases a
   exact .cons _ _ (ih _ b)
theorem Wj {l:OpenLaw} {n:Nat} (hn:l.most=some n) {P:Params} {h:Heap} {args:List ju} {vals:List Value}
  (hpre:l.row.toRowW.claim.pre args=true) (hwl:WellAll P h vals args) :
  ∃ a vs ns,vals=[aC a]/\args=[WData.list (ns.map jc)]/\h.get? a=some { cls:=.type "list", data:=.seq vs.toArray }/\IntsAre vs ns/\ns.length<=n:=by
 have hsh:WShape.hasAll [] args [.list .int]=true:=(pre_splitW hpre).1
 have hc:l.pre.holds [] { args:=args }=true:=(pre_splitW hpre).2
 obtain⟨d,r,rfl,h1,h2⟩:=hasAllW_cons hsh
 obtain rfl:=hasAllW_nil h2
 obtain⟨xs,rfl,h3⟩:=hasW_list h1
 obtain⟨ns,rfl⟩:=items_int h3
 have hlen:ns.length<=n:=by
  unfold OpenLaw.pre at hc
  have h4:(WTm.not (.lt (.lit (.int (n:Int))) (.len (.arg 0)))).holds [] { args:=[.list (ns.map .int)] }=true:=by
   have h4:=(holds_andW hc).1
   rw [hn] at h4
   exact h4
  have h5:=condW_of h4 (w_not (w_lt w_lit (w_len_list (w_arg rfl))))
  rw [aw] at h5
  refine Nat.le_of_not_lt fun q=>?_
  have q':(n:Int)<((ns.length:Nat):Int):=by omega
  first
   | (rw [decide_eq_true q'] at h5;exact absurd h5 (by decide))
   | (simp at h5;omega)
 cases hwl with
 | cons w1 w2=>
  cases w2
  cases w1 with
  | list ho hall=>exact⟨_,_,ns,rfl,rfl,ho,Hd ns _ hall,hlen⟩
theorem Wc (l:OpenLaw) (args:List ju):l.row.toRowW.claim.post args (.bool true) args=true:=
 postW_of (r:=l.row.toRowW) (X:=(true==true))
  (show WShape.has [] (.bool true) .bool=true by first|rfl|decide|simp [WShape.has,WShape.arms,WShape.armsAll])
  (show (WTm.eq .res (.lit (.bool true))).value [] { args:=args,res:=some (.bool true),after:=args }=some (.bool (true==true)) from w_eq_bool (w_res rfl) w_lit) rfl
section
variable {prog:aE} {w:bq} {A:aT} {E:Value->ah->Prop} {s:ah} {K:Frag}
end
end Att
namespace L2
open PySem PySem.Spec PyProof.Rows
theorem Ly:∀ {vs:List Value} {ns:List Int},IntsAre vs ns->Vals (ns.map V.int) vs
 | _,_,.nil=>.nil
 | _,_,.cons n t h=>.cons ⟨t,rfl⟩ (Ly h)
noncomputable def ai7 (H:Hp):Prop:=∀ b,H b=none \/ ∃ o xs,H b=some (.frz o (.lst xs))
theorem law_call {P:aE} {w:bq} {K:aa} {mg mb:Str->Option Value} {CX:CXT} {k:Nat} {fa a:Addr} {fd:ai} {x:Str} {sp:Sp} {s₁:ah} {vs:List Value} {ns:List Int}
  (KX:K.In s₁.heap) (hns:s₁.heap.Ns aB mg) (hb:s₁.heap.Ns builtinsNs mb) (hbb:∀ x:Str,x ≠ "__name__" -> mb x=cq x) (htk:K4 K s₁.toks) (hlim:s₁.heap.NoLimit) (hg:s₁.gens = #[])
  (ha:s₁.heap.get? a=some { cls:=.type "list", data:=.seq vs.toArray }) (hi:IntsAre vs ns) (hl:ns.length<=sizeLine) (hr:Room k iR)
  (F:∀ base:Heap,K.In base->base.Ns aB mg->FnOk P w K mg base CX k fa fd [x] sp) (hbind:∀ (s:ah) (u:Value),iP s fd ⟨[u],[]⟩ [(x,u)])
  (hsp:∀ H:Hp,ai7 H->SqL K H a (ns.map V.int)->sp [.ref a] H (fun v _=>v=.bl true) fun _ _ _=>False)
  (hCX:∀ H e s',CX [] H s₁ (fun _ _ _=>False) e s'->False) :
  dP (model P w) iR (.call (.ref fa) ⟨[.ref a],[]⟩) (fun r s'=>r=.ok (.ret (.bool true))/\OldK s₁.heap s'.heap/\s'.os=s₁.os/\gO s'.gens) s₁:=by
 have rv:=Ly hi
 have lenV:=hi.length
 have core:∀ H:Hp,ai7 H->SqL K H a (ns.map V.int)->HOk P w H s₁.heap->(∀ b,H b≠none->b=a)->(H a≠none->K.lookup a=none) ->
   dP (model P w) iR (.call (.ref fa) ⟨[.ref a],[]⟩) (fun r s'=>r=.ok (.ret (.bool true))/\OldK s₁.heap s'.heap/\s'.os=s₁.os/\gO s'.gens) s₁:=by
  intro H hO hS hok hA hK
  have base_of:∀ {b:Addr} {o:Obj},s₁.heap.get? b=some o->H b=none->(Mr s₁.heap H).get? b=some o:=fun e n=>Zk e n
  have noA:∀ {b:Addr} {o:Obj} {es:Array DictEntry} {ep:Nat},s₁.heap.get? b=some o->o.data=.dict es ep->H b=none:=fun {b o es ep} e d=>by
   cases q:H b with
   | none=>rfl
   | some u=>
    have e':b=a:=hA b (by rw [q];simp)
    subst e'
    rw [ha] at e;cases e
    have d':Data.seq vs.toArray _=Data.dict es ep:=d
    cases d'
  have nsK:∀ {b:Addr} {m:Str->Option Value},s₁.heap.Ns b m->(Mr s₁.heap H).Ns b m:=fun {b m} ⟨o,es,ep,e,d,r⟩=>⟨o,es,ep,base_of e (noA e d),d,r⟩
  have hKb:K.In (Mr s₁.heap H):=fun b o e=>base_of (KX b o e) (by
   cases q:H b with
   | none=>rfl
   | some u=>
    have e':b=a:=hA b (by rw [q];simp)
    subst e'
    rw [hK (by rw [q];simp)] at e;cases e)
  have hM:Mod K mg (Mr s₁.heap H):=⟨hKb,nsK hns,⟨mb,nsK hb,hbb⟩,let ⟨mc,h1,h2⟩:=hlim;⟨mc,nsK h1,h2⟩⟩
  have e0:Env0 P w K mg (Mr s₁.heap H) iR [] s₁ H:=⟨rfl,hM,fun b o e=>al2 e,i3 (Vt _ _),trivial,fun b hb=>absurd (show b∈([]:List Addr) from hb) (by simp),hok,.of_eq hg,htk⟩
  refine eO ((F _ hKb (nsK hns)).run iR [] s₁ H ⟨[.ref a],[]⟩ [.ref a] [.ref a] _ _ hr e0 (hbind s₁ (.ref a)) (.cons rfl .nil) (hsp H hO hS)) fun r s' h=>?_
  cases r with
  | error e=>exact (hCX H e s' h).elim
  | ok fl=>
   cases fl with
   | next=>exact b6 h
   | brk=>exact b6 h
   | cont=>exact b6 h
   | ret u=>
    obtain⟨v,H',os,bare,un,hok',r',q⟩:=h
    have q':v=.bl true:=q
    subst q'
    obtain rfl:u=eW true:=r'
    refine⟨rfl,OldK.of_keep fun b o e=>?_,os.1,bare⟩
    cases q:H b with
    | none=>exact un.keep b o e q (by intro z;exact absurd (show b∈([]:List Addr) from z) (by simp)) (by simp)
    | some u=>
     rcases hO b with z|⟨ob,xs,z⟩
     ·rw [q] at z;cases z
     ·have z2:=un.frzs b ob _ z
      obtain⟨e1,_⟩:=hok b _ z
      obtain⟨e2,_⟩:=hok' b _ z2
      rw [e] at e1;cases e1
      exact e2
 cases hk:K.lookup a with
 | some o=>
  have e:=KX a o hk
  rw [ha] at e
  cases e
  refine core (fun _=>none) (fun _=>.inl rfl) (.inr ⟨_,vs.toArray,_,hk,rfl,rfl,rfl,by rw [al,lenV];exact hl,by rw [aR];intro v hv;obtain⟨i,_,rfl⟩:=List.mem_map.mp hv;rfl,by simpa using rv⟩) (fun b u z=>by have z':(none:Option HO)=some u:=z;cases z') (fun b z=>absurd rfl z) fun z=>absurd rfl z
 | none=>
  refine core (fun b=>if b=a then some (.frz { cls:=.type "list", data:=.seq vs.toArray } (.lst (ns.map V.int))) else none) (fun b=>?_) (.inl (.inr ⟨{ cls:=.type "list", data:=.seq vs.toArray },if_pos rfl⟩)) (fun b u z=>?_) (fun b z=>?_) fun _=>hk
  ·by_cases hb:b=a
   ·exact .inr ⟨_,_,if_pos hb⟩
   ·exact .inl (if_neg hb)
  ·by_cases hb:b=a
   ·have z':=(if_pos hb).symm.trans z
    cases z'
    subst hb
    exact⟨ha,by rw [aw];exact hl,vs,_,rv,ha⟩
   ·have z':=(if_neg hb).symm.trans z
    cases z'
  ·by_cases hb:b=a
   ·exact hb
   ·exact absurd (if_neg hb) z
end L2
namespace L2
open PySem PySem.Spec PyProof.Rows
noncomputable def An (s:Stmt) (j:Nat):Stmt:=match s with
 | .ClassDef _ _ _ body _ _ _ _ _ _ _=>body.getD j (.Pass ⟨0,0,0,0⟩)
 | _=>.Pass ⟨0,0,0,0⟩
noncomputable def A7 (s:Stmt):Arguments:=match s with
 | .FunctionDef _ a _ _ _ _ _ _ _ _=>a
 | _=>{ posonlyargs:=[],args:=[],vararg:=none,kwonlyargs:=[],kw_defaults:=[],kwarg:=none,defaults:=[] }
noncomputable def Ai (s:Stmt):List Stmt:=match s with
 | .FunctionDef _ _ b _ _ _ _ _ _ _=>b
 | _=>[]
noncomputable def Aa (s:Stmt):Scope:=match s with
 | .FunctionDef _ _ _ _ _ _ sc _ _ _=>sc
 | _=>{ kind:=.function,names:=[],isGenerator:=false,isCoroutine:=false }
noncomputable abbrev CX0:CXT:=fun _ _ _ _ _ _=>False
structure Fun (K:aa) (x qual:Str) (st:Stmt) (f:Addr) (fd:ai):Prop where
 ex:∃ (oc:Value) (od:Option Addr) (kV doc pm:Value) (an:Option Addr) (cdv ct:Value) (osl:Array (Option Value)),
  fd=bp x qual (A7 st) (Ai st) (Aa st) .none kV doc pm an cdv ct/\K.lookup f=some ⟨oc,od,.func fd,osl⟩/\bW K cdv qual=true
 kp:ak K (.ref f)=true
section
variable {P:aE} {w:bq} {K:aa} {mg:Str->Option Value} {base:Heap}
theorem Fun.binds {x qual:Str} {st:Stmt} {f:Addr} {fd:ai} {ps:List Str} (F:Fun K x qual st f fd)
  (h:∀ (kV doc pm:Value) (an:Option Addr) (cdv ct:Value) (us:List Value),us.length=ps.length->iG (bp x qual (A7 st) (Ai st) (Aa st) .none kV doc pm an cdv ct) ⟨us,[]⟩=pure (ps.zip us)):Binds K fd ps []:=by
 obtain⟨oc,od,kV,doc,pm,an,cdv,ct,osl,rfl,lk,hcd⟩:=F.ex
 exact .all (h kV doc pm an cdv ct)
theorem Qt {x qual:Str} {st:Stmt} {f:Addr} {oc:Value} {od an:Option Addr} {osl:Array (Option Value)} {kV doc pm cdv ct:Value} (l:K.lookup f=some ⟨oc,od,.func (bp x qual (A7 st) (Ai st) (Aa st) .none kV doc pm an cdv ct),osl⟩)
  (c:bW K cdv qual=true) (k:ak K (.ref f)=true):Fun K x qual st f (bp x qual (A7 st) (Ai st) (Aa st) .none kV doc pm an cdv ct):=⟨⟨oc,od,kV,doc,pm,an,cdv,ct,osl,rfl,l,c⟩,k⟩
end
section
variable {X:Cx}
end
theorem Mt {A B:Prop} (h:B):if false=true then A else B:=by
 rw [if_neg aj]
 exact h
theorem Mu {A B:Prop} (h:A):if true=true then A else B:=by
 rw [if_pos rfl]
 exact h
theorem B7 {c A B:Prop} [Decidable c] (h1:c->A) (h2:¬ c->B):if c then A else B:=by
 by_cases h:c
 ·rw [if_pos h]
  exact h1 h
 ·rw [if_neg h]
  exact h2 h
noncomputable def Same (H H':Hp):Prop:=∀ b o,H b=some o->H' b=some o
theorem Same.refl (H:Hp):Same H H:=fun _ _ h=>h
theorem Same.trans {H H1 H2:Hp} (a:Same H H1) (b:Same H1 H2):Same H H2:=fun c o h=>b c o (a c o h)
theorem Same.free {H H':Hp} (e:Same H H') {l:Addr} (h:H' l=Option.none):H l=Option.none:=by
 cases q:H l with
 | none=>rfl
 | some o=>
  rw [e l o q] at h
  cases h
noncomputable def Cx.comp (X:Cx) (N':List Str) (scope:Scope) (cl:List (Str×Addr)) (fp:List Addr) (C:Addr) (s:ah) (H:Hp) (xe:Value->ah->Prop):Cx:=
 {prog:=X.prog,w:=X.w,K:=X.K,mg:=X.mg,base:=X.base,A:=X.A,N:=N',s₀:=s,H₀:=H,env:=jo scope cl C X.env,outer:=X.stack,stack:=X.stack,
  ex:=fp,fn:=fun x=>(cl.lookup x).isNone,calm:=X.calm,pn:=[],xe:=xe }
noncomputable def Vl (srcs:List (Option Nat)) (σ:St):St:=srcs.map fun o=>o.bind fun j=>(σ[j]?).join
structure Hr (X:Cx) (N':List Str) (srcs:List (Option Nat)) (scope:Scope) (cl:List (Str×Addr)):Prop where
 clos:closureFor scope X.env=pure cl
 nocell:∀ y∈scope.names,y.2≠.cell
 kind:scope.kind=.function
 names:∀ y∈scope.names,y.2=.local->scope.names.lookup y.1=some .local
 sub:∀ x c,cl.lookup x=some c->X.env.cells.lookup x=some c
 has:∀ x,((fK scope X.env).names.lookup x=some .cell\/(fK scope X.env).names.lookup x=some .free) -> ∃ c,cl.lookup x=some c
 len:srcs.length=N'.length
 src:∀ (k j:Nat) (x:Str),N'[k]? = some x->srcs[k]? = some (some j)->X.N[j]? = some x/\(X.env.scope.names.lookup x=some .cell\/X.env.scope.names.lookup x=some .free) /\
  ((fK scope X.env).names.lookup x=some .cell\/(fK scope X.env).names.lookup x=some .free)
noncomputable def Vd (X:Cx) (ifs:List Expr) (t:TT):Prop:=
 ∀ (pins:List (Addr×Obj)) (s:ah) (σ:St) (H:Hp) (Q:Bool->Hp->Prop),Inv X pins σ H s->t σ H Q ->
  aI (model X.prog X.w) X.A (forIn ifs true fun c r=>if r=true then do let ok <- isTrue c X.env (eval c X.env);pure (dg ok) else pure (dg r)) (TP X pins σ Q) X.xe s
noncomputable def cg8:TT:=fun _ H Q=>Q true H
theorem ab7 {X:Cx}:Vd X [] cg8:=fun _ _ _ H _ I h=>wpAny_tests_nil ⟨H,I,h⟩
theorem ab8 {X:Cx} {c:Expr} {t:TT} (h:PT X c t):Vd X [c] t:=fun pins s σ H Q I q=>wpAny_tests_one (h pins s σ H Q I q)
noncomputable def ah5 (srcs:List (Option Nat)) (wi:TI) (g:TG) (tc:TT) (te:TE):TE:=fun σ H Q=>wi σ H fun J H1=>∀ D,H1 D=none ->
 ∃ W:Nat->Nat->St->Hp->Prop,(∃ m,W 0 m (Vl srcs σ) (upd H1 D (.lst []))) /\ ∀ i m σ' H',W i m σ' H' ->
  (J.stop i H'/\Q (.ref D) H')\/(J.go i H' /\ ∃ N:St->Hp->Prop,(∀ σ2 H2,N σ2 H2 -> ∃ m',m'<m/\W (i+1) m' σ2 H2) /\ ∀ x H2,J.yld i H' x H2->g x σ' H2 fun σ3 H3=>tc σ3 H3 fun b H4=>if b=true then
    te σ3 H4 fun v H5=>∃ ys,H5 D=some (.lst ys)/\ys.length<sizeLine/\N σ3 (upd H5 D (.lst (ys++[v])))
   else N σ3 H4)
section
variable {g:TG} {tc:TT} {te:TE} {D:Addr} {R:Hp->Prop} {σ:St} {H:Hp}
end
section
variable {prog:aE} {w:bq} {A:aT} {E:Value->ah->Prop} {R:g6->ah->Prop} {s:ah}
theorem Me {elt target iter:Expr} {ifs:List Expr} {scope:Scope} {pos:Pos} {it acc:Value} {env:Env} (I:Nat->ah->Prop)
  (turn:∀ n s,I n s->aI (model prog w) A (pyNext it) (fun r s₁=>match r with
   | none=>R (.ok .next) s₁
   | some v=>aI (model prog w) A (fq target it v) (fun _ s₀=>aI (model prog w) A (i4 target env v) (fun _ s₂=>
     aI (model prog w) A (forIn ifs true fun c r=>if r=true then do let ok <- isTrue c env (eval c env);pure (dg ok) else pure (dg r)) (fun ok s₃=>
      if ok=true then aI (model prog w) A (eval elt env) (fun x s₄=>
       aI (model prog w) A (call (.builtin "list.append") [acc,x]) (fun _ s₅=>∃ m,m<n/\I m s₅) (iV (model prog w) A env fun e s'=>R (.error e) s') s₄) (iV (model prog w) A env fun e s'=>R (.error e) s') s₃
      else ∃ m,m<n/\I m s₃) (iV (model prog w) A env fun e s'=>R (.error e) s') s₂) (iV (model prog w) A env fun e s'=>R (.error e) s') s₀) (iV (model prog w) A env fun e s'=>R (.error e) s') s₁) (iV (model prog w) A env fun e s'=>R (.error e) s') s)
  (n:Nat) (h:I n s) :
  dP (model prog w) A (.compLoop (.ListComp elt [⟨target,iter,ifs,0⟩] scope pos) 0 it acc env) R s:=by
 refine codeAny_loop rfl I (fun n s hI=>?_) n h
 show aI _ A ((compTurn (.ListComp elt [⟨target,iter,ifs,0⟩] scope pos) 0 it acc env).onRaise (fun x=>do iI x env;theTreesLotGoes x)) _ _ s
 refine wpAny_noted ?_
 rw [compTurn_list]
 refine ag (cZ (ag (bP (turn n s hI) (fun r s₁ h₁=>?_) fun _ _ h'=>h')))
 cases r with
 | none=>exact am h₁
 | some v=>
  refine ag (bP h₁ (fun _ s₀ h₀=>?_) fun _ _ h'=>h')
  refine ag (bP h₀ (fun _ s₂ h₂=>ag (bP h₂ (fun ok s₃ h₃=>?_) fun _ _ h'=>h')) fun _ _ h'=>h')
  cases ok with
  | false=>exact am ⟨rfl,h₃⟩
  | true=>
   exact ag (ag (bP h₃ (fun x s₄ h₄=>ag (bP h₄ (fun _ s₅ h₅=>am (am ⟨rfl,h₅⟩)) fun _ _ h'=>h')) fun _ _ h'=>h'))
end
section
variable {X:Cx} {elt tg iter:Expr} {ifs:List Expr} {scope:Scope} {pos:Pos} {N':List Str} {srcs:List (Option Nat)} {cl:List (Str×Addr)} {wi:TI} {g:TG} {tc:TT} {te:TE}
theorem Qj {xe:Value->ah->Prop} {pins:List (Addr×Obj)} {σ:St} {H:Hp} {s:ah} {fp:List Addr} {C D:Addr} {h₁:Heap} {tk:Nat} (S:Hr X N' srcs scope cl) (I:Inv X pins σ H s) (f:∀ b∈fp,Df X pins H b) (fo:∀ b∈fp,b<s.heap.objs.size)
  (hD:s.heap.objs.size<=D) (hC:s.heap.objs.size<=C) (hDC:C≠D) (hns:∃ m,h₁.Ns C m) (old:∀ b o,s.heap.get? b=some o->h₁.get? b=some o) (hacc:∃ n,h₁.get? D=some { cls:=.type "list", data:=.seq ([]:List Value).toArray n }) (ht:s.toks<=tk:=by first|exact ae _|exact a0 _ _|assumption|omega|(dsimp only;omega)) :
  Inv (X.comp N' scope cl fp C s H xe) [] (Vl srcs σ) (upd H D (.lst [])) { s with heap:=h₁,toks:=tk }:=by
 have hfD:=I.hok.fresh hD
 have ok:(X.comp N' scope cl fp C s H xe).Ok:=by
  refine⟨I.ok.mod,S.kind,I.ok.glob,I.ok.blt,hC,fun x y c a b=>I.ok.inj x y c (S.sub x c a) (S.sub y c b),S.has,fun x c hf hl=>?_,I.ok.hd,I.ok.frames,.inl rfl,fun b hb=>⟨?_,fun x c hl=>?_⟩,I.bs,aD I.ok.bsz I.sz,fun b o e hb=>?_,fun b hb hfs=>?_,I.stack,I.stkFree,fun x y t e=>av (I.ok.tk x y t e) I.os.2⟩
  ·have hl':cl.lookup x=some c:=hl
   have hf':(cl.lookup x).isNone=true:=hf
   rw [hl'] at hf'
   cases hf'
  ·exact aL (av (fo b hb) hC)
  ·exact (f b hb).2.2.2.2.1 x c (S.sub x c hl)
  ·rcases (f b hb).2.2.2.1 with z|z
   ·exact I.ok.noex b o e z
   ·exact absurd (av (aA e) (aD I.ok.bsz z)) (d8 _)
  ·rcases List.mem_cons.mp (I.stkSub b hfs) with z|z
   ·exact (f b hb).2.1 z
   ·exact (f b hb).2.2.1 z
 obtain⟨m0,hns⟩:=hns
 obtain⟨nn,hacc⟩:=hacc
 refine⟨ok,⟨rfl,ht⟩,I.bare,Un.laid old hD hfD,⟨m0,hns,fun k x v e1 e2 e3=>?_⟩,fun x c hl=>?_,?_,fun x c hl=>?_,fun p hp=>absurd (show p∈([]:List (Addr×Obj)) from hp) (by simp),I.hok.laid old hD ⟨bT _,[],nn,.nil,hacc⟩,?_⟩
 ·-- the captured names
  have e1:N'[k]? = some x:=e1
  have e2:(srcs.map fun o=>o.bind fun j=>(σ[j]?).join)[k]? = some (some v):=e2
  rw [aY] at e2
  cases hk:srcs[k]? with
  | none=>rw [hk] at e2;cases e2
  | some o=>
   rw [hk] at e2
   cases o with
   | none=>cases e2
   | some j=>
    have e2':(σ[j]?).join=some v:=aM e2
    have e3':σ[j]? = some (some v):=by
     cases hj:σ[j]? with
     | none=>rw [hj] at e2';cases e2'
     | some y=>rw [hj] at e2';exact congrArg some e2'
    obtain⟨a1,a2,a3⟩:=S.src k j x e1 hk
    obtain⟨m,hn,hl⟩:=I.loc
    obtain⟨u,r,l⟩:=hl j x v a1 e3' (a2.elim (fun z=>.inr (.inl z)) fun z=>.inr (.inr z))
    refine⟨u,r,.inr ⟨a3,?_⟩⟩
    obtain⟨c,hc⟩:=S.has x a3
    refine⟨c,hc,?_⟩
    rcases l with ⟨z,_⟩|⟨_,c',hc',o,ho,hd⟩
    ·have z':X.env.scope.names.lookup x=some .local:=z
     rcases a2 with q|q <;> rw [q] at z' <;> cases z'
    ·have e:=S.sub x c hc
     rw [hc'] at e
     cases e
     exact⟨o,old _ o ho,hd⟩
 ·obtain⟨v,o,ho,hd⟩:=I.cell x c (S.sub x c hl)
  exact⟨v,o,old _ o ho,hd⟩
 ·show upd H D (.lst []) C=none
  rw [Ak hDC]
  exact I.hok.fresh hC
 ·have hx:=S.sub x c hl
  obtain⟨v,o,ho,hd⟩:=I.cell x c hx
  rw [Ak (aL (av (aA ho) hD))]
  exact I.freeC x c hx
 ·show (Vl srcs σ).length=N'.length
  unfold Vl
  rw [aw,S.len]
noncomputable def Bc (X:Cx) (scope:Scope) (cl:List (Str×Addr)) (use:Option (Value->Sem Unit)) (Q2:Value->ah->Prop) (D C:Addr):Value->ah->Prop:=
 iV (model X.prog X.w) X.A (jo scope cl C X.env) fun e s'=>compPost (model X.prog X.w) X.A X.xe use Q2 (.ref D) C (.error e) s'
theorem Ld {pins:List (Addr×Obj)} {s:ah} {σ:St} {H:Hp} {Q:VK} {use:Option (Value->Sem Unit)} {Q2:Value->ah->Prop} (hc:X.calm=true) (S:Hr X N' srcs scope cl) (hi:PI X tg iter wi)
  (hb:∀ fp C D s2 H2,Inv X pins σ H2 s2->(∀ b∈fp,Df X pins H2 b)->s2.heap.objs.size<=C->PG (X.comp N' scope cl fp C s2 H2 (Bc X scope cl use Q2 D C)) tg g/\Vd (X.comp N' scope cl fp C s2 H2 (Bc X scope cl use Q2 D C)) ifs tc/\PE (X.comp N' scope cl fp C s2 H2 (Bc X scope cl use Q2 D C)) elt te)
  (I:Inv X pins σ H s) (h:ah5 srcs wi g tc te σ H Q)
  (fin:∀ (D C:Addr) (H':Hp) (s':ah),Inv X pins σ H' s'->(∃ m,s'.heap.Ns C m)->Df X pins H' C->Q (.ref D) H'->compPost (model X.prog X.w) X.A X.xe use Q2 (.ref D) C (.ok .next) s')
  (hs:∀ x,dy iter X.env x=pure x) :
  aI (model X.prog X.w) X.A (comprehension (.ListComp elt [⟨tg,iter,ifs,0⟩] scope pos) scope X.env (firstIterPos [⟨tg,iter,ifs,0⟩] pos) (newList []) false (eval iter X.env) use) Q2 X.xe s:=by
 refine wpAny_comprehension_free rfl hs S.clos S.kind S.names (thn (hi pins s σ H _ I h) fun v s1 h1=>thn h1 fun itv s2 h2=>?_)
 obtain⟨it,fp,tn,J,H2,e,I2,T,st2,f2,q2⟩:=h2
 subst e
 refine cT (wpAny_newFunctionEnv S.nocell (by intro y hy;simp at hy) (fun h₁ hns₁ hsb₁=>?_) S.kind)
 dsimp only at hns₁ hsb₁ ⊢
 generalize hH2:s2.heap.push { cls:=.type "list", dict:=none,data:=.seq ([]:List Value).toArray }=G2 at hns₁ hsb₁ ⊢
 have hCe:G2.objs.size=s2.heap.objs.size+1:=by rw [<- hH2,cI]
 have hDC:G2.objs.size≠s2.heap.objs.size:=by rw [hCe];exact eN (eP _)
 have hCle:s2.heap.objs.size<=G2.objs.size:=by rw [hCe];exact cJ _
 have old:∀ b o,s2.heap.get? b=some o->h₁.get? b=some o:=fun b o e=>
  hsb₁.extBut b o (aL (av (aA e) hCle)) (af _ (hH2▸af _ e))
 have hacc:∃ n,h₁.get? s2.heap.objs.size=some { cls:=.type "list", data:=.seq ([]:List Value).toArray n }:=⟨_,hsb₁.extBut _ _ (cK hDC) (af _ (hH2▸aF _ rfl))⟩
 have fo:∀ b∈fp,b<s2.heap.objs.size:=fun b hb=>by
  obtain⟨o,ho,_⟩:=T.obj _ _ st2 b hb
  exact aA ho
 have st3:tn 0 h₁:=T.keep _ _ _ st2 fun b _ o e=>old b o e
 obtain⟨hg,ht,he⟩:=hb fp G2.objs.size s2.heap.objs.size s2 H2 I2 f2 hCle
 obtain⟨W,⟨m0,w0⟩,turn⟩:=q2 s2.heap.objs.size (I2.hok.fresh (ae _))
 have loop:∀ s3:ah,s3={ s2 with heap:=h₁,toks:=s2.toks+([]:List (Str×Value)).length } ->
   dP (model X.prog X.w) X.A (.compLoop (.ListComp elt [⟨tg,iter,ifs,0⟩] scope pos) 0 (.ref it) (.ref s2.heap.objs.size) (jo scope cl G2.objs.size X.env))
    (compPost (model X.prog X.w) X.A X.xe use Q2 (.ref s2.heap.objs.size) G2.objs.size) s3:=by
  rintro s3 rfl
  have I3:Inv (X.comp N' scope cl fp G2.objs.size s2 H2 (Bc X scope cl use Q2 s2.heap.objs.size G2.objs.size)) [] (Vl srcs σ) (upd H2 s2.heap.objs.size (.lst [])) { s2 with heap:=h₁,toks:=s2.toks+([]:List (Str×Value)).length }:=
   Qj S I2 f2 fo (ae _) hCle hDC ⟨_,hns₁⟩ old hacc
  have stat:∀ {H':Hp},(∀ b∈fp,H' b=none) -> ∀ b∈fp,Df (X.comp N' scope cl fp G2.objs.size s2 H2 (Bc X scope cl use Q2 s2.heap.objs.size G2.objs.size)) [] H' b:=fun hn b hb=>
   ⟨hn b hb,aL (av (fo b hb) hCle),(fun z=>(List.mem_cons.mp (I2.stkSub b z)).elim (f2 b hb).2.1 (f2 b hb).2.2.1),.inl hb,fun x c hl=>(f2 b hb).2.2.2.2.1 x c (S.sub x c hl),fun p hp=>absurd (show p∈([]:List (Addr×Obj)) from hp) (by simp)⟩
  refine Me (fun n s'=>∃ i σ' H',Inv (X.comp N' scope cl fp G2.objs.size s2 H2 (Bc X scope cl use Q2 s2.heap.objs.size G2.objs.size)) [] σ' H' s'/\tn i s'.heap/\(∀ b∈fp,H' b=none)/\W i n σ' H') ?_ m0
   ⟨0,_,_,I3,st3,fun b hb=>by rw [Ak (aL (fo b hb))];exact (f2 b hb).1,w0⟩
  rintro n s4 ⟨i,σ4,H4,I4,st4,fr4,w4⟩
  rcases turn i n σ4 H4 w4 with ⟨stop,qn⟩|⟨go,NN,hNN,step⟩
  ·refine thn (T.done (X.comp N' scope cl fp G2.objs.size s2 H2 (Bc X scope cl use Q2 s2.heap.objs.size G2.objs.size)) rfl rfl rfl hc i [] s4 σ4 H4 _ I4 (stat fr4) st4 stop) fun r s5 ⟨hr,I5⟩=>?_
   subst hr
   obtain⟨m5,hn5,_⟩:=id I5.loc
   have I6:Inv X pins σ H4 s5:=I2.call' (ch:=fp) I5.os I5.base I5.hok I5.bare fun b hb=>⟨(f2 b hb).2.2.2.1,(f2 b hb).2.1,(f2 b hb).2.2.2.2.1,(f2 b hb).2.2.2.2.2⟩
   exact fin _ _ H4 s5 I6 ⟨m5,hn5⟩ (I2.fpOk hCle I5.free) qn
  ·refine thn (T.item (X.comp N' scope cl fp G2.objs.size s2 H2 (Bc X scope cl use Q2 s2.heap.objs.size G2.objs.size)) rfl rfl rfl hc i [] s4 σ4 H4 _ I4 (stat fr4) st4 go) fun r s5 ⟨u,hr,h5⟩=>?_
   subst hr
   refine thn h5 fun _ s6 ⟨x,H6,I6,r6,y6,st6,fr6⟩=>?_
   have I6':=I6.pinned (stat fr6) (T.obj _ _ st6)
   refine thn (hg _ s6 σ4 H6 x u _ I6' r6 (step x H6 y6)) fun _ s7 ⟨σ7,H7,I7,q7⟩=>?_
   have again:∀ {s9:ah} {H9:Hp},Inv (X.comp N' scope cl fp G2.objs.size s2 H2 (Bc X scope cl use Q2 s2.heap.objs.size G2.objs.size)) ([]++Gw fp s6.heap) σ7 H9 s9->NN σ7 H9 ->
     ∃ m,m<n /\ ∃ i σ' H',Inv (X.comp N' scope cl fp G2.objs.size s2 H2 (Bc X scope cl use Q2 s2.heap.objs.size G2.objs.size)) [] σ' H' s9/\tn i s9.heap/\(∀ b∈fp,H' b=none)/\W i m σ' H':=fun {s9 H9} I9 n9=>by
    obtain⟨m',hm,w9⟩:=hNN σ7 H9 n9
    refine⟨m',hm,i+1,σ7,H9,I9.unpinned,T.keep _ _ _ st6 fun b hb o e=>(I9.pin (b,o) (aW _ (aW _ (Dv hb e)))).1,fun b hb=>?_,w9⟩
    obtain⟨o,e,d⟩:=T.obj _ _ st6 b hb
    exact (I9.pin (b,o) (aW _ (aW _ (Dv hb e)))).2.1
   refine thn (ht _ s7 σ7 H7 _ I7 q7) fun b s8 ⟨H8,I8,q8⟩=>?_
   cases b with
   | false=>
    rw [if_neg aj] at q8
    exact again I8 q8
   | true=>
    rw [if_pos rfl] at q8
    refine thn (he _ s8 σ7 H8 _ I8 q8) fun y s9 ⟨v9,H9,I9,r9,ys,hD,hlen,w9⟩=>?_
    refine thn (Lr (X:=X.comp N' scope cl fp G2.objs.size s2 H2 (Bc X scope cl use Q2 s2.heap.objs.size G2.objs.size)) ([]++Gw fp s6.heap) s9 σ7 H9 (.ref s2.heap.objs.size) [v9] (.ref s2.heap.objs.size) [y] (fun _ H'=>H'=upd H9 s2.heap.objs.size (.lst (ys++[v9]))) I9 rfl (.cons r9 .nil)
     ⟨_,ys,v9,rfl,rfl,hD,hlen,rfl⟩) fun _ s10 ⟨_,H10,I10,_,e10⟩=>?_
    subst e10
    exact again I10 w9
 exact codeAny_compStart_list (loop _ rfl) (T.self X.A 0 _ _ _ st3 (loop _ rfl))
theorem Yx {pins:List (Addr×Obj)} {s:ah} {σ:St} {H:Hp} {Q:VK} (hc:X.calm=true) (S:Hr X N' srcs scope cl) (hi:PI X tg iter wi)
  (hb:∀ Q2 fp C D s2 H2,Inv X pins σ H2 s2->(∀ b∈fp,Df X pins H2 b)->s2.heap.objs.size<=C->PG (X.comp N' scope cl fp C s2 H2 (Bc X scope cl none Q2 D C)) tg g/\Vd (X.comp N' scope cl fp C s2 H2 (Bc X scope cl none Q2 D C)) ifs tc/\PE (X.comp N' scope cl fp C s2 H2 (Bc X scope cl none Q2 D C)) elt te)
  (I:Inv X pins σ H s) (h:ah5 srcs wi g tc te σ H Q) (hs:∀ x,dy iter X.env x=pure x) :
  aI (model X.prog X.w) X.A (eval (.ListComp elt [⟨tg,iter,ifs,0⟩] scope pos) X.env) (EP X pins σ Q) X.xe s:=by
 rw [eval_ListComp]
 refine Ld (use:=none) hc S hi (fun fp C D s2 H2=>hb _ fp C D s2 H2) I h (fun D C H' s' I' ns fo q=>?_) hs
 obtain⟨m,hn⟩:=ns
 obtain⟨f0,f1,f2,f3,f4,f5⟩:=fo
 exact⟨m,hn,fun h' sb=>⟨.ref D,H',I'.turned (t':=s'.toks) (fun b o hb e=>(sb.2 b hb).trans e) f0 f1 f3 f4 f5,rfl,q⟩⟩
theorem Yw {i:Nat} {x:Str} {pos' spos:Pos} {pins:List (Addr×Obj)} {s:ah} {σ:St} {H:Hp} {D:Kr} (hc:X.calm=true) (hN:X.N.Nodup) (hx:X.N[i]? = some x) (hl:X.env.scope.names.lookup x=some .local) (S:Hr X N' srcs scope cl) (hi:PI X tg iter wi)
  (hb:∀ us Q2 fp C D s2 H2,Inv X pins σ H2 s2->(∀ b∈fp,Df X pins H2 b)->s2.heap.objs.size<=C->PG (X.comp N' scope cl fp C s2 H2 (Bc X scope cl us Q2 D C)) tg g/\Vd (X.comp N' scope cl fp C s2 H2 (Bc X scope cl us Q2 D C)) ifs tc/\PE (X.comp N' scope cl fp C s2 H2 (Bc X scope cl us Q2 D C)) elt te)
  (I:Inv X pins σ H s) (h:bn2 (ah5 srcs wi g tc te) (Zg i) D σ H)
  (hsw:fX (.ListComp elt [⟨tg,iter,ifs,0⟩] scope pos) (some (.Name x pos')) spos.line X.env=pure true) (hs:∀ x,dy iter X.env x=pure x) :
  aI (model X.prog X.w) X.A (exec (.Assign [.Name x pos'] (.ListComp elt [⟨tg,iter,ifs,0⟩] scope pos) spos) X.env) (SP X pins D) X.xe s:=by
 rw [exec_Assign_Name_used _ _ _ _ hsw]
 refine ag (cZ (ag ?_))
 show aI _ X.A (do let _ <- comprehension (.ListComp elt [⟨tg,iter,ifs,0⟩] scope pos) scope X.env _ (newList []) false (eval iter X.env) (some (i4 (.Name x pos') X.env))) _ _ s
 refine ag (thn (Ld (use:=some (i4 (.Name x pos') X.env)) (Q:=fun v H'=>D.nx (σ.set i (some v)) H') (Q2:=fun _ s'=>SP X pins D .next s') hc S hi (fun fp C D s2 H2=>hb _ _ fp C D s2 H2) I h (fun L C H' s' I' ns fo q=>?_) hs) fun _ s' hq=>am (am hq))
 obtain⟨m,hn⟩:=ns
 obtain⟨f0,f1,f2,f3,f4,f5⟩:=fo
 obtain⟨oC,es,ep,hoC,hd,hr⟩:=id hn
 have I2:Inv X (pins++[(C,oC)]) σ H' s':=I'.pins_of fun p hp=>(List.mem_append.mp hp).elim (fun z=>I'.pin p (aW _ z)) fun z=>by
  have z':p=(C,oC):=by simpa using z
  subst z'
  exact⟨hoC,f0,f1,f2,fun v e=>by rw [hd] at e;cases e⟩
 refine wpAny_assign_Name (Gd (i:=i) (v:=.ref L) I2 hN hx (.inl hl) rfl (fun s2 I3=>?_) (.inr hl))
 have hoC':=(I3.pin (C,oC) (aW _ (aW _ (by simp)))).1
 refine⟨m,⟨oC,es,ep,hoC',hd,hr⟩,fun h' sb=>?_⟩
 exact⟨_,H',(I3.unpinned).turned (t':=s2.toks) (fun b o hb e=>(sb.2 b hb).trans e) f0 f1 f3 f4 f5,q⟩
end
noncomputable def Its (x:Str):It:=⟨fun i _=>i<x.cps.size,fun i H v H'=>H'=H /\ ∃ c,x.cps[i]? = some c/\v=.str ⟨#[c]⟩,fun i _=>i=x.cps.size⟩
theorem ah9 {P:aE} {w:bq} {K:aa} {tg:Expr} (it:Addr) (x:Str) (t:Tok) (ty:String) (hty:ty = "str_ascii_iterator" \/ ty = "str_iterator") :
  Ov P w K tg (Its x) [it] it (fun i h=>h.IsStrIter it ty x t i) where
 mem:=by simp
 obj:=fun i h st b hb=>by
  have e:b=it:=by simpa using hb
  subst e
  obtain⟨o,e,c,d⟩:=st
  exact⟨o,e,fun v z=>by rw [d] at z;cases z⟩
 keep:=fun i h h' st k=>by
  obtain⟨o,e,r⟩:=st
  exact⟨o,k it (by simp) o e,r⟩
 item:=by
  intro X hP hw hK hc i pins s σ H E I hf st hg
  subst hP hw hK
  obtain⟨f0,f1,f2,f3,f4,f5⟩:=hf it (by simp)
  have W:jv X.prog X.w X.A it [it] [it] x.cps.size (SignAt x) (fun i h=>h.IsStrIter it ty x t i):=by
   rcases hty with rfl|rfl
   ·exact Walks.strAscii (I.ok.hd hc) it x t
   ·exact Walks.strWide (I.ok.hd hc) it x t
  refine bB (ae _) (W.item i s _ _ hg st fun v h' tk hv st' kk htk=>?_)
  obtain⟨c,u,hcp,rfl⟩:=hv
  have I1:Inv X pins σ H { s with heap:=h',toks:=tk }:=I.turned (fun b o hb e=>kk b o (by simpa using hb) e) f0 f1 f3 f4 f5
  obtain⟨o,e,cc,d⟩:=id st'
  exact⟨_,rfl,Lg (s:={ s with heap:=h',toks:=tk }) e cc d (by rcases hty with rfl|rfl <;> decide) ⟨.str ⟨#[c]⟩,H,I1,⟨_,rfl⟩,⟨rfl,c,hcp,rfl⟩,st',fun b hb=>(hf b hb).1⟩⟩
 done:=by
  intro X hP hw hK hc i pins s σ H E I hf st hg
  subst hP hw hK
  obtain⟨f0,f1,f2,f3,f4,f5⟩:=hf it (by simp)
  have hg:i=x.cps.size:=hg
  subst hg
  have W:jv X.prog X.w X.A it [it] [it] x.cps.size (SignAt x) (fun i h=>h.IsStrIter it ty x t i):=by
   rcases hty with rfl|rfl
   ·exact Walks.strAscii (I.ok.hd hc) it x t
   ·exact Walks.strWide (I.ok.hd hc) it x t
  exact bB (ae _) (W.done s _ _ st fun h' tk kk htk=>⟨rfl,I.turned (fun b o hb e=>kk b o (by simpa using hb) e) f0 f1 f3 f4 f5⟩)
 self:=by
  intro A i s Q E st h
  rcases hty with rfl|rfl
  ·exact wpAny_pyIter_striter_ascii st h
  ·exact wpAny_pyIter_striter_wide st h
section
variable {X:Cx} {tg:Expr}
end
section
variable {X:Cx} {pins:List (Addr×Obj)} {σ:St} {H:Hp} {s:ah} {h':Heap} {ch:List Addr} {t':Nat}
theorem Inv.turnedN {T:Addr} {o:HO} (I:Inv X pins σ H s) (hf:∀ b∈ch,Df X pins H b) (k:∀ b o,b∉ch->s.heap.get? b=some o->h'.get? b=some o) (hT:s.heap.objs.size<=T) (new:ObjOk X.prog X.w (upd H T o) h' T o) (ht:s.toks<=t':=by first|exact ae _|exact a0 _ _|assumption|omega|(dsimp only;omega)) :
  Inv X pins σ (upd H T o) { s with heap:=h',toks:=t' }:=by
 have tr:∀ b ob,H b=some ob->b∉ch:=fun b ob e hb=>by rw [(hf b hb).1] at e;cases e
 have hn:=I.hok.fresh hT
 have nT:∀ {b o},s.heap.get? b=some o->b≠T:=fun e=>aL (av (aA e) hT)
 refine I.step (g':=s.gens) (d':=s.drawn) (ch:=ch) (fun b hb=>⟨(hf b hb).2.2.2.1,(hf b hb).2.1,(hf b hb).2.2.2.2.1,(hf b hb).2.2.2.2.2⟩) (fun b o _ _ hb e _=>k b o hb e) (fun b o _ _ hb e _=>⟨o.slots,k b o hb e⟩) (fun b o _ e n=>by rw [Ak (nT e)];exact n) (fun b o hb e=>⟨o,k b o hb e⟩)
  (fun b zs e=>by rw [Ak (A6 e hn)];exact e) (fun b o zs e=>by rw [Ak (A6 e hn)];exact e) (fun b ps e=>⟨#[],by rw [Ak (A6 e hn),e];simp⟩) (fun m hm=>?_) (fun b ob e=>?_) I.bare
 ·obtain⟨o,es,ep,ho,r⟩:=hm
  exact⟨o,es,ep,k _ o (fun z=>(hf _ z).2.1 rfl) ho,r⟩
 ·by_cases hb:b=T
  ·subst hb
   rw [Ad] at e
   cases e
   exact new
  ·rw [Ak hb] at e
   refine (I.hok b ob e).stay (fun b' w' hc' q=>k b' w' ?_ q) (fun b' q=>by rw [Ak (A6 q hn)];exact q) fun b' zs q=>by rw [Ak (A6 q hn)];exact q
   rcases hc' with rfl|hc'
   ·exact tr _ _ e
   ·exact tr _ _ hc'
end
section
variable {X:Cx}
end
theorem Wg {bs:List Bool}:(cB bs.length).all (fun i=>bs.getD i true)=bs.all fun b=>b:=by
 rw [df,aR,aR]
 constructor
 ·intro h b hb
  obtain⟨i,hi,e⟩:=List.mem_iff_getElem.mp hb
  have q:=h i (List.mem_range.mpr hi)
  rw [ar,aq hi,e] at q
  exact q
 ·intro h i hi
  have hi:=List.mem_range.mp hi
  rw [ar,aq hi]
  exact h _ (cg hi)
section
variable {X:Cx}
theorem Ys (hc:X.calm=true):Br X (.builtin "all") (fun xs H Q=>∃ (p:Addr) (bs:List Bool),xs=[.ref p]/\SqL X.K H p (bs.map V.bl)/\Q (.bl (bs.all fun b=>b)) H):=by
 intro pins s σ H xs us Q I r h
 obtain⟨p,bs,rfl,hq,q⟩:=h
 obtain⟨u,rfl,ru⟩:=r.one
 cases ru
 obtain⟨its,rv,pl,hz⟩:=I.list hq
 have hlen:=rv.length
 rw [aw] at hlen
 obtain⟨o,n,e,c,hd,ds⟩:=id pl
 have plt:=aA e
 refine bB (ae _) (call_all_walk (wpAny_pyIter_list pl.isList ?_))
 refine⟨s.heap.objs.size,_,_,_,_,_,(fun i=>bs.getD i true),rfl,Walks.list (A:=X.A.in1) (show X.A.in1.handled=none from I.ok.hd hc) s.heap.objs.size p (aL plt) its.toArray,⟨⟨_,aF _ rfl,rfl,rfl⟩,pl.isList.push _⟩,?_,fun h' tk kk htk=>?_⟩
 ·intro i v s' Q' E' hv hq'
  have hv:its[i]? = some v:=by simpa using hv
  have hi:i<bs.length:=by rw [hlen];exact (List.getElem?_eq_some_iff.mp hv).1
  have e1:(bs.map V.bl)[i]? = some (.bl bs[i]):=by simp [hi]
  obtain⟨u',hu',ru'⟩:=rv.get e1
  rw [hv] at hu'
  cases hu'
  cases ru'
  have e2:bs.getD i true=bs[i]:=by simp [ar,hi]
  have hq':Q' (bs.getD i true) s':=hq'
  rw [e2] at hq'
  exact cU hq'
 ·have e3:(cB its.toArray.size).all (fun i=>bs.getD i true)=bs.all fun b=>b:=by
   rw [al,<- hlen]
   exact Wg
  rw [e3]
  refine⟨.bl _,H,I.kept (t':=tk) fun b o' eb=>kk b o' ?_ (af _ eb),rfl,q⟩
  have hb:b≠s.heap.objs.size:=aL (aA eb)
  simpa using hb
theorem Yt:Br X (.builtin "isinstance") (fun xs H Q=>∃ x T t b,xs=[x,.ty T]/\TyOf X.K H x t/\ce X.K t (.type T)=some b/\Q (.bl b) H):=by
 intro pins s σ H xs us Q I r h
 obtain⟨x,T,t,b,rfl,ty,e,q⟩:=h
 obtain⟨u,v,rfl,ru,rv⟩:=r.two
 cases rv
 exact bB (ae _) (Lm I ru ty e fun tk htk=>⟨.bl b,H,I.tok tk htk,rfl,q⟩)
theorem V8:OpR X (bY .LtE) (fun x y H Q=>∃ i j,x=.str i/\y=.str j/\Q (.bl (!decide (j.cps.toList<i.cps.toList))) H):=by
 intro pins s σ H x y v u Q I rx ry h
 obtain⟨i,j,rfl,rfl,q⟩:=h
 obtain⟨t,rfl⟩:=rx
 obtain⟨t',rfl⟩:=ry
 exact PySem.P.le_str ⟨.bl _,H,I,rfl,q⟩
end
noncomputable def Ml (xs ys:List V):Bool:=decide (xs.length=ys.length)&&(cB xs.length).all fun j=>eqV (xs.getD j .non) (ys.getD j .non)
theorem Pd {xs ys:List V} (h:xs.length≠ys.length):Ml xs ys=false:=by
 unfold Ml
 rw [decide_eq_false h]
 rfl
noncomputable def be2 (K:aa) (neg:Bool):R2:=fun x y H Q=>∃ a b xs ys,x=.ref a/\y=.ref b/\SqL K H a xs/\SqL K H b ys/\xs.all Bd=true/\ys.all Bd=true/\Q (.bl (if neg then !Ml xs ys else Ml xs ys)) H
section
variable {X:Cx}
theorem Io {A:aT} {s:ah} {xs ys:List V} {us ws:List Value} (rx:Vals xs us) (ry:Vals ys ws) (fx:xs.all Bd=true) (fy:ys.all Bd=true) (j:Nat) (h1:j<us.toArray.size) (h2:j<ws.toArray.size) :
  bc A s us.toArray[j] ws.toArray[j] (eqV (xs.getD j .non) (ys.getD j .non)):=by
 have e1:=rx.length
 have e2:=ry.length
 have h1':j<us.length:=by simpa using h1
 have h2':j<ws.length:=by simpa using h2
 have a1:xs[j]? = some (xs[j]'(by omega)):=by simp
 have a2:ys[j]? = some (ys[j]'(by omega)):=by simp
 obtain⟨u,hu,ru⟩:=rx.get a1
 obtain⟨v,hv,rv⟩:=ry.get a2
 have b1:us.toArray[j]=u:=by
  have:us[j]? = some us[j]:=by simp
  rw [this] at hu
  simpa using aM hu
 have b2:ws.toArray[j]=v:=by
  have:ws[j]? = some ws[j]:=by simp
  rw [this] at hv
  simpa using aM hv
 have c1:xs.getD j .non=xs[j]'(by omega):=by rw [ar,a1];rfl
 have c2:ys.getD j .non=ys[j]'(by omega):=by rw [ar,a2];rfl
 rw [b1,b2,c1,c2]
 exact Mj ru rv (List.all_eq_true.mp fx _ (cg _)) (List.all_eq_true.mp fy _ (cg _))
theorem a89 (hu:X.A.units<cLine):OpR X (bY .Eq) (be2 X.K false):=by
 intro pins s σ H x y v u Q I rx ry h
 obtain⟨a,b,xs,ys,rfl,rfl,qa,qb,fx,fy,q⟩:=h
 cases rx
 cases ry
 obtain⟨its,r,pl,hz⟩:=I.list qa
 obtain⟨its2,r2,pl2,hz2⟩:=I.list qb
 have e1:=r.length
 have e2:=r2.length
 by_cases hl:xs.length=ys.length
 ·refine SeqAt.eq_listAt (e:=fun j=>eqV (xs.getD j .non) (ys.getD j .non)) pl.isList pl2.isList (by simp;omega) hu (fun j h1 h2=>Io r r2 fx fy j h1 h2) ⟨.bl _,H,I,rfl,?_⟩
  have e:Ml xs ys=(cB its.toArray.size).all fun j=>eqV (xs.getD j .non) (ys.getD j .non):=by
   unfold Ml
   rw [decide_eq_true hl,al,<- e1]
   rfl
  rw [<- e]
  exact q
 ·refine SeqAt.eq_list_lengthsAt pl.isList pl2.isList (by simp;omega) hu ⟨.bl _,H,I,rfl,?_⟩
  rw [Pd hl] at q
  exact q
theorem a93 (hu:X.A.units<cLine):OpR X (bY .NotEq) (be2 X.K true):=by
 intro pins s σ H x y v u Q I rx ry h
 obtain⟨a,b,xs,ys,rfl,rfl,qa,qb,fx,fy,q⟩:=h
 cases rx
 cases ry
 obtain⟨its,r,pl,hz⟩:=I.list qa
 obtain⟨its2,r2,pl2,hz2⟩:=I.list qb
 have e1:=r.length
 have e2:=r2.length
 by_cases hl:xs.length=ys.length
 ·refine SeqAt.RcNeAt.lists (e:=fun j=>eqV (xs.getD j .non) (ys.getD j .non)) pl.isList pl2.isList (by simp;omega) hu (fun j h1 h2=>Io r r2 fx fy j h1 h2) _ _ _ _ ⟨.bl _,H,I,rfl,?_⟩
  have e:Ml xs ys=(cB its.toArray.size).all fun j=>eqV (xs.getD j .non) (ys.getD j .non):=by
   unfold Ml
   rw [decide_eq_true hl,al,<- e1]
   rfl
  rw [<- e]
  exact q
 ·refine SeqAt.RcNeAt.lists_lengths pl.isList pl2.isList (by simp;omega) hu _ _ _ _ ⟨.bl _,H,I,rfl,?_⟩
  rw [Pd hl] at q
  exact q
end
theorem Z4 {cl:List (Str×Addr)} {x:Str} (h:x∈cl.map (·.1)):∃ c,cl.lookup x=some c:=by
 induction cl with
 | nil=>simp at h
 | cons p r ih=>
  obtain⟨n,a⟩:=p
  rw [List.lookup_cons]
  cases e:x==n with
  | true=>exact⟨a,rfl⟩
  | false=>
   refine ih ?_
   rcases List.mem_cons.mp h with q|q
   ·rw [show x=n from q] at e;simp at e
   ·exact q
section
variable {X:Cx} {e:Expr} {te:TE} {lo hi:Option Expr} {tl th:TO} {pos p2:Pos}
end
end L2
set_option maxHeartbeats 4000000
namespace L2
open PySem PySem.Spec PyProof.Rows
section
variable {κ:Type} [DecidableEq κ]
noncomputable def Ko (kvs:List (κ×V)) (k:κ):Option V:=(kvs.find? fun kv=>decide (kv.1=k)).map (·.2)
noncomputable def B8 (kvs:List (κ×V)) (k:κ) (v:V):List (κ×V):=
 if (kvs.any fun kv=>decide (kv.1=k))=true then kvs.map (fun kv=>if kv.1=k then (kv.1,v) else kv) else kvs++[(k,v)]
theorem Kq {p:κ×V} {r:List (κ×V)} {k:κ} (e:p.1=k):Ko (p::r) k=some p.2:=by simp [Ko,dj,e]
theorem Kp {p:κ×V} {r:List (κ×V)} {k:κ} (e:¬ p.1=k):Ko (p::r) k=Ko r k:=by simp [Ko,dj,e]
theorem Qa (k:κ):∀ kvs:List (κ×V),(kvs.any fun kv=>decide (kv.1=k))=(Ko kvs k).isSome
 | []=>rfl
 | p::r=>by
  rw [dw]
  by_cases e:p.1=k
  ·simp only [Kq e,decide_eq_true e,Bool.true_or,Option.isSome_some]
  ·rw [Kp e,decide_eq_false e,Bool.false_or];exact Qa k r
theorem Em (kvs:List (κ×V)) (k:κ) (v:V):(B8 kvs k v).length<=kvs.length+1:=by
 unfold B8
 split
 ·rw [aw];omega
 ·rw [aH,aS,gR];omega
theorem RelO.isSome_eq {o:Option V} {u:Option Value} (r:RelO o u):o.isSome=u.isSome:=by
 cases o with
 | none=>cases u with
  | none=>rfl
  | some _=>exact (show False from r).elim
 | some _=>cases u with
  | none=>exact (show False from r).elim
  | some _=>rfl
theorem RelO.getD {o:Option V} {u:Option Value} {d:V} {d':Value} (r:RelO o u) (rd:RelV d d'):RelV (o.getD d) (u.getD d'):=by
 cases o with
 | none=>cases u with
  | none=>exact rd
  | some _=>exact (show False from r).elim
 | some _=>cases u with
  | none=>exact (show False from r).elim
  | some _=>exact r
theorem KV.val {kvs:List (κ×V)} {vs:List (κ×Value)} (r:KV kvs vs) (k:κ):RelO (Ko kvs k) (iX vs k):=by
 unfold KV at r
 induction r with
 | nil=>exact aX
 | @cons p q ps qs h t ih=>
  obtain⟨h1,h2⟩:=h
  by_cases e:p.1=k
  ·have e':q.1=k:=h1.symm.trans e
   have b:iX (q::qs) k=some q.2:=by simp [iX,dj,e']
   rw [Kq e,b];exact h2
  ·have e':¬ q.1=k:=fun z=>e (h1.trans z)
   have b:iX (q::qs) k=iX qs k:=by simp [iX,dj,e']
   rw [Kp e,b];exact ih
theorem KV.any {kvs:List (κ×V)} {vs:List (κ×Value)} (r:KV kvs vs) (k:κ):(kvs.any fun kv=>decide (kv.1=k))=vs.any fun kv=>decide (kv.1=k):=by
 unfold KV at r
 induction r with
 | nil=>rfl
 | cons h t ih=>rw [dw,dw,ih,h.1]
theorem KV.repl {kvs:List (κ×V)} {vs:List (κ×Value)} (r:KV kvs vs) (k:κ) {y:V} {u:Value} (ry:RelV y u) :
  KV (kvs.map fun kv=>if kv.1=k then (kv.1,y) else kv) (vs.map fun kv=>if kv.1=k then (kv.1,u) else kv):=by
 unfold KV at r ⊢
 induction r with
 | nil=>exact .nil
 | @cons p q ps qs h t ih=>
  rw [ba,ba]
  refine .cons ?_ ih
  obtain⟨h1,h2⟩:=h
  by_cases e:p.1=k
  ·rw [if_pos e,if_pos (h1.symm.trans e)];exact⟨h1,ry⟩
  ·rw [if_neg e,if_neg (fun z=>e (h1.trans z))];exact⟨h1,h2⟩
theorem KV.put {kvs:List (κ×V)} {vs:List (κ×Value)} (r:KV kvs vs) (k:κ) {y:V} {u:Value} (ry:RelV y u):KV (B8 kvs k y) (stored vs k u):=by
 unfold B8 stored
 rw [r.any k]
 by_cases e:(vs.any fun kv=>decide (kv.1=k))=true
 ·rw [if_pos e,if_pos e];exact r.repl k ry
 ·rw [if_neg e,if_neg e];exact Paired.snoc r ⟨rfl,ry⟩
theorem KV.keys {kvs:List (κ×V)} {vs:List (κ×Value)} (r:KV kvs vs):kvs.map (·.1)=vs.map (·.1):=by
 unfold KV at r
 induction r with
 | nil=>rfl
 | cons h t ih=>rw [ba,ba,ih,h.1]
theorem KV.length {kvs:List (κ×V)} {vs:List (κ×Value)} (r:KV kvs vs):kvs.length=vs.length:=fZ r
end
theorem G5 {P:aE} {w:bq} {k:Key} {u:Value} (r:RelV (kV k) u):(Ay P w).is k u=true:=by
 cases k with
 | inl i=>obtain⟨t,e⟩:=(show ∃ t,u=iE i t from r);subst e;exact Pk P w i t
 | inr x=>obtain⟨t,e⟩:=(show ∃ t,u=fj x t from r);subst e;exact Pl P w x t
theorem Ln {P:aE} {w:bq}:∀ {ks:List Key} {us:List Value},Vals (ks.map kV) us->ItemsAre (Ay P w) ks us
 | [],_,r=>by rw [fz] at r;cases r;exact .nil
 | k::ks,_,r=>by
  rw [ba] at r
  cases r with
  | cons h t=>exact .cons (G5 h) (Ln t)
noncomputable abbrev KT (H:Hp):List (List Key×V)->List (List Key×Addr×Value)->Prop:=eU fun p q=>p.1=q.1/\H q.2.1=some (.tup (p.1.map kV))/\RelV p.2 q.2.2
theorem KT.val {H:Hp} {kvs:List (List Key×V)} {xs:List (List Key×Addr×Value)} (r:KT H kvs xs) (k:List Key):RelO (Ko kvs k) ((jw xs k).map (·.2)):=by
 induction r with
 | nil=>exact aX
 | @cons p q ps qs h t ih=>
  obtain⟨h1,_,h2⟩:=h
  by_cases e:p.1=k
  ·have e':q.1=k:=h1.symm.trans e
   have b:jw (q::qs) k=some q.2:=by simp [jw,dj,e']
   rw [Kq e,b];exact h2
  ·have e':¬ q.1=k:=fun z=>e (h1.trans z)
   have b:jw (q::qs) k=jw qs k:=by simp [jw,dj,e']
   rw [Kp e,b];exact ih
theorem KT.repl {H:Hp} {kvs:List (List Key×V)} {xs:List (List Key×Addr×Value)} (r:KT H kvs xs) (k:List Key) {y:V} {u:Value} (ry:RelV y u) :
  KT H (kvs.map fun kv=>if kv.1=k then (kv.1,y) else kv) (xs.map (putAt k u)):=by
 induction r with
 | nil=>exact .nil
 | @cons p q ps qs h t ih=>
  rw [ba,ba]
  refine .cons ?_ ih
  obtain⟨h1,h2,h3⟩:=h
  unfold putAt
  by_cases e:p.1=k
  ·rw [if_pos e,if_pos (h1.symm.trans e)];exact⟨h1,h2,ry⟩
  ·rw [if_neg e,if_neg (fun z=>e (h1.trans z))];exact⟨h1,h2,h3⟩
theorem KT.put {H:Hp} {kvs:List (List Key×V)} {xs:List (List Key×Addr×Value)} (r:KT H kvs xs) (k:List Key) {b:Addr} {y:V} {u:Value} (hb:H b=some (.tup (k.map kV))) (ry:RelV y u) :
  KT H (B8 kvs k y) (storedH xs k b u):=by
 have e:(kvs.any fun kv=>decide (kv.1=k))=(jw xs k).isSome:=by
  rw [Qa,(r.val k).isSome_eq,fR]
 unfold B8 storedH
 rw [e]
 by_cases q:(jw xs k).isSome=true
 ·rw [if_pos q,if_pos q];exact r.repl k ry
 ·rw [if_neg q,if_neg q];exact Paired.snoc r ⟨rfl,hb,ry⟩
theorem KT.keeps {H H':Hp} {kvs:List (List Key×V)} {xs:List (List Key×Addr×Value)} (r:KT H kvs xs) (ht:∀ b ys,H b=some (.tup ys)->H' b=some (.tup ys)):KT H' kvs xs:=
 Paired.mapP r fun _ _ z=>⟨z.1,ht _ _ z.2.1,z.2.2⟩
section
variable {P:aE} {w:bq} {H:Hp} {h:Heap} {a:Addr}
theorem au0 {u:HO} (ok:HOk P w H h) (e:Rd H a u):ObjOk P w H h a u:=e.ok ok
theorem E9 {kvs:List (Key×V)} (ok:HOk P w H h) (e:Rd H a (.dK kvs)):kvs.length<=sizeLine/\(a==cS)=false /\ ∃ vs,KV kvs vs/\h.DictOf (Ay P w) a vs:=
 show ObjOk P w H h a (.dK kvs) from au0 ok e
theorem aq3 {kvs:List (Key×V)} (ok:HOk P w H h) (e:H a=some (.dK kvs)):kvs.length<=sizeLine/\(a==cS)=false /\ ∃ vs,KV kvs vs/\h.DictOf (Ay P w) a vs:=E9 ok (.inl e)
theorem Fe {ks:List Key} (ok:HOk P w H h) (e:H a=some (.tup (ks.map kV))):(fY (Ay P w)).is h ks a:=by
 obtain⟨_,its,r,o,h1,h2,n,h3⟩:=(show ObjOk P w H h a (.tup (ks.map kV)) from ok a _ e)
 exact⟨o,its.toArray,n,h1,h2,h3,by simpa using Ln r⟩
theorem Hz {kvs:List (List Key×V)} (ok:HOk P w H h) (e:Rd H a (.dT kvs)):kvs.length<=sizeLine/\(a==cS)=false /\
  ∃ xs,KT H kvs xs/\h.DictOfH (fY (Ay P w)) a xs:=by
 obtain⟨z,y,xs,r,o,es,ep,h1,h2,h3,h4,h5⟩:=(show ObjOk P w H h a (.dT kvs) from au0 ok e)
 refine⟨z,y,xs,r,o,es,ep,h1,h2,h3,h4,fun x hx=>?_,h5⟩
 have all:∀ {l:List (List Key×V)} {m:List (List Key×Addr×Value)},KT H l m -> ∀ x∈m,(fY (Ay P w)).is h x.1 x.2.1:=by
  intro l m q
  induction q with
  | nil=>intro x hx;exact nomatch hx
  | @cons p q ps qs hq t ih=>
   intro x hx
   rcases List.mem_cons.mp hx with e|hx
   ·subst e
    exact Fe ok (by rw [<- hq.1];exact hq.2.1)
   ·exact ih x hx
 exact all r x hx
theorem bt6 {kvs:List (List Key×V)} (ok:HOk P w H h) (e:H a=some (.dT kvs)):kvs.length<=sizeLine/\(a==cS)=false /\
  ∃ xs,KT H kvs xs/\h.DictOfH (fY (Ay P w)) a xs:=Hz ok (.inl e)
end
noncomputable def E5 (H:Hp) (a:Addr) (y:V) (r:Option V):Prop:=
 (∃ kvs k,Rd H a (.dK kvs)/\y=kV k/\r=Ko kvs k) \/ ∃ kvs k b,Rd H a (.dT kvs)/\y=.ref b/\H b=some (.tup (k.map kV))/\r=Ko kvs k
noncomputable def DPut (H:Hp) (a:Addr) (y v:V) (H':Hp):Prop:=
 (∃ kvs k,H a=some (.dK kvs)/\y=kV k/\kvs.length<sizeLine/\H'=upd H a (.dK (B8 kvs k v))) \/
 ∃ kvs k b,H a=some (.dT kvs)/\y=.ref b/\H b=some (.tup (k.map kV))/\kvs.length<sizeLine/\H'=upd H a (.dT (B8 kvs k v))
theorem DPut.k {H:Hp} {a:Addr} {kvs:List (Key×V)} {k:Key} {v:V} (e:H a=some (.dK kvs)) (hl:kvs.length<sizeLine):DPut H a (kV k) v (upd H a (.dK (B8 kvs k v))):=.inl ⟨kvs,k,e,rfl,hl,rfl⟩
section
variable {X:Cx} {pins:List (Addr×Obj)} {σ:St} {H:Hp} {s:ah} {a:Addr} {y v:V} {u r:Value} {o:Option V} {A:aT} {E:Value->ah->Prop}
theorem Inv.big (I:Inv X pins σ H s):cS<s.heap.objs.size:=by
 have h:aB<s.heap.objs.size:=(I.mod.glob.keeps I.bk).lt
 exact Nat.lt_trans (by decide) h
theorem Vo {Q:Value->ah->Prop} (hu:A.units+1<cLine) (I:Inv X pins σ H s) (g:E5 H a y (some v)) (ry:RelV y u) (h:∀ w' s',Inv X pins σ H s'->RelV v w'->Q w' s') :
  aI (model X.prog X.w) A (im (.ref a) u) Q E s:=by
 rcases g with ⟨kvs,k,e,ey,l⟩|⟨kvs,k,b,e,ey,eb,l⟩
 ·subst ey
  obtain⟨z,hd,vs,rel,dd⟩:=E9 I.hok e
  obtain⟨w',hw,rw'⟩:=RelO.some_of (v:=v) (o:=iX vs k) (by rw [l];exact rel.val k)
  exact wpAny_getItem_of (G5 ry) dd.mapOf hw (h w' _ (I.tok _) rw')
 ·subst ey
  cases (show u=aC b from ry)
  obtain⟨z,hd,xs,rel,dd⟩:=Hz I.hok e
  obtain⟨w',hw,rw'⟩:=RelO.some_of (v:=v) (o:=(jw xs k).map (·.2)) (by rw [l];exact rel.val k)
  obtain⟨p,hp,hp2⟩:=Option.map_eq_some_iff.mp hw
  refine wpAny_getItem_heap (cG hu) (Fe I.hok eb) dd hp ?_
  rw [hp2]
  exact h w' _ (I.tok _) rw'
theorem cd5 {Q:Value->ah->Prop} (hu:A.units+1<cLine) (I:Inv X pins σ H s) (g:E5 H a y o) (ry:RelV y u) (h:∀ s',Inv X pins σ H s'->Q (.bool o.isSome) s') :
  aI (model X.prog X.w) A (bY .In u (.ref a)) Q E s:=by
 rcases g with ⟨kvs,k,e,ey,l⟩|⟨kvs,k,b,e,ey,eb,l⟩
 ·subst ey
  obtain⟨z,hd,vs,rel,dd⟩:=E9 I.hok e
  refine wpAny_in_of (G5 ry) hd dd.mapOf ?_
  rw [<- (rel.val k).isSome_eq,<- l]
  exact h _ (I.tok _)
 ·subst ey
  cases (show u=aC b from ry)
  obtain⟨z,hd,xs,rel,dd⟩:=Hz I.hok e
  refine wpAny_in_heap (cG hu) (Fe I.hok eb) hd dd ?_
  have q:=(rel.val k).isSome_eq
  rw [fR] at q
  rw [<- q,<- l]
  exact h _ (I.tok _)
theorem aj6 {Q:Value->ah->Prop} (hu:A.units+1<cLine) (I:Inv X pins σ H s) (g:E5 H a y o) (ry:RelV y u) (h:∀ s',Inv X pins σ H s'->Q (.bool (!o.isSome)) s') :
  aI (model X.prog X.w) A (bY .NotIn u (.ref a)) Q E s:=by
 rcases g with ⟨kvs,k,e,ey,l⟩|⟨kvs,k,b,e,ey,eb,l⟩
 ·subst ey
  obtain⟨z,hd,vs,rel,dd⟩:=E9 I.hok e
  refine wpAny_notIn_of (G5 ry) hd dd.mapOf ?_
  rw [<- (rel.val k).isSome_eq,<- l]
  exact h _ (I.tok _)
 ·subst ey
  cases (show u=aC b from ry)
  obtain⟨z,hd,xs,rel,dd⟩:=Hz I.hok e
  refine wpAny_notIn_heap (cG hu) (Fe I.hok eb) hd dd ?_
  have q:=(rel.val k).isSome_eq
  rw [fR] at q
  rw [<- q,<- l]
  exact h _ (I.tok _)
theorem Mg {h':Heap} {t':Nat} {ob:HO} (I:Inv X pins σ H s) (mu:Mut (H a)) (hs:cC a s.heap h') (he:∃ q,h'.get? a=some q) (new:ObjOk X.prog X.w (upd H a ob) h' a ob) (ht:s.toks<=t':=by first|exact ae _|exact a0 _ _|assumption|omega|(dsimp only;omega)) :
  Inv X pins σ (upd H a ob) { s with heap:=h',toks:=t' }:=
 I.write (x:=a) (e:=a) mu (.inl rfl) (fun b q hb z=>(hs.2 b hb).trans z) he new
theorem Y4 {P:aE} {w:bq} {H':Hp} {h':Heap} {kvs:List (Key×V)} {vs:List (Key×Value)} (z:kvs.length<=sizeLine) (hd:(a==cS)=false) (rel:KV kvs vs) (dd:h'.DictOf (Ay P w) a vs) :
  ObjOk P w H' h' a (.dK kvs):=⟨z,hd,vs,rel,dd⟩
theorem Vp {H':Hp} {Q:Unit->ah->Prop} (hu:A.units+1<cLine) (I:Inv X pins σ H s) (g:DPut H a y v H') (ry:RelV y u) (rv:RelV v r) (h:∀ s',Inv X pins σ H' s'->Q () s') :
  aI (model X.prog X.w) A (setItem (.ref a) u r) Q E s:=by
 rcases g with ⟨kvs,k,e,ey,l,eH⟩|⟨kvs,k,b,e,ey,eb,l,eH⟩
 ·subst ey eH
  obtain⟨z,hd,vs,rel,dd⟩:=aq3 I.hok e
  have hz:vs.length<=sizeLine:=by rw [<- rel.length];exact z
  have hl:(B8 kvs k v).length<=sizeLine:=by have:=Em kvs k v;omega
  refine wpAny_setItem_pairs (hsz:=hz) (G5 ry) dd fun h' dd' hs=>h _ ?_
  have he:∃ q,h'.get? a=some q:=let ⟨q,_,_,hq,_⟩:=dd';⟨q,hq⟩
  exact Mg I (by rw [e];exact aX) hs he (Y4 hl hd (rel.put k rv) dd')
 ·subst ey eH
  cases (show u=aC b from ry)
  obtain⟨z,hd,xs,rel,dd⟩:=bt6 I.hok e
  have hz:xs.length<=sizeLine:=by rw [<- fZ rel];exact z
  have hl:(B8 kvs k v).length<=sizeLine:=by have:=Em kvs k v;omega
  refine wpAny_setItem_heap (hsz:=hz) (cG hu) (Fe I.hok eb) dd fun h' dd' hs=>h _ ?_
  obtain⟨q,es,ep,hq,h2,h3,h4,_,h5⟩:=dd'
  refine Mg I (by rw [e];exact aX) hs ⟨q,hq⟩ ⟨hl,hd,_,(rel.put k eb rv).keeps fun c ys ec=>?_,q,es,ep,hq,h2,h3,h4,h5⟩
  rw [Ak (bv1 ec e (fun z=>nomatch z))]
  exact ec
end
section
variable {X:Cx} {pins:List (Addr×Obj)} {σ:St} {H:Hp} {s:ah} {a:Addr} {kvs:List (Key×V)} {k:Key} {u:Value} {A:aT} {E:Value->ah->Prop}
theorem bt5 {Q:Value->ah->Prop} (I:Inv X pins σ H s) (e:Rd H a (.dK kvs)) (h:∀ t s',Inv X pins σ H s'->Q (.int kvs.length t) s'):aI (model X.prog X.w) A (call (.builtin "len") [.ref a]) Q E s:=by
 obtain⟨z,hd,vs,rel,dd⟩:=E9 I.hok e
 refine call_len_dict hd dd (by rw [<- rel.length];rw [bD] at z;omega) ?_
 rw [<- rel.length]
 exact h _ _ (I.tok _)
end
theorem Pa {X:Cx} {pins:List (Addr×Obj)} {σ:St} {H:Hp} {s:ah} {a:Addr} {y:V} {o:Option V} (I:Inv X pins σ H s) (g:E5 H a y o):s.TypeIs (.ref a) "dict" := by
 rcases g with ⟨kvs,k,e,_,_⟩|⟨kvs,k,b,e,_,_,_⟩
 ·obtain⟨_,_,vs,_,dd⟩:=E9 I.hok e
  exact dd.typeIs
 ·obtain⟨_,_,xs,_,dd⟩:=Hz I.hok e
  exact dd.typeIs
section
variable {X:Cx} {o i e value:Expr} {pos pos' tpos:Pos} {td ty tv:TE}
end
theorem Pb {P:aE} {w:bq} {H:Hp} (h:Heap) (hb:cS<h.objs.size):ObjOk P w H (h.push { cls:=.type "dict", data:=.dict #[] }) h.objs.size (.dK []):=
 ⟨bT _,beq_eq_false_iff_ne.mpr (cK (aL hb)),[],.nil,Heap.DictOf.new h⟩
theorem Y5 {P:aE} {w:bq} {H:Hp} (h:Heap) (hb:cS<h.objs.size):ObjOk P w H (h.push { cls:=.type "dict", data:=.dict #[] }) h.objs.size (.dT []):=
 ⟨bT _,beq_eq_false_iff_ne.mpr (cK (aL hb)),[],.nil,_,#[],0,aF _ rfl,⟨rfl,rfl,rfl⟩,rfl,rfl,List.nodup_nil⟩
section
variable {X:Cx} {pos:Pos}
end
noncomputable def Nk:List (TE×TE)->St->Hp->(List (V×V)->Hp->Prop)->Prop
 | [],_,H,Q=>Q [] H
 | (tk,tv)::r,σ,H,Q=>tk σ H fun x H1=>tv σ H1 fun y H2=>Nk r σ H2 fun ps H3=>Q ((x,y)::ps) H3
noncomputable abbrev VV:List (V×V)->List (Value×Value)->Prop:=eU fun p q=>RelV p.1 q.1/\RelV p.2 q.2
noncomputable def PPs (X:Cx) (pos:Pos) (keys:List (Option Expr)) (values:List Expr) (trs:List (TE×TE)):Prop:=
 ∀ (pins:List (Addr×Obj)) (s:ah) (σ:St) (H:Hp) (Q:List (V×V)->Hp->Prop),Inv X pins σ H s->Nk trs σ H Q ->
  aI (model X.prog X.w) X.A (evalPairs (pairTrees keys values X.env pos)) (fun vs s'=>∃ ps H',Inv X pins σ H' s'/\VV ps vs/\Q ps H') X.xe s
theorem am6 {X:Cx} {pos:Pos}:PPs X pos [] [] []:=fun pins s σ H Q I h=>pairTrees_nil_walk ⟨[],H,I,.nil,h⟩
theorem ac1 {X:Cx} {pos:Pos} {k v:Expr} {ks:List (Option Expr)} {vs:List Expr} {tk tv:TE} {trs:List (TE×TE)} (hk:PE X k tk) (hv:PE X v tv) (hr:PPs X pos ks vs trs) :
  PPs X pos (some k::ks) (v::vs) ((tk,tv)::trs):=fun pins s σ H Q I h=>
 pairTrees_cons_walk (thn (hk pins s σ H _ I h) fun u s1 ⟨x,H1,I1,rx,q1⟩=>thn (hv pins s1 σ H1 _ I1 q1) fun w2 s2 ⟨y,H2,I2,ry,q2⟩=>
  thn (hr pins s2 σ H2 _ I2 q2) fun ws s3 ⟨ps,H3,I3,rel,q3⟩=>⟨(x,y)::ps,H3,I3,.cons ⟨rx,ry⟩ rel,q3⟩)
noncomputable def Dd (kvs more:List (Key×V)):List (Key×V):=more.foldl (fun acc kv=>B8 acc kv.1 kv.2) kvs
theorem KV.merge:∀ {more:List (Key×V)} {rs:List (Key×Value)} {kvs:List (Key×V)} {vs:List (Key×Value)},KV more rs->KV kvs vs->KV (Dd kvs more) (merged vs rs):=by
 intro more rs kvs vs r
 unfold KV at r
 induction r generalizing kvs vs with
 | nil=>intro q;exact q
 | @cons p q ps qs h t ih=>
  intro r0
  have e:KV (B8 kvs p.1 p.2) (stored vs q.1 q.2):=by
   have:=r0.put p.1 h.2
   rw [<- h.1];exact this
  exact ih e
theorem Fa:∀ (more kvs:List (Key×V)),(Dd kvs more).length<=kvs.length+more.length
 | [],kvs=>by show kvs.length<=kvs.length+0;omega
 | p::r,kvs=>by
  have h1:=Fa r (B8 kvs p.1 p.2)
  have h2:=Em kvs p.1 p.2
  show (Dd (B8 kvs p.1 p.2) r).length<=_
  rw [aS];omega
theorem Hv {P:aE} {w:bq}:∀ {kvs:List (Key×V)} {ws:List (Value×Value)},VV (kvs.map fun kv=>(kV kv.1,kv.2)) ws -> ∃ rs,Carries (Ay P w) ws rs/\KV kvs rs
 | [],_,r=>by rw [fz] at r;cases r;exact⟨[],aX,.nil⟩
 | p::kvs,_,r=>by
  rw [ba] at r
  cases r with
  | @cons a b as bs h t=>
   obtain⟨rs,c,q⟩:=Hv (P:=P) (w:=w) t
   obtain⟨b1,b2⟩:=b
   exact⟨(p.1,b2)::rs,⟨G5 h.1,rfl,c⟩,.cons ⟨rfl,h.2⟩ q⟩
noncomputable def b59 (trs:List (TE×TE)):TE:=fun σ H Q=>∀ p,H p=none->Nk trs σ (upd H p (.dK [])) fun ps H2=>H2 p=some (.dK []) /\ ∃ kvs:List (Key×V),ps=kvs.map (fun kv=>(kV kv.1,kv.2))/\kvs.length<=15/\Q (.ref p) (upd H2 p (.dK (Dd [] kvs)))
theorem am2 {X:Cx} {pos:Pos} {keys:List (Option Expr)} {values:List Expr} {trs:List (TE×TE)} (h:PPs X pos keys values trs) (hall:keys.all (·.isSome)=true) (hl:keys.length=values.length) (h0:keys≠[])
  (h15:keys.length<=15):PE X (.Dict keys values pos) (b59 trs):=by
 intro pins s σ H Q I q
 have hn:=I.hok.fresh (ae s.heap.objs.size)
 have I1:=I.laid (a:=s.heap.objs.size) (o:=.dK []) (h':=s.heap.push { cls:=.type "dict", data:=.dict #[] }) (t':=s.toks) (fun _ _ q=>af _ q) (ae _) (Pb s.heap I.big)
 refine wpAny_Dict_walk (knd:=Ay X.prog X.w) hall hl h0 h15 (thn (h pins _ σ _ _ I1 (q _ hn)) fun ws s2 ⟨ps,H2,I2,rel,e,kvs,ep,lk,q2⟩=>?_)
 subst ep
 obtain⟨rs,c,rk⟩:=Hv (P:=X.prog) (w:=X.w) rel
 obtain⟨z,hd,vs0,r0,dd⟩:=aq3 I2.hok e
 cases r0
 refine⟨rs,c,dd,fun h' dd' hs=>⟨.ref s.heap.objs.size,_,?_,rfl,q2⟩⟩
 have hz:(Dd [] kvs).length<=sizeLine:=by
  have h1:=Fa kvs []
  rw [gR] at h1
  rw [bD];omega
 have he:∃ q,h'.get? s.heap.objs.size=some q:=let ⟨q,_,_,hq,_⟩:=dd';⟨q,hq⟩
 exact Mg I2 (by rw [e];exact aX) hs he (Y4 hz hd (rk.merge .nil) dd')
section
variable {X:Cx} {pins:List (Addr×Obj)} {σ:St} {H:Hp} {s:ah} {a:Addr} {y d:V} {u r:Value} {o:Option V} {A:aT} {E:Value->ah->Prop}
theorem a10 {Q:Value->ah->Prop} (hu:A.units+1<cLine) (I:Inv X pins σ H s) (g:E5 H a y o) (ry:RelV y u) (h:∀ w' s',Inv X pins σ H s'->RelV (o.getD .non) w'->Q w' s') :
  aI (model X.prog X.w) A (call (.builtin "dict.get") [.ref a,u]) Q E s:=by
 rcases g with ⟨kvs,k,e,ey,l⟩|⟨kvs,k,b,e,ey,eb,l⟩
 ·subst ey
  obtain⟨z,hd,vs,rel,dd⟩:=E9 I.hok e
  refine fB cF dd.typeIs c4 (f7 _ _) (meets_dict_get (Ay X.prog X.w) a (G5 ry) hd) ⟨_,dd.mapOf,h _ _ (I.tok _) ?_⟩
  rw [l]
  exact (rel.val k).getD rfl
 ·subst ey
  cases (show u=aC b from ry)
  obtain⟨z,hd,xs,rel,dd⟩:=Hz I.hok e
  refine fB cF dd.typeIs c4 (f7 _ _) (meetsH_dict_get (fY (Ay X.prog X.w)) a b hd) ⟨cG hu,k,xs,Fe I.hok eb,dd,h _ _ (I.tok _) ?_⟩
  rw [l]
  exact (rel.val k).getD rfl
theorem a11 {Q:Value->ah->Prop} (hu:A.units+1<cLine) (I:Inv X pins σ H s) (g:E5 H a y o) (ry:RelV y u) (rd:RelV d r) (h:∀ w' s',Inv X pins σ H s'->RelV (o.getD d) w'->Q w' s') :
  aI (model X.prog X.w) A (call (.builtin "dict.get") [.ref a,u,r]) Q E s:=by
 rcases g with ⟨kvs,k,e,ey,l⟩|⟨kvs,k,b,e,ey,eb,l⟩
 ·subst ey
  obtain⟨z,hd,vs,rel,dd⟩:=E9 I.hok e
  refine fB cF dd.typeIs c4 (f8 _ _ _) (meets_dict_get_default (Ay X.prog X.w) a (G5 ry) hd r) ⟨_,dd.mapOf,h _ _ (I.tok _) ?_⟩
  rw [l]
  exact (rel.val k).getD rd
 ·subst ey
  cases (show u=aC b from ry)
  obtain⟨z,hd,xs,rel,dd⟩:=Hz I.hok e
  refine fB cF dd.typeIs c4 (f8 _ _ _) (meetsH_dict_get_default (fY (Ay X.prog X.w)) a b hd r) ⟨cG hu,k,xs,Fe I.hok eb,dd,h _ _ (I.tok _) ?_⟩
  rw [l]
  exact (rel.val k).getD rd
end
section
variable {X:Cx} {o e f:Expr} {apos cpos:Pos} {td ty tx:TE}
end
section
variable {X:Cx} {pins:List (Addr×Obj)} {σ:St} {H:Hp} {s:ah} {a:Addr} {kvs:List (Key×V)} {A:aT} {E:Value->ah->Prop}
end
section
variable {X:Cx} {pins:List (Addr×Obj)} {σ:St} {H:Hp} {s:ah} {a:Addr} {y:V} {u:Value} {A:aT} {E:Value->ah->Prop}
end
noncomputable abbrev EK:=Addr->Hp->Prop
noncomputable abbrev DE:=St->Hp->VK->EK->Prop
noncomputable abbrev DT:=St->Hp->(Bool->Hp->Prop)->EK->Prop
noncomputable abbrev DA:=St->Hp->(List V->Hp->Prop)->EK->Prop
structure Hs where
 nx:St->Hp->Prop
 rt:VK
 bk:St->Hp->Prop
 ct:St->Hp->Prop
 ex:St->EK
noncomputable abbrev DS:=Hs->St->Hp->Prop
noncomputable abbrev Aq (C:Addr) (dx:Option Addr) (vs:Array Value):Obj:={ cls:=.ref C,dict:=dx,data:=.fields vs }
noncomputable def D6 (a C:Addr) (dx:Option Addr):HO:=.ext fun h=>∃ vs:Array Value,h.get? a=some (Aq C dx vs)/\vs.size=6/\vs[1]? = some .none/\vs[2]? = some .none
noncomputable def flO (a C:Addr) (dx:Option Addr):HO:=.ext fun h=>∃ vs:Array Value,h.get? a=some (Aq C dx vs)/\vs.size=6/\vs[2]? = some .none
noncomputable def fcO (a C:Addr) (dx:Option Addr):HO:=.ext fun h=>∃ vs:Array Value,h.get? a=some (Aq C dx vs)/\vs.size=6
noncomputable def FlO (H:Hp) (a C:Addr) (dx:Option Addr):Prop:=H a=some (flO a C dx)\/H a=some (fcO a C dx)
noncomputable def xdO (dx:Addr) (fs:List (Str×V)):HO:=.ext fun h=>fs.length<=1000 /\ ∃ mA,h.Ns1 dx mA/\(∀ f,RelO (fs.lookup f) (mA f))/\cV mA (fs.map (·.1))
noncomputable def E8 (X:Cx) (pins:List (Addr×Obj)) (H:Hp) (a:Addr) (s:ah):Prop:=
 ∃ (C:Addr) (dx:Option Addr) (vs:Array Value),FlO H a C dx/\s.heap.get? a=some (Aq C dx vs)/\vs.size=6 /\
  (vs[1]? = some .none \/ ∃ (T:Addr) (oT:Obj) (ts:Array Value),vs[1]? = some (.ref T)/\T≠a/\s.heap.get? T=some oT/\oT.data=.fields ts/\(∃ z,ts[3]? = some z)/\Df X pins H T)
noncomputable def Meets (X:Cx) (Ex:St->EK):Prop:=
 ∀ (pins:List (Addr×Obj)) (σ:St) (H:Hp) (s:ah) (a:Addr),Inv X pins σ H s->E8 X pins H a s->Ex σ a H->X.xe (.ref a) s
noncomputable def QE (X:Cx) (e:Expr) (t:DE):Prop:=∀ Ex,Meets X Ex->PE X e (fun σ H Q=>t σ H Q (Ex σ))
noncomputable def QT (X:Cx) (e:Expr) (t:DT):Prop:=∀ Ex,Meets X Ex->PT X e (fun σ H Q=>t σ H Q (Ex σ))
noncomputable def QW (X:Cx) (e:Expr) (t:DT):Prop:=∀ Ex,Meets X Ex->PW X e (fun σ H Q=>t σ H Q (Ex σ))
noncomputable def QA (X:Cx) (es:List Expr) (t:DA):Prop:=∀ Ex,Meets X Ex->PA X es (fun σ H Q=>t σ H Q (Ex σ))
noncomputable def al8 (Ex:St->EK) (D:Kr):Hs:=⟨D.nx,D.rt,D.bk,D.ct,Ex⟩
noncomputable def QS (X:Cx) (st:Stmt) (t:DS):Prop:=∀ Ex,Meets X Ex->PS X st (fun D σ H=>t (al8 Ex D) σ H)
noncomputable def QSs (X:Cx) (st:List Stmt) (t:DS):Prop:=∀ Ex,Meets X Ex->PSs X st (fun D σ H=>t (al8 Ex D) σ H)
noncomputable def dNo:DE:=fun _ _ _ _=>False
noncomputable def Ac (i:Nat):DE:=fun σ H Q _=>match σ[i]? with
 | some (some v)=>Q v H
 | _=>False
noncomputable def dC (v:V):DE:=fun _ H Q _=>Q v H
noncomputable def Ae (r:R2) (a b:DE):DE:=fun σ H Q E=>a σ H (fun x H1=>b σ H1 (fun y H2=>r x y H2 Q) E) E
noncomputable def dUn (r:V->Hp->VK->Prop) (a:DE):DE:=fun σ H Q E=>a σ H (fun x H1=>r x H1 Q) E
noncomputable def Cy (r r':R2) (a b c:DE):DE:=fun σ H Q E=>a σ H (fun x H1=>b σ H1 (fun y H2=>r x y H2 fun z H3=>match z with
 | .bl k=>if k=true then c σ H3 (fun w H4=>r' y w H4 Q) E else Q (.bl false) H3
 | _=>False) E) E
noncomputable def Y0 (a b:DT):DT:=fun σ H Q E=>a σ H (fun k H1=>if k=true then b σ H1 Q E else Q false H1) E
noncomputable def dOr (a b:DT):DT:=fun σ H Q E=>a σ H (fun k H1=>if k=true then Q true H1 else b σ H1 Q E) E
noncomputable def O6 (a:DT):DT:=fun σ H Q E=>a σ H (fun k H1=>Q (!k) H1) E
noncomputable def bt4 (t:DT) (a b:DE):DE:=fun σ H Q E=>t σ H (fun k H1=>if k=true then a σ H1 Q E else b σ H1 Q E) E
noncomputable def ah8 (K:aa) (x:V) (H:Hp) (Q:Bool->Hp->Prop):Prop:=match x with
 | .bl k=>Q k H
 | .non=>Q false H
 | .int i=>Q (i != 0) H
 | .str y=>y.length<=sizeLine/\Q ((y.length:Int) != 0) H
 | .ref p=>∃ k,bt1 K (.ref p) H k/\Q k H
 | _=>False
noncomputable def Cm (K:aa) (a b:DE):DE:=fun σ H Q E=>a σ H (fun x H1=>ah8 K x H1 fun k H2=>if k=true then b σ H2 Q E else Q x H2) E
noncomputable def aj5 (K:aa) (a b:DE):DE:=fun σ H Q E=>a σ H (fun x H1=>ah8 K x H1 fun k H2=>if k=true then Q x H2 else b σ H2 Q E) E
noncomputable def Y3 (K:aa) (a:DE):DE:=fun σ H Q E=>a σ H (fun x H1=>ah8 K x H1 fun k H2=>Q (.bl (!k)) H2) E
noncomputable def Ku (K:aa) (a:DE):DT:=fun σ H Q E=>a σ H (fun x H1=>ah8 K x H1 Q) E
noncomputable def A5 (a:DE):DT:=fun σ H Q E=>a σ H (fun x H1=>match x with
 | .bl k=>Q k H1
 | _=>False) E
noncomputable def Ag:DA:=fun _ H Q _=>Q [] H
noncomputable def Ab (a:DE) (r:DA):DA:=fun σ H Q E=>a σ H (fun x H1=>r σ H1 (fun xs H2=>Q (x::xs) H2) E) E
noncomputable def Bq (t:DA):DE:=fun σ H Q E=>t σ H (fun xs H1=>xs.length<=sizeLine /\ ∀ p,H1 p=none->Q (.ref p) (upd H1 p (.tup xs))) E
noncomputable def Dg (t:DA):DE:=fun σ H Q E=>t σ H (fun xs H1=>xs.length<=sizeLine /\ ∀ p,H1 p=none->Q (.ref p) (upd H1 p (.lst xs))) E
noncomputable def dFn (r:List V->Hp->VK->EK->Prop) (t:DA):DE:=fun σ H Q E=>t σ H (fun vs H1=>r vs H1 Q E) E
noncomputable def dMt (r:V->Hp->(Hp->(List V->Hp->Prop)->Prop)->VK->Prop) (o:DE) (t:DA):DE:=fun σ H Q E=>o σ H (fun x H1=>r x H1 (fun H2 R=>t σ H2 R E) Q) E
noncomputable def Af:DS:=fun D σ H=>D.nx σ H
noncomputable def B4:DS:=fun _ _ _=>False
noncomputable def Ah (t u:DS):DS:=fun D σ H=>t { D with nx:=u D } σ H
noncomputable def As (e:DE):DS:=fun D σ H=>e σ H D.rt (D.ex σ)
noncomputable def aq2:DS:=fun D _ H=>D.rt .non H
noncomputable def A9 (e:DE):DS:=fun D σ H=>e σ H (fun _ H1=>D.nx σ H1) (D.ex σ)
noncomputable def dIf (c:DT) (t u:DS):DS:=fun D σ H=>c σ H (fun b H1=>if b=true then t D σ H1 else u D σ H1) (D.ex σ)
noncomputable def bt2:DS:=fun D σ H=>D.bk σ H
noncomputable def bt3:DS:=fun D σ H=>D.ct σ H
noncomputable def A2 (i:Nat) (e:DE):DS:=fun D σ H=>e σ H (fun v H1=>D.nx (σ.set i (some v)) H1) (D.ex σ)
noncomputable abbrev DG:=TG
noncomputable def G8 (e:DE) (g:DG):DS:=fun D σ H=>e σ H (fun v H1=>g v σ H1 D.nx) (D.ex σ)
noncomputable abbrev DI:=St->Hp->(It->Hp->Prop)->EK->Prop
noncomputable def ax0 (J:It) (g:DG) (tb:DS) (D:Hs) (σ:St) (H:Hp):Prop:=∃ W:Nat->Nat->St->Hp->Prop,(∃ m,W 0 m σ H) /\ ∀ i m σ H,W i m σ H ->
 (J.stop i H/\D.nx σ H)\/(J.go i H /\ ∃ N:St->Hp->Prop,(∀ σ' H',N σ' H' -> ∃ m',m'<m/\W (i+1) m' σ' H') /\ ∀ x H',J.yld i H x H'->g x σ H' (fun σ2 H2=>tb { D with nx:=N,ct:=N,bk:=D.nx } σ2 H2))
noncomputable def Thaw (H0 H:Hp) (P:Hp->Prop):Prop:=P H \/ ∃ p o kvs,H0 p=some (.dK kvs)/\H p=some (.frz o (.dK kvs))/\P (upd H p (.dK kvs))
noncomputable def Qk (wi:DI) (g:DG) (tb:DS):DS:=fun D σ H=>wi σ H (fun J H1=>ax0 J g tb { D with nx:=fun σ' H'=>Thaw H H' (D.nx σ') } σ H1) (D.ex σ)
noncomputable def Wu (J:It) (g:DG) (tc:DT) (te:DE) (D:Addr) (R:Hp->Prop) (σ:St) (H:Hp) (E:EK):Prop:=
 ∃ W:Nat->Nat->St->Hp->Prop,(∃ m,W 0 m σ H) /\ ∀ i m σ' H',W i m σ' H' ->
  (J.stop i H'/\R H')\/(J.go i H' /\ ∃ N:St->Hp->Prop,(∀ σ2 H2,N σ2 H2 -> ∃ m',m'<m/\W (i+1) m' σ2 H2) /\ ∀ x H2,J.yld i H' x H2->g x σ' H2 (fun σ3 H3=>tc σ3 H3 (fun b H4=>if b=true then
    te σ3 H4 (fun v H5=>∃ ys,H5 D=some (.lst ys)/\ys.length<sizeLine/\N σ3 (upd H5 D (.lst (ys++[v])))) E
   else N σ3 H4) E))
noncomputable def Ef (srcs:List (Option Nat)) (wi:DI) (g:DG) (tc:DT) (te:DE):DE:=fun σ H Q E=>wi σ H (fun J H1=>∀ D,H1 D=none->Wu J g tc te D (fun H'=>Q (.ref D) H') (Vl srcs σ) (upd H1 D (.lst [])) E) E
noncomputable def G9:DT:=fun _ H Q _=>Q true H
noncomputable def gdN (i:Nat):DG:=fun v σ H Q=>Q (σ.set i (some v)) H
end L2
namespace L2
open PySem PySem.Spec PyProof.Rows PySem.W
section
variable {prog:aE} {w:bq} {A:aT} {E:Value->ah->Prop} {s:ah} {K:aa} {x C:Addr} {ox:Obj} {od:Option Obj} {name:Str} {expr:Bool} {Q:Value->ah->Prop}
theorem O2 (self:Value):gh (.builtin "BaseException.__getattribute__") self=pure (.builtin "BaseException.__getattribute__", [self]):=by
 have hop:withoutEnding? "BaseException.__getattribute__" "#opaque" = none:=by decide +kernel
 have hdat:withoutEnding? "BaseException.__getattribute__" "#data" = none:=by decide +kernel
 have hk:builtinKind "BaseException.__getattribute__" = some .slot:=by decide +kernel
 simp only [gh,typeOf,builtinType,hop,hdat,hk];rfl
theorem ak1 {v:Value} (X:K.In s.heap) (I:dH s.heap x ox C od) (hga:ac K (.ref C) "__getattribute__" = some (some (.builtin "BaseException.__getattribute__"))) (hgt:ac K (.ref C) "__getattr__" = some none)
  (hB:aV K C (.type "BaseException")=some true) (hf:PySem.W.findObj K C od name=some (.value v)) (hh:dJ v=true) (h:Q v { s with toks:=s.toks+1 }) :
  aI (model prog w) A (iS (.ref x) name expr) Q E s:=by
 obtain⟨hp,g,d,t,os⟩:=s
 have L0:=I.type (M:=model prog w)
 have L1:=ci (M:=model prog w) X hga
 have L2:=ci (M:=model prog w) X hgt
 have L3:=iA (M:=model prog w) X I hf
 have L4:=ig (M:=model prog w) X hB
 unfold iS getAttrBy
 refine ag (wpAny_mkText (bv (ag (L0.at (ag (L1.at ?_))))))
 have hx2:(cm "BaseException.__getattribute__" == cm "object.__getattribute__")=false:=by decide +kernel
 have hx1:(jd (aC C)&&cm "BaseException.__getattribute__" == cm "object.__getattribute__")=false:=by rw [hx2];rfl
 dsimp only
 rw [hx1,if_neg aj]
 unfold getAttrByItsOwn
 refine ag (show aI _ _ (dW (.ref C) "__getattr__") _ _ _ from L2.at ?_)
 refine ag (iN (bv ?_))
 have hx0:(expr&&jd (cm "BaseException.__getattribute__"))=false:=by cases expr <;> rfl
 unfold callGetattribute
 rw [hx0,if_neg aj]
 unfold boundAndCalled
 rw [O2]
 refine ag (am ?_)
 refine dz (cL (by decide +kernel) F.entry_bexc_ga (check_slot (i := "BaseException.__getattribute__") (owner := "BaseException") (n := "__getattribute__") (by decide +kernel) (by decide +kernel) (L0.andThen L4) (F.args_bexc_ga _ _) ?_))
 unfold bi.«object.__getattribute__»
 refine ag (am (ag (am (ag (L0.at (ag (L3.at ?_)))))))
 refine am ?_
 show aI _ _ (handedOut v) _ _ _
 rw [hW hh]
 exact am h
end
end L2
namespace L2
open PySem PySem.Spec PyProof.Rows PySem.W Builtin Builtin.ObjectAttr
noncomputable def Ax:List Value->Bool
 | [.type a,.type b,.type c,.type d]=>a == "ValueError" && b == "Exception" && c == "BaseException" && d == "object"
 | .ref _::r=>Ax r
 | _=>false
noncomputable def valTail:List Value:=[.type "ValueError", .type "Exception", .type "BaseException", .type "object"]
theorem Rl (self:Value):refuseLoop self "__setattr__" valTail=pure ():=by kernel_rfl
theorem C2:∀ {l:List Value},Ax l=true -> ∃ rs:List Addr,l=rs.map aC++valTail
 | [.type a,.type b,.type c,.type d],e=>by
  have e:(a == "ValueError" && b == "Exception" && c == "BaseException" && d == "object")=true:=e
  simp only [au,beq_iff_eq] at e
  obtain⟨⟨⟨rfl,rfl⟩,rfl⟩,rfl⟩:=e
  exact⟨[],rfl⟩
 | .ref a::r,e=>by
  have e:Ax r=true:=by cases r <;> first|exact e|cases e
  obtain⟨rs,h⟩:=C2 e
  exact⟨a::rs,by rw [h];rfl⟩
theorem Rk (self:Value) (rs:List Addr):refuseLoop self "__setattr__" (rs.map aC++valTail)=pure ():=by
 induction rs with
 | nil=>exact Rl self
 | cons a r ih=>rw [ba,gr,refuseLoop_ref];exact ih
theorem P9 (rs:List Addr) {T:String} (h:valTail.contains (.type T)=true):(rs.map aC++valTail).contains (.type T)=true:=by
 induction rs with
 | nil=>exact h
 | cons a r ih=>rw [ba,gr,a_,ih,dQ]
section
variable {prog:aE} {w:bq} {A:aT} {s:ah} {K:aa} {x C:Addr} {R:g6->ah->Prop}
theorem Ls {ox:Obj} {od:Option Obj} {name:Str} {tk:Tok} {v:Value} {cd:ClassData} (X:K.In s.heap) (I:dH s.heap x ox C od) (hc:clsIn K C=some cd) (hp:Ax cd.mro=true) (ht:findIn K (.ref C) name=some none)
  (h:aI (model prog w) A.in1 (storeInOwnDict (.ref x) (.ref C) (.str name tk) name v false)
   (fun fin s'=>match fin with | .done f=>R (.ok f) s' | .again c'=>c'.quiet=true/\dP (model prog w) A c' R s') (fun e s'=>R (.error e) s') s) :
  dP (model prog w) A (.call (.builtin "object.__setattr__") ⟨[.ref x,.str name tk,v],[]⟩) R s:=by
 have SF:=PySem.F.store_object
 obtain⟨rs,hm⟩:=C2 hp
 have ne:cd.mro.isEmpty=false:=by rw [hm];cases rs <;> rfl
 have sub:Looks (model prog w) s.heap (iU (.ref x) (.type "object")) true:=I.type.andThen (looks_mroIn X (by unfold mroIn;rw [hc,bQ,if_neg (by rw [ne];decide),hm,P9 rs (by decide +kernel)]))
 refine cL SF.slot.plain SF.entry (@check_slot (model prog w) _ _ s "object.__setattr__" "object" "__setattr__" (.ref x) [.str name tk,v] [] _ SF.kind SF.split sub (SF.args (.ref x) (.str name tk) v) ?_)
 have hmr:Looks (model prog w) s.heap (mroOf (.ref C)) cd.mro:=(looks_clsIn X hc).andThen .now
 rw [osa_eq,refuse_eq]
 refine ag (ag (I.type.here (ag (hmr.here ?_))))
 rw [hm,Rk]
 refine am (ag (I.type.here (ag ((looks_findIn X ht).here (ag (am ?_))))))
 exact h
end
section
variable {prog:aE} {w:bq} {A:aT} {E:Value->ah->Prop} {s:ah} {K:aa} {x dx C f:Addr} {mA:Str->Option Value} {name:Str} {v:Value} {vs:Array Value}
theorem ao9 {ns:List Str} {Q:Unit->ah->Prop} {cd:ClassData} (X:K.In s.heap) (hx:s.heap.get? x=some (Aq C (some dx) vs)) (hn:s.heap.Ns1 dx mA) (hne:dx≠x)
  (hs:findIn K (.ref C) "__setattr__" = some (some (.builtin "object.__setattr__"))) (hc:clsIn K C=some cd) (hp:Ax cd.mro=true) (hd':cd.hasDict=true) (ht:findIn K (.ref C) name=some none)
  (hw:cV mA ns) (hsz:ns.length<=sizeLine)
  (h:∀ h',h'.get? x=some (Aq C (some dx) vs)->h'.Ns1 dx (fun y=>if y=name then some v else mA y)->cC dx s.heap h'->Q () { s with heap:=h',toks:=s.toks+2 }) :
  aI (model prog w) A (jh (.ref x) name v) Q E s:=by
 obtain⟨od,ho,hl⟩:=Gs hn
 have J:dH s.heap x (Aq C (some dx) vs) C (some od):=⟨hx,rfl,rfl,ho⟩
 refine set_plain X J hs (Ls (s:={ s with toks:=s.toks+1 }) X J hc hp ht ?_)
 refine ag (am (ag (ag (fN hx (ag (Looks.here (s:={ s with toks:=s.toks+1 }) (looks_clsIn X hc) ?_))))))
 rw [hd']
 refine am (a:=some dx) (ag (am (ag ?_)))
 refine i9 (s:={ s with toks:=s.toks+1 }) hn fun h' hn2 hs2=>?_
 obtain⟨oD,esD,epD,hoD,hdD,hcD⟩:=hn2.count (PySem.Within.cons name v hw)
 refine ag (gF hoD (by rw [hdD];exact gz (aD hcD (by rw [aS];omega))) ?_)
 exact am (h _ ((hs2.2 _ (cK hne)).trans hx) hn2 hs2)
theorem af0 {Q:Unit->ah->Prop} {cd:ClassData} (X:K.In s.heap) (hx:s.heap.get? x=some (Aq C none vs))
  (hs:findIn K (.ref C) "__setattr__" = some (some (.builtin "object.__setattr__"))) (hc:clsIn K C=some cd) (hp:Ax cd.mro=true) (hd':cd.hasDict=true) (ht:findIn K (.ref C) name=some none)
  (h:∀ h',h'.get? x=some (Aq C (some s.heap.objs.size) vs)->h'.Ns1 s.heap.objs.size (fun y=>if y=name then some v else none)->(∀ b o,b≠x->s.heap.get? b=some o->h'.get? b=some o)->Q () { s with heap:=h',toks:=s.toks+2 }) :
  aI (model prog w) A (jh (.ref x) name v) Q E s:=by
 have J:dH s.heap x (Aq C none vs) C none:=⟨hx,rfl,rfl,aX⟩
 refine set_plain X J hs (Ls (s:={ s with toks:=s.toks+1 }) X J hc hp ht ?_)
 refine ag (am (ag (ag (fN hx (ag (Looks.here (s:={ s with toks:=s.toks+1 }) (looks_clsIn X hc) ?_))))))
 rw [hd']
 rw [if_neg (by decide)]
 refine ag (wpAny_alloc (ag (wpAny_update (af _ hx) ?_)))
 refine am (a:=some s.heap.objs.size) (ag (am (ag ?_)))
 have e1:(s.heap.push emptyDict).get? s.heap.objs.size=some emptyDict:=aF s.heap rfl
 have hne:x≠s.heap.objs.size:=aL (aA hx)
 have e2:((s.heap.push emptyDict).update x fun o=>{ o with dict:=some s.heap.objs.size }).get? s.heap.objs.size=some emptyDict:=by rw [aQ _ _ hne];exact e1
 have e3:((s.heap.push emptyDict).update x fun o=>{ o with dict:=some s.heap.objs.size }).get? x=some (Aq C (some s.heap.objs.size) vs):=bH _ (af _ hx) rfl
 have n0:((s.heap.push emptyDict).update x fun o=>{ o with dict:=some s.heap.objs.size }).Ns s.heap.objs.size (fun _=>none):=⟨emptyDict,#[],_,e2,rfl,(fun e he=>absurd he (by simp)),fun _=>rfl⟩
 refine i9 (s:={ s with heap:=(s.heap.push emptyDict).update x fun o=>{ o with dict:=some s.heap.objs.size },toks:=s.toks+1 }) (Heap.Ns1.of_empty n0) fun h' hn2 hs2=>?_
 obtain⟨oD,esD,epD,hoD,hdD,hcD⟩:=hn2.count (ns:=[name]) (fun y hy=>by
  by_cases e:y=name
  ·rw [e];simp
  ·exact absurd (by rw [if_neg e]) hy)
 refine ag (gF hoD (by rw [hdD];exact gz (aD hcD (by show 1<=sizeLine+1;decide))) ?_)
 refine am (h _ ((hs2.2 _ hne).trans e3) hn2 fun b o hb e=>?_)
 have hbs:b≠s.heap.objs.size:=aL (aA e)
 refine (hs2.2 b hbs).trans ?_
 show ((s.heap.push emptyDict).update x _).get? b=some o
 rw [aQ _ _ (cK hb)]
 exact af _ e
end
end L2
namespace L2
open PySem PySem.Spec PySem.W Builtin Builtin.ObjectAttr
open Sem (wp)
structure ECls (K:aa) (C:Addr):Prop where
 obj:∃ nm q N bs bm hdct sn sub ab col dd k0 k1 k2 k3 k5,K.lookup C=some (cY nm q C N bs bm hdct sn sub ab col dd k0 k1 k2 k3 k5 "ValueError.__new__")/\Ax bm=true/\hdct=true
 sa:findIn K (.ref C) "__setattr__" = some (some (.builtin "object.__setattr__"))
 ga:findIn K (.ref C) "__getattribute__" = some (some (.builtin "BaseException.__getattribute__"))
 gt:findIn K (.ref C) "__getattr__" = some none
 ca:findIn K (.ref C) "__class__" = some (some (.builtin "object.__class__"))
 hn:specialIn K (.builtin "object.__class__") "__get__" = some (some (.builtin "getset_descriptor.__get__"))
 htk:takesIn K (.builtin "object.__class__")=some true
theorem Bh {bm:List Value} (h:Ax bm=true) {T:String} {b:Bool} (hb:valTail.contains (.type T)=b):bm.contains (.type T)=b:=by
 obtain⟨rs,rfl⟩:=C2 h
 induction rs with
 | nil=>exact hb
 | cons a r ih=>
  have h':Ax (r.map aC++valTail)=true:=by
   cases r <;> exact h
  rw [ba,gr,a_,ih h']
  rfl
section
variable {M:Model} {A:aT} {E:Value->ah->Prop} {h:Heap} {g:Array hV} {d:Drawn} {t:Nat} {os:OsState}
variable {nm q:Str} {C N:Addr} {bs bm:List Value} {hdct:Bool} {sn:List Str} {sub:List Value} {ab:Bool} {col:Option Bool} {dd:Option Addr} {k0 k1 k2 k3 k5:Option Value}
theorem Db (T:Ax bm=true) {rest:List Value} {Q:Unit->ah->Prop} (hC:h.get? C=some (cY nm q C N bs bm hdct sn sub ab col dd k0 k1 k2 k3 k5 "ValueError.__new__"))
  (hq:Q () ⟨h,g,d,t,os⟩):aI M A (eQ "ValueError.__new__" ⟨.ref C::rest,[]⟩) Q E ⟨h,g,d,t,os⟩:=by
 have F:=cA
 have hcont:(aC C::bm).contains (.type "ValueError")=true:=by rw [a_,Bh T (show valTail.contains (.type "ValueError")=true by decide +kernel),dQ]
 have hstar:=F.noStar
 simp only [eQ,F.newKind,F.newSplit,F.newRow]
 repeat (first|refine aP hC ?_|(refine bL hC ?_;rw [hcont])|refine wpAny_staticBase_exc hC ?_|refine gG hC ?_|simp only [bne_self_eq_false,dX,if_false] | wp_step)
 exact hq
end
section
variable {prog:aE} {w:bq} {A:aT} {R:g6->ah->Prop} {h:Heap} {g:Array hV} {d:Drawn} {t:Nat} {os:OsState}
variable {nm q:Str} {C N:Addr} {bs bm:List Value} {hdct:Bool} {sn:List Str} {sub:List Value} {ab:Bool} {col:Option Bool} {dd:Option Addr} {k0 k1 k2 k3 k5:Option Value}
theorem C9 (T:Ax bm=true) {rest:List Value} (hC:h.get? C=some (cY nm q C N bs bm hdct sn sub ab col dd k0 k1 k2 k3 k5 "ValueError.__new__"))
  (hq:R (.ok (.ret (.ref (h.objs.size+1)))) ⟨(h.push { cls:=.type "tuple", data:=.seq rest.toArray }).push
   {cls:=.ref C,data:=.fields #[.ref h.objs.size,.none,.none,.none,.bool false,.none] },g,d,t,os⟩) (hrest:rest.length<=sizeLine) :
  dP (model prog w) A (.builtin "ValueError.__new__" ⟨.ref C::rest,[]⟩) R ⟨h,g,d,t,os⟩:=by
 have F:=cA
 have hends:=F.ends
 have hcB:(aC C::bm).contains (.type "ValueError")=true:=by rw [a_,Bh T (show valTail.contains (.type "ValueError")=true by decide +kernel),dQ]
 have hcA:(aC C::bm).contains (.type "AttributeError")=false:=by rw [a_,Bh T (show valTail.contains (.type "AttributeError")=false by decide +kernel)];rfl
 have hcN:(aC C::bm).contains (.type "NameError")=false:=by rw [a_,Bh T (show valTail.contains (.type "NameError")=false by decide +kernel)];rfl
 refine codeAny_builtinAt F.entry ?_
 unfold bi.«BaseException.__new__»
 refine wpAt_bind ?_
 show wpAt _ _ _ (stack >>= _) _ _ _
 refine wpAt_bind (wpAt_stack fun p below=>wpAt_of_wpAny ?_)
 wp_walk
 refine wpAt_of_wpAny ?_
 rw [F.owner]
 repeat (first|with_reducible refine wpAny_madeHere_exc F.canon hC ?_|with_reducible refine aP hC ?_|(with_reducible refine bL hC ?_;first|rw [hcB] | rw [hcA] | rw [hcN])|wp_step)
 show R _ _
 rw [cI]
 exact hq
end
end L2
namespace L2
open PySem PySem.Spec PySem.W Builtin Builtin.ObjectAttr
open Sem (wp)
section
variable {prog:aE} {w:bq} {A:aT} {E:Value->ah->Prop} {h:Heap} {g:Array hV} {d:Drawn} {t:Nat} {os:OsState}
variable {nm q:Str} {C N f:Addr} {bs bm:List Value} {hdct:Bool} {sn:List Str} {sub:List Value} {ab:Bool} {col:Option Bool} {dd:Option Addr} {k0 k1 k2 k3 k5:Option Value}
noncomputable abbrev B5 (h:Heap) (C:Addr) (rest:List Value):Heap:=(h.push { cls:=.type "tuple", data:=.seq rest.toArray }).push { cls:=.ref C,data:=.fields #[.ref h.objs.size,.none,.none,.none,.bool false,.none] }
theorem Gf (T:Ax bm=true) {rest:List Value} {Q:Fin->ah->Prop}
  (hC:h.get? C=some (cY nm q C N bs bm hdct sn sub ab col dd k0 k1 k2 k3 k5 "ValueError.__new__"))
  (hi:Looks (model prog w) h (dW (.ref C) "__init__") (some (.ref f))) (hb:∀ self,Looks (model prog w) h (gh (.ref f) self) (.ref f,[self]))
  (hq:aI (model prog w) A (call (.ref f) (.ref (h.objs.size+1)::rest)) (fun v s'=>v=.none/\Q (.done (.ret (.ref (h.objs.size+1)))) s') E ⟨B5 h C rest,g,d,t,os⟩) (hrest:rest.length<=sizeLine) :
  aI (model prog w) A (bi.«type.__call__» ⟨.ref C::rest,[]⟩) Q E ⟨h,g,d,t,os⟩:=by
 have F:=cA
 repeat (first|with_reducible refine aP hC ?_|with_reducible refine gG hC ?_|wp_step)
 refine fJ (c5 _ F.quiet) (Db T hC ?_)
 refine C9 T hC ?_ hrest
 show aI _ _ _ _ _ _
 have kp:∀ b o,h.get? b=some o->(B5 h C rest).get? b=some o:=fun b o e=>af _ (af _ e)
 have hC₁:=kp _ _ hC
 have hget:(B5 h C rest).get? (h.objs.size+1)=some { cls:=.ref C,data:=.fields #[.ref h.objs.size,.none,.none,.none,.bool false,.none] }:=by heap_get
 have hcC:(aC C::bm).contains (.ref C)=true:=by simp
 unfold iU
 repeat (first|with_reducible refine aP hget ?_|(with_reducible refine bL hC₁ ?_;rw [hcC])|wp_step)
 show aI _ _ (dW (.ref C) _) _ _ _
 refine (hi.keeps kp).at ?_
 refine bv (ag (((hb _).keeps kp).at ?_))
 refine ag (bP hq (fun v s' z=>?_) fun _ _ z=>z)
 obtain⟨rfl,z⟩:=z
 exact am (am z)
theorem Z0 (T:Ax bm=true) {rest:List Value} {R:g6->ah->Prop}
  (hC:h.get? C=some (cY nm q C N bs bm hdct sn sub ab col dd k0 k1 k2 k3 k5 "ValueError.__new__"))
  (hi:Looks (model prog w) h (dW (.ref C) "__init__") (some (.ref f))) (hb:∀ self,Looks (model prog w) h (gh (.ref f) self) (.ref f,[self]))
  (hq:dP (model prog w) (A.under (.builtin "type.__call__" ⟨.ref C::rest,[]⟩)) (.call (.ref f) ⟨.ref (h.objs.size+1)::rest,[]⟩) (InitBack (h.objs.size+1) R) ⟨B5 h C rest,g,d,t,os⟩) (hrest:rest.length<=sizeLine) :
  dP (model prog w) A (.call (.ref C) ⟨rest,[]⟩) R ⟨h,g,d,t,os⟩:=by
 have f1:=tc_lookup
 have f2:=tc_bind (.ref C)
 have hT:(⟨h,g,d,t,os⟩:ah).TypeIs (.ref C) "type" := ⟨_,hC,rfl⟩
 refine codeAny_of_tree ?_
 show aI _ _ (callAny (.ref C) _) _ _ _
 repeat (any_goals (first|assumption|with_reducible refine aP hC ?_|wp_step))
 refine⟨rfl,?_⟩
 refine gj (c5 _ (by decide +kernel)) entry_typeCall (fM hC (Gf T hC hi hb (dz (eO hq fun r s' z=>?_)) hrest))
 rcases r with e|(v|_|_|_) <;> first|exact z|exact z.elim
theorem Fn (T:Ax bm=true) {rest:List Value} {Q:Fin->ah->Prop}
  (hC:h.get? C=some (cY nm q C N bs bm hdct sn sub ab col dd k0 k1 k2 k3 k5 "ValueError.__new__"))
  (hi:Looks (model prog w) h (dW (.ref C) "__init__") (some (.builtin "ValueError.__init__")))
  (hq:∀ h' e,Heap.MadeExcOf h h' e (.ref C) rest->e=h.objs.size+1->Q (.done (.ret (.ref e))) ⟨h',g,d,t,os⟩) (hrest:rest.length<=sizeLine) :
  aI (model prog w) A (bi.«type.__call__» ⟨.ref C::rest,[]⟩) Q E ⟨h,g,d,t,os⟩:=by
 have F:=cA
 repeat (first|with_reducible refine aP hC ?_|with_reducible refine gG hC ?_|wp_step)
 refine fJ (c5 _ F.quiet) (Db T hC ?_)
 refine C9 T hC ?_ hrest
 show aI _ _ _ _ _ _
 have kp:∀ b o,h.get? b=some o->(B5 h C rest).get? b=some o:=fun b o e=>af _ (af _ e)
 have hC₁:=kp _ _ hC
 have hget:(B5 h C rest).get? (h.objs.size+1)=some { cls:=.ref C,data:=.fields #[.ref h.objs.size,.none,.none,.none,.bool false,.none] }:=by heap_get
 have hcC:(aC C::bm).contains (.ref C)=true:=by simp
 have hcB:(aC C::bm).contains (.type "ValueError")=true:=by rw [a_,Bh T (show valTail.contains (.type "ValueError")=true by decide +kernel),dQ]
 unfold iU
 repeat (first|with_reducible refine aP hget ?_|(with_reducible refine bL hC₁ ?_;rw [hcC])|wp_step)
 show aI _ _ (dW (.ref C) _) _ _ _
 refine (hi.keeps kp).at ?_
 refine bv (ag (wpAny_of_eq (F.init.bind _) ?_))
 have chk:∀ {Q':Unit->ah->Prop} {E':Value->ah->Prop} {A':aT},Q' () ⟨B5 h C rest,g,d,t,os⟩->aI (model prog w) A' (eQ "ValueError.__init__" ⟨.ref (h.objs.size+1)::rest,[]⟩) Q' E' ⟨B5 h C rest,g,d,t,os⟩:=fun {Q' E' A'} hq'=>by
  have hshort:=F.noStar
  simp only [eQ,F.initKind,F.initSplit,F.initRow]
  repeat (first|with_reducible refine aP hget ?_|with_reducible refine aP hC₁ ?_|(with_reducible refine bL hC₁ ?_;rw [hcB])|wp_step)
  refine wpAny_onRaise ?_
  rw [show ∀ (a b:String) (n:Nat),Bind.check ⟨.positional, "*", "ValueError", .self,[⟨"args", .varPos,false⟩]⟩ a b n (ix (fun x=>x.fst) ({ pos:=aC (h.objs.size+1)::rest }:Args).kw)=pure () from
   fun a b n=>check_star_args _ _ _ _ _ _]
  exact am hq'
 refine ag (dz (cL F.init.plain F.initEntry (chk ?_)))
 wp_walk
 refine hq _ _ ⟨fun b o hb=>?_,eS (cJ _),h.objs.size+2,?_,eS (by omega),?_⟩ rfl
 ·rw [aQ _ _ (eN (Nat.lt_succ_of_lt (aA hb)))]
  exact af _ (af _ (af _ hb))
 ·rw [bH _ (af _ hget) rfl]
  simp only [cI]
  rfl
 ·rw [aQ _ _ (show h.objs.size+1≠h.objs.size+2 by omega)]
  exact Heap.get?_push_at (by simp only [cI]) rfl
theorem V0 (T:Ax bm=true) {rest:List Value} {R:g6->ah->Prop}
  (hC:h.get? C=some (cY nm q C N bs bm hdct sn sub ab col dd k0 k1 k2 k3 k5 "ValueError.__new__"))
  (hi:Looks (model prog w) h (dW (.ref C) "__init__") (some (.builtin "ValueError.__init__")))
  (hq:∀ h' e,Heap.MadeExcOf h h' e (.ref C) rest->e=h.objs.size+1->R (.ok (.ret (.ref e))) ⟨h',g,d,t,os⟩) (hrest:rest.length<=sizeLine) :
  dP (model prog w) A (.call (.ref C) ⟨rest,[]⟩) R ⟨h,g,d,t,os⟩:=by
 have f1:=tc_lookup
 have f2:=tc_bind (.ref C)
 have hT:(⟨h,g,d,t,os⟩:ah).TypeIs (.ref C) "type" := ⟨_,hC,rfl⟩
 refine codeAny_of_tree ?_
 show aI _ _ (callAny (.ref C) _) _ _ _
 repeat (any_goals (first|assumption|with_reducible refine aP hC ?_|wp_step))
 refine⟨rfl,?_⟩
 exact gj (c5 _ (by decide +kernel)) entry_typeCall (fM hC (Fn T hC hi hq hrest))
end
end L2
namespace L2
open PySem PySem.Spec PySem.W PyProof.Rows
theorem ECls.cls {K:aa} {C:Addr} (c:ECls K C):∃ cd,clsIn K C=some cd/\Ax cd.mro=true/\cd.hasDict=true:=by
 obtain⟨nm,q,N,bs,bm,hdct,sn,sub,ab,col,dd,k0,k1,k2,k3,k5,hl,ht,hd⟩:=c.obj
 refine⟨_,by unfold clsIn;rw [hl],?_,hd⟩
 obtain⟨rs,e⟩:=C2 ht
 show Ax (aC C::bm)=true
 rw [e]
 clear e
 show Ax (ix aC (C::rs)++valTail)=true
 have:∀ l:List Addr,Ax (ix aC l++valTail)=true:=fun l=>by
  induction l with
  | nil=>decide +kernel
  | cons a r ih=>cases r <;> exact ih
 exact this _
theorem ECls.sub {K:aa} {C:Addr} (c:ECls K C) {T:String} (h:valTail.contains (.type T)=true):mroIn K C (.type T)=some true:=by
 obtain⟨cd,h1,h2,_⟩:=c.cls
 obtain⟨rs,e⟩:=C2 h2
 unfold mroIn
 rw [h1,bQ,e,P9 rs h,if_neg]
 cases rs <;> exact aj
section
variable {prog:aE} {w:bq} {A:aT} {E:Value->ah->Prop} {s:ah} {K:aa} {x C:Addr} {ox:Obj} {od:Option Obj} {name:Str}
theorem Zi {g a v:Value} {Q:Option Value->ah->Prop} (X:K.In s.heap) (I:dH s.heap x ox C od) (hga:ac K (.ref C) "__getattribute__" = some (some (.builtin "BaseException.__getattribute__"))) (hgt:ac K (.ref C) "__getattr__" = some none)
  (hB:aV K C (.type "BaseException")=some true) (hf:PySem.W.findObj K C od name=some (.bind g a)) (hh:dJ v=true)
  (h:∀ {A':aT} {R:g6->ah->Prop},R (.ok (.ret v)) { s with toks:=s.toks+1 }->dP (model prog w) A' (.call g ⟨[a,.ref x,.ref C],[]⟩) R { s with toks:=s.toks+1 }) (hq:Q (some v) { s with toks:=s.toks+1 }) :
  aI (model prog w) A (getAttr? (.ref x) name) Q E s:=by
 obtain⟨hp,gg,d,t,os⟩:=s
 have L0:=I.type (M:=model prog w)
 have L1:=ci (M:=model prog w) X hga
 have L2:=ci (M:=model prog w) X hgt
 have L3:=iA (M:=model prog w) X I hf
 have L4:=ig (M:=model prog w) X hB
 unfold getAttr? getAttrBy? getAttrBy
 refine ag (wpAny_mkText (ag (iN (bv (ag (L0.at (ag (L1.at ?_))))))))
 have hx2:(cm "BaseException.__getattribute__" == cm "object.__getattribute__")=false:=by decide +kernel
 have hx1:(jd (aC C)&&cm "BaseException.__getattribute__" == cm "object.__getattribute__")=false:=by rw [hx2];rfl
 dsimp only
 rw [hx1,if_neg aj]
 unfold getAttrByItsOwn
 refine ag (show aI _ _ (dW (.ref C) "__getattr__") _ _ _ from L2.at ?_)
 refine ag (iN (bv ?_))
 have hx0:(false&&jd (cm "BaseException.__getattribute__"))=false:=rfl
 unfold callGetattribute
 rw [hx0,if_neg aj]
 unfold boundAndCalled
 rw [O2]
 refine ag (am ?_)
 refine dz (cL (by decide +kernel) F.entry_bexc_ga (check_slot (i := "BaseException.__getattribute__") (owner := "BaseException") (n := "__getattribute__") (by decide +kernel) (by decide +kernel) (L0.andThen L4) (F.args_bexc_ga _ _) ?_))
 unfold bi.«object.__getattribute__»
 refine ag (am (ag (am (ag (L0.at (ag (L3.at ?_)))))))
 refine ag (bv (dz (h ?_)))
 refine am ?_
 show aI _ _ (handedOut v) _ _ _
 rw [hW hh]
 exact am (am hq)
theorem Kw {a g:Value} (hc:(clsIn K C).isSome=true) (ha:findIn K (.ref C) name=some (some a)) (hg:specialIn K a "__get__" = some (some g)) (ht:takesIn K a=some true):findObj K C od name=some (.bind g a):=by
 obtain⟨cd,hc⟩:=Option.isSome_iff_exists.mp hc
 unfold findObj
 rw [hc,bQ,ha,bQ]
 simp [hg,ht]
theorem Vq {Q:Option Value->ah->Prop} (c:ECls K C) (X:K.In s.heap) (I:InstAt s.heap x ox C od) (h:Q (some (.ref C)) { s with toks:=s.toks+1 }):aI (model prog w) A (getAttr? (.ref x) "__class__") Q E s:=by
 have hf:findObj K C od "__class__" = some (.bind (.builtin "getset_descriptor.__get__") (.builtin "object.__class__")):=Kw (by obtain⟨cd,hc,_⟩:=c.cls;rw [hc];rfl) c.ca c.hn c.htk
 exact Zi (v:=.ref C) X I c.ga c.gt (c.sub (by decide +kernel)) hf rfl (fun q=>class_get (s:={ s with toks:=s.toks+1 }) (ox:=ox) (od:=od) X I (c.sub (by decide +kernel)) q) h
end
theorem Zz {K:aa} {x D:Addr} (c:ECls K D):KitX K (.ref x) (.ref D) (fun h=>∃ ox od,InstAt h x ox D od) where
 ty:=fun _ _ _ ⟨_,_,I⟩=>I.type
 it:=fun _ _ X _=>by
  obtain⟨cdD,hcD,_⟩:=c.cls
  unfold clsIn at hcD
  split at hcD
  ·rename_i c' d' cd' sl' ho
   intro A' Q' E' s' k q
   unfold isType loadHead
   exact ag (fN (k _ _ (X _ _ ho)) (am q))
  ·cases hcD
 ne:=fun h tp dd its n sl X htp=>by
  obtain⟨cdD,hcD,_⟩:=c.cls
  refine Bool.eq_false_iff.mpr fun q=>?_
  have e:D=tp:=Value.ref.inj (beq_iff_eq.mp q)
  subst e
  unfold clsIn at hcD
  split at hcD
  ·rename_i c' d' cd' sl' ho
   have z:=(X _ _ ho).symm.trans htp
   cases z
  ·cases hcD
 ca:=fun X ⟨_,_,I⟩ k=>Vq c X I k
noncomputable def ExcAt (H:Hp) (a C:Addr) (fs:List (Str×V)):Prop:=(fs=[]/\(H a=some (D6 a C none)\/FlO H a C none)) \/ ∃ dx,dx≠a/\(H a=some (D6 a C (some dx))\/FlO H a C (some dx))/\H dx=some (xdO dx fs)
inductive TyX (K:aa) (H:Hp) (x:V) (t:Value):Prop where
 | of (h:TyOf K H x t)
 | exc {a C:Addr} {fs:List (Str×V)} (ex:x=.ref a) (e:ExcAt H a C fs) (c:ECls K C) (et:t=.ref C)
 | sqT {a:Addr} {xs:List V} (ex:x=.ref a) (e:SqT K H a xs) (et:t=.type "tuple")
 | sqL {a:Addr} {xs:List V} (ex:x=.ref a) (e:SqL K H a xs) (et:t=.type "list")
section
variable {X:Cx} {pins:List (Addr×Obj)} {σ:St} {H:Hp} {s:ah} {A:aT} {E:Value->ah->Prop} {a C:Addr} {fs:List (Str×V)}
theorem Ic {dx:Option Addr} (I:Inv X pins σ H s) (e:H a=some (D6 a C dx)):∃ vs:Array Value,s.heap.get? a=some (Aq C dx vs)/\vs.size=6/\vs[1]? = some .none/\vs[2]? = some .none:=(I.hok a _ e).1
theorem Ze {dx:Option Addr} (I:Inv X pins σ H s) (e:H a=some (flO a C dx)):∃ vs:Array Value,s.heap.get? a=some (Aq C dx vs)/\vs.size=6/\vs[2]? = some .none:=(I.hok a _ e).1
theorem Ts {dx:Option Addr} (I:Inv X pins σ H s) (e:H a=some (D6 a C dx)\/FlO H a C dx):∃ vs:Array Value,s.heap.get? a=some (Aq C dx vs)/\vs.size=6:=by
 rcases e with e|e|e
 ·obtain⟨vs,h1,h2,_⟩:=Ic I e;exact⟨vs,h1,h2⟩
 ·obtain⟨vs,h1,h2,_⟩:=Ze I e;exact⟨vs,h1,h2⟩
 ·exact (I.hok a _ e).1
theorem aw7 {dx:Addr} (I:Inv X pins σ H s) (e:H dx=some (xdO dx fs)):fs.length<=1000 /\ ∃ mA,s.heap.Ns1 dx mA/\(∀ f,RelO (fs.lookup f) (mA f))/\cV mA (fs.map (·.1)):=(I.hok dx _ e).1
theorem ExcAt.inst (I:Inv X pins σ H s) (e:ExcAt H a C fs):∃ vs dx od,InstAt s.heap a (Aq C dx vs) C od/\(∀ o,od=some o -> ∀ name,∃ v,lookIn name o=some v/\RelO (fs.lookup name) v)/\(od=none->fs=[]):=by
 rcases e with ⟨rfl,e⟩|⟨dx,ne,e,ed⟩
 ·obtain⟨vs,h1,_⟩:=Ts I e
  exact⟨vs,none,none,⟨h1,rfl,rfl,aX⟩,fun o z=>(nomatch z),fun _=>rfl⟩
 ·obtain⟨vs,h1,_⟩:=Ts I e
  obtain⟨_,mA,hn,hr,_⟩:=aw7 I ed
  obtain⟨od,ho,hl⟩:=Gs hn
  refine⟨vs,some dx,some od,⟨h1,rfl,rfl,ho⟩,fun o z name=>?_,fun z=>nomatch z⟩
  cases z
  exact⟨_,hl name,hr name⟩
theorem Im {Q:Value->ah->Prop} {c:Value} {b:Bool} {x:V} {u t:Value} (I:Inv X pins σ H s) (rx:RelV x u) (ty:TyX X.K H x t) (e:ce X.K t c=some b) (h:∀ tk,Q (.bool b) { s with toks:=tk }) :
  aI (model X.prog X.w) A (call (.builtin "isinstance") [u,c]) Q E s:=by
 cases ty with
 | of ty=>exact Lm I rx ty e h
 | @exc a C fs ex ea cl et=>
  subst ex et
  cases (show u=aC a from rx)
  obtain⟨vs,dx,od,J,_⟩:=ea.inst I
  exact bz (Zz cl) I.kIn ⟨_,_,J⟩ e (fun z=>nomatch z) h
 | @sqT a xs ex q et=>
  subst ex et
  cases (show u=aC a from rx)
  obtain⟨_,_,⟨o,h1,h2,_⟩,_⟩:=I.tuple q
  exact bz iz I.kIn ⟨o,h1,h2⟩ e (fun z=>nomatch z) h
 | @sqL a xs ex q et=>
  subst ex et
  cases (show u=aC a from rx)
  obtain⟨_,_,⟨o,_,h1,h2,_⟩,_⟩:=I.list q
  exact bz fT I.kIn ⟨o,h1,h2⟩ e (fun z=>nomatch z) h
theorem Vr {b:Bool} {f:Str} {v:V} {Q:Value->ah->Prop} (I:Inv X pins σ H s) (e:ExcAt H a C fs) (c:ECls X.K C) (n:NoAttr X.K C f) (l:fs.lookup f=some v)
  (h:∀ u s',Inv X pins σ H s'->RelV v u->Q u s'):aI (model X.prog X.w) A (iS (.ref a) f b) Q E s:=by
 obtain⟨vs,dx,od,J,hl,hn⟩:=e.inst I
 obtain⟨cd,hc,_,hd⟩:=c.cls
 cases od with
 | none=>rw [hn rfl] at l;cases l
 | some o=>
  obtain⟨u?,h1,h2⟩:=hl o rfl f
  rw [l] at h2
  obtain⟨u,hu,ru⟩:=RelO.some_of h2
  subst hu
  refine ak1 I.kIn J c.ga c.gt (c.sub (by decide +kernel)) (ie (by unfold hasDictIn;rw [hc];exact hd) n rfl h1) (Li ru) (h u _ (I.tok _) ru)
noncomputable def bs9 (H:Hp) (a C:Addr) (f:Str) (y:V) (N:Hp->Prop):Prop:=
 (H a=some (D6 a C none) /\ ∀ dx,H dx=none->dx≠a->N (upd (upd H dx (xdO dx [(f,y)])) a (D6 a C (some dx)))) \/
 ∃ dx fs,dx≠a/\H a=some (D6 a C (some dx))/\H dx=some (xdO dx fs)/\fs.length<1000/\N (upd H dx (xdO dx (D7 f y fs)))
theorem Mm {P:aE} {w:bq} {H:Hp} {h:Heap} {dx:Option Addr} {vs:Array Value} (h1:h.get? a=some (Aq C dx vs)) (h2:vs.size=6) (h3:vs[1]? = some .none) (h4:vs[2]? = some .none):ObjOk P w H h a (D6 a C dx):=
 ⟨⟨vs,h1,h2,h3,h4⟩,⟨_,h1⟩,fun _ _ ⟨vs',q1,q2⟩ k=>⟨vs',k _ q1,q2⟩⟩
theorem Zd {P:aE} {w:bq} {H:Hp} {h:Heap} {dx:Option Addr} {vs:Array Value} (h1:h.get? a=some (Aq C dx vs)) (h2:vs.size=6) (h4:vs[2]? = some .none):ObjOk P w H h a (flO a C dx):=
 ⟨⟨vs,h1,h2,h4⟩,⟨_,h1⟩,fun _ _ ⟨vs',q1,q2⟩ k=>⟨vs',k _ q1,q2⟩⟩
theorem Zc {P:aE} {w:bq} {H:Hp} {h:Heap} {dx:Option Addr} {vs:Array Value} (h1:h.get? a=some (Aq C dx vs)) (h2:vs.size=6):ObjOk P w H h a (fcO a C dx):=
 ⟨⟨vs,h1,h2⟩,⟨_,h1⟩,fun _ _ ⟨vs',q1,q2⟩ k=>⟨vs',k _ q1,q2⟩⟩
theorem ai5 {P:aE} {w:bq} {H:Hp} {h:Heap} {dx:Addr} {mA:Str->Option Value} (z:fs.length<=1000) (h1:h.Ns1 dx mA) (h2:∀ f,RelO (fs.lookup f) (mA f)) (h3:cV mA (fs.map (·.1))):ObjOk P w H h dx (xdO dx fs):=
 ⟨⟨z,mA,h1,h2,h3⟩,(let ⟨o,_,_,e,_⟩:=h1;⟨o,e⟩),fun _ _ ⟨z',mB,q1,q2,q3⟩ k=>⟨z',mB,q1.at k,q2,q3⟩⟩
theorem Wk {f:Str} {y:V} {u:Value} {Q:Unit->ah->Prop} {N:Hp->Prop} (I:Inv X pins σ H s) (c:ECls X.K C) (n:NoAttr X.K C f) (ry:RelV y u) (h0:bs9 H a C f y N)
  (h:∀ H' s',Inv X pins σ H' s'->N H'->Q () s'):aI (model X.prog X.w) A (jh (.ref a) f u) Q E s:=by
 obtain⟨cd,hc,hp,hd⟩:=c.cls
 rcases h0 with ⟨e,hN⟩|⟨dx,fs,ne,e,ed,hz,hN⟩
 ·obtain⟨vs,h1,h2,h3,h4⟩:=Ic I e
  refine af0 I.kIn h1 c.sa hc hp hd n fun h' q1 q2 q3=>?_
  have fr:H s.heap.objs.size=none:=I.hok.fresh (ae _)
  have ane:s.heap.objs.size≠a:=fun z=>by rw [z,e] at fr;cases fr
  refine h _ _ ?_ (hN _ fr ane)
  obtain⟨o,es,ep,eo,hrest⟩:=id q2
  have eo1:(s.heap.push o).get? s.heap.objs.size=some o:=aF s.heap (Heap.get?_some_iff.mp eo).2
  have I1:=I.laid (a:=s.heap.objs.size) (o:=xdO s.heap.objs.size [(f,y)]) (h':=s.heap.push o) (t':=s.toks+2) (fun b u e=>af _ e) (ae _)
   (ai5 (by simp) (q2.at fun o' e'=>by rw [eo] at e';cases e';exact eo1) (fun g=>by
    show RelO (cW g [(f,y)]) (if g=f then some u else none)
    by_cases q:g=f
    ·rw [if_pos q,q];simp only [cW,beq_self_eq_true];exact ry
    ·rw [if_neg q];simp only [cW,beq_eq_false_iff_ne.mpr q];exact aX) (fun g hg=>by
    by_cases q:g=f
    ·rw [q];simp
    ·exact absurd (by show (if g=f then some u else none)=none;rw [if_neg q]) hg))
  exact I1.write (x:=a) (e:=a) (t':=s.toks+2) (by rw [Ak (cK ane),e];exact aX) (.inl rfl) (fun b u hb eb=>by
   by_cases hs:b=s.heap.objs.size
   ·rw [hs] at eb ⊢
    rw [eo1] at eb
    cases eb
    exact eo
   ·refine q3 b u hb ?_
    rcases Heap.get?_push_cases eb with z|z
    ·exact absurd z.1 hs
    ·exact z) ⟨_,q1⟩ (Mm q1 h2 h3 h4)
 ·obtain⟨vs,h1,h2,h3⟩:=Ic I e
  obtain⟨z,mA,hn,hr,wi⟩:=aw7 I ed
  refine ao9 (ns:=fs.map (·.1)) I.kIn h1 hn ne c.sa hc hp hd n wi (by rw [aw,bD];omega) fun h' q1 q2 q3=>?_
  refine h _ _ ?_ hN
  refine I.write (x:=dx) (e:=dx) (by rw [ed];exact aX) (.inl rfl) (fun b q hb z=>(q3.2 b hb).trans z) (let ⟨o,_,_,e',_⟩:=q2;⟨o,e'⟩) ?_
  refine ai5 ?_ q2 (fun g=>?_) (fun g hg=>?_)
  ·have:=El f y fs;omega
  ·show RelO ((D7 f y fs).lookup g) (if g=f then some u else mA g)
   rw [En]
   by_cases q:g=f
   ·rw [if_pos q,if_pos q];exact ry
   ·rw [if_neg q,if_neg q];exact hr g
  ·by_cases q:g=f
   ·rw [q];exact (Dl f y fs).1
   ·refine (Dl f y fs).2 g (wi g fun z=>hg ?_)
    show (if g=f then some u else mA g)=none
    rw [if_neg q];exact z
theorem Inv.madeX (I:Inv X pins σ H s) (C:Addr) (rest:List Value):Inv X pins σ (upd H (s.heap.objs.size+1) (D6 (s.heap.objs.size+1) C none)) { s with heap:=B5 s.heap C rest }:=by
 have hget:(B5 s.heap C rest).get? (s.heap.objs.size+1)=some (Aq C none #[.ref s.heap.objs.size,.none,.none,.none,.bool false,.none]):=by heap_get
 exact I.laid (t':=s.toks) (fun b u e=>af _ (af _ e)) (cJ _) (Mm hget rfl rfl rfl)
variable {CX:CXT} {k:Nat} {f:Addr} {fd:ai} {ps:List Str} {sp:Sp} {dvs:List V} {ds us:List Value} {vs:List V} {Q:VK}
theorem Rn (c:ECls X.K C) (hi:findIn X.K (.ref C) "__init__" = some (some (.builtin "ValueError.__init__"))) (I:Inv X pins σ H s) (r:Vals vs us) (hl:vs.length<=1000) (h:∀ a,H a=none->Q (.ref a) (upd H a (D6 a C none))) :
  aI (model X.prog X.w) X.A (call (.ref C) us) (EP X pins σ Q) X.xe s:=by
 obtain⟨nm,q,N,bs,bm,hdct,sn,sub,ab,col,dd,k0,k1,k2,k3,k5,hC,ht,_⟩:=c.obj
 obtain⟨hh,g,d,t,os⟩:=s
 refine dz (V0 ht (I.kIn _ _ hC) (looks_findIn I.kIn hi) (fun h' e M ee=>?_) (by rw [<- r.length,bD];omega))
 subst ee
 obtain⟨kp,_,t0,q1,_,_⟩:=M
 refine⟨.ref (hh.objs.size+1),upd H (hh.objs.size+1) (D6 (hh.objs.size+1) C none),?_,rfl,h _ (I.hok.fresh (cJ _))⟩
 exact I.laid (t':=t) kp (cJ _) (Mm q1 rfl rfl rfl)
theorem Wi (c:ECls X.K C) (hi:findIn X.K (.ref C) "__init__" = some (some (.ref f))) (hf:isFn X.K (.ref f)=true) (F:FnOk X.prog X.w X.K X.mg X.base CX k f fd ps sp) (hr:Room (k+1) X.A) (hb:Binds X.K fd ps ds) (hd:Vals dvs ds)
  (I:Inv X pins σ H s) (r:Vals vs us) (hl:vs.length<=1000) {EX:XK} (hx:∀ e s1 s' H1,Inv X pins σ H1 s1->CX X.stack H1 s1 EX e s'->X.xe e s')
  (h:∀ a,H a=none->sp (.ref a::(vs++dvs)) (upd H a (D6 a C none)) (fun v H2=>v=.non/\Q (.ref a) H2) EX) :
  aI (model X.prog X.w) X.A (call (.ref C) us) (EP X pins σ Q) X.xe s:=by
 obtain⟨nm,q,N,bs,bm,hdct,sn,sub,ab,col,dd,k0,k1,k2,k3,k5,hC,ht,_⟩:=c.obj
 have hq:=h (s.heap.objs.size+1) (I.hok.fresh (cJ _))
 have I2:=I.madeX C us
 have r2:Vals (V.ref (s.heap.objs.size+1)::(vs++dvs)) (aC (s.heap.objs.size+1)::(us++ds)):=.cons rfl (r.append hd)
 have hlen:(aC (s.heap.objs.size+1)::us++ds).length=ps.length:=by
  have e:=r2.length
  rw [F.len _ _ _ _ hq] at e
  exact e.symm
 refine dz (Z0 (f:=f) ht (I.kIn _ _ hC) (looks_findIn I.kIn hi) (fun self=>PySem.W.bind_fn I.kIn self (beq_iff_eq.mp hf)) (eO (F.run _ X.stack { s with heap:=B5 s.heap C us } _ ⟨aC (s.heap.objs.size+1)::us,[]⟩ (aC (s.heap.objs.size+1)::(us++ds)) _ _ EX (hr.make C us [])
  (I2.env0.make C us []) (hb _ (aC (s.heap.objs.size+1)::us) I2.kIn hlen) r2 hq) fun r s' hq'=>?_) (by rw [<- r.length,bD];omega))
 cases r with
 | error e=>exact hx e _ s' _ I2 hq'
 | ok fl=>
  cases fl with
  | ret u=>
   obtain⟨v,H',I3,rv,ev,q3⟩:=I2.after hq'
   subst ev
   exact⟨rv,⟨V.ref (s.heap.objs.size+1),H',I3,rfl,q3⟩⟩
  | next=>exact b6 hq'
  | brk=>exact b6 hq'
  | cont=>exact b6 hq'
end
end L2
namespace L2
open PySem PySem.Spec PyProof.Rows
section
variable {X:Cx} {pins:List (Addr×Obj)} {σ σ0:St} {H H0:Hp} {s s0:ah} {p:Addr} {kvs:List (Key×V)} {o:Obj}
noncomputable def Vc (o:Obj) (ep:Nat):Prop:=∃ es,o.data=.dict es ep
theorem Inv.froze (I:Inv X pins σ H s) (h:H p=some (.dK kvs)):∃ ob ep,s.heap.get? p=some ob/\Vc ob ep/\Inv X pins σ (upd H p (.frz ob (.dK kvs))) s:=by
 have K:=I.hok p _ h
 obtain⟨z,y,vs,r,ob,es,ep,e,c,d,q⟩:=id K
 refine⟨ob,ep,e,⟨es,d⟩,?_⟩
 exact I.write (x:=p) (e:=p) (t':=s.toks) (h':=s.heap) (by rw [h];trivial) (.inl rfl) (fun b u _ q=>q) ⟨ob,e⟩ ⟨e,K⟩
theorem Inv.thaw (I0:Inv X pins σ0 H0 s0) (h0:H0 p=some (.dK kvs)) (I:Inv X pins σ H s) (h:H p=some (.frz o (.dK kvs))):Inv X pins σ (upd H p (.dK kvs)) s:=by
 have ne:∀ b,H b=none->b≠p:=fun b e z=>by rw [z,h] at e;cases e
 have ntup:∀ b xs,H b=some (.tup xs)->b≠p:=fun b xs e z=>by rw [z,h] at e;cases e
 have nown:∀ b c,H b=some (.own c)->b≠p:=fun b c e z=>by rw [z,h] at e;cases e
 refine⟨I.ok,I.os,I.bare,⟨I.base.keep,I.base.slot,fun b ob e n hx=>?_,I.base.there,fun b xs e=>?_,fun b ob u e=>?_,fun b ps e=>?_⟩,I.loc,I.cell,?_,fun x c e=>?_,fun q hq=>?_,fun b u e=>?_,I.len⟩
 ·have q:=I.base.free b ob e n hx
  rw [Ak (ne b q)];exact q
 ·have q:=I.base.tups b xs e
  rw [Ak (ntup b xs q)];exact q
 ·have q:=I.base.frzs b ob u e
  have n:b≠p:=fun z=>by
   have q0:=I0.base.frzs b ob u e
   rw [z,h0] at q0;cases q0
  rw [Ak n];exact q
 ·obtain⟨more,q⟩:=I.base.tbls b ps e
  have n:b≠p:=fun z=>by rw [z,h] at q;cases q
  exact⟨more,by rw [Ak n];exact q⟩
 ·rw [Ak (ne _ I.free)];exact I.free
 ·have q:=I.freeC x c e
  rw [Ak (ne _ q)];exact q
 ·obtain⟨a,b,c⟩:=I.pin q hq
  exact⟨a,by rw [Ak (ne _ b)];exact b,c⟩
 ·by_cases z:b=p
  ·subst z
   rw [Ad] at e
   cases e
   exact (I.hok b _ h).2
  ·rw [Ak z] at e
   exact (I.hok b u e).stay (fun _ _ _ q=>q) (fun c q=>by rw [Ak (nown c b q)];exact q) fun c xs q=>by rw [Ak (ntup c xs q)];exact q
theorem Thaw.inv {P:Hp->Prop} (I0:Inv X pins σ0 H0 s0) (I:Inv X pins σ H s) (t:Thaw H0 H P):∃ H',Inv X pins σ H' s/\P H':=by
 rcases t with t|⟨p,o,kvs,h0,h,t⟩
 ·exact⟨H,I,t⟩
 ·exact⟨_,I0.thaw h0 I h,t⟩
theorem Inv.kdict (I:Inv X pins σ H s) (h:H p=some (.frz o (.dK kvs))) {ep:Nat} (he:Vc o ep):∃ vs,KV kvs vs/\s.heap.DictAt (Ay X.prog X.w) p vs ep/\(p==cS)=false:=by
 obtain⟨e1,z,y,vs,r,ob,es,ep',e,c,d,q⟩:=I.hok p _ h
 obtain⟨es',d'⟩:=he
 rw [e1] at e
 cases e
 have d2:=d
 rw [d'] at d2
 cases d2
 exact⟨vs,r,⟨o,_,e1,c,d,q⟩,y⟩
end
noncomputable def Itd (p:Addr) (o:Obj) (kvs:List (Key×V)):It:=
 ⟨fun i H=>H p=some (.frz o (.dK kvs))/\i<kvs.length,fun i H x H'=>H'=H /\ ∃ k v,kvs[i]? = some (k,v)/\x=kV k,fun i H=>H p=some (.frz o (.dK kvs))/\kvs.length<=i⟩
theorem Ph:∀ {kvs:List (Key×V)} {vs:List (Key×Value)} {i:Nat} {k:Key} {v:V},KV kvs vs->kvs[i]? = some (k,v) -> ∃ u,vs[i]? = some (k,u)/\RelV v u
 | _,_,0,k,v,.cons (b:=q) r _,e=>by
  simp only [dZ,Option.some.injEq] at e
  subst e
  exact⟨q.2,congrArg some (Prod.ext r.1.symm rfl),r.2⟩
 | _,_,i+1,k,v,.cons r t,e=>by
  simp only [cj] at e ⊢
  exact Ph t e
theorem as8 {P:aE} {w:bq} {k:Key} {u:Value} (h:(Ay P w).is k u=true):RelV (kV k) u:=by
 cases k with
 | inl i=>obtain⟨t,rfl⟩:=Value.isInt_shape (show jb i u=true from h);exact⟨t,rfl⟩
 | inr z=>obtain⟨t,rfl⟩:=il (show iF z u=true from h);exact⟨t,rfl⟩
theorem Wo {P:aE} {w:bq} {K:aa} {tg:Expr} (p it:Addr) (o:Obj) (kvs:List (Key×V)) {ep:Nat} (he:Vc o ep):Ov P w K tg (Itd p o kvs) [it] it (fun i h=>h.IsKeyIter it p i kvs.length ep) where
 mem:=by simp
 obj:=fun i h st b hb=>by
  have e:b=it:=by simpa using hb
  subst e
  obtain⟨o,e,c,d⟩:=st
  exact⟨o,e,fun v z=>by rw [d] at z;cases z⟩
 keep:=fun i h h' st k=>st.at fun o e=>k it (by simp) o e
 item:=by
  intro X hP hw hK hc i pins s σ H E I hf st hg
  subst hP hw hK
  obtain⟨hH,hi⟩:=hg
  obtain⟨vs,rel,hd,hm⟩:=I.kdict hH he
  obtain⟨f0,f1,f2,f3,f4,f5⟩:=hf it (by simp)
  obtain⟨⟨k,v⟩,hx⟩:∃ q,kvs[i]? = some q:=⟨kvs[i],by simp [hi]⟩
  obtain⟨u,hu,_⟩:=Ph rel hx
  have hl:kvs.length=vs.length:=rel.length
  rw [hl] at st
  refine wpAny_pyNext_dict_item st hd hu fun key h' hk st' sb=>?_
  have I1:Inv X pins σ H { s with heap:=h' }:=I.turned (t':=s.toks) (fun b o hb e=>sb.extBut b o hb e) f0 f1 f3 f4 f5
  obtain⟨o1,e,c,d⟩:=id st'
  exact⟨key,rfl,Lg (s:={ s with heap:=h' }) e c d (by decide) ⟨kV k,H,I1,as8 hk,⟨rfl,k,v,hx,rfl⟩,by rw [hl];exact st',fun b hb=>(hf b hb).1⟩⟩
 done:=by
  intro X hP hw hK hc i pins s σ H E I hf st hg
  subst hP hw hK
  obtain⟨hH,hi⟩:=hg
  obtain⟨vs,rel,hd,hm⟩:=I.kdict hH he
  obtain⟨f0,f1,f2,f3,f4,f5⟩:=hf it (by simp)
  have hl:kvs.length=vs.length:=rel.length
  rw [hl] at st
  exact wpAny_pyNext_dict_end (I.ok.hd hc) st hd (by simp;omega) fun h' eb=>⟨rfl,I.turned (t':=s.toks) (fun b o hb e=>eb b o hb e) f0 f1 f3 f4 f5⟩
 self:=fun _ _ _ _ _ st h=>wpAny_pyIter_keyiter st h
theorem aj7 {X:Cx} {tg:Expr} {pins:List (Addr×Obj)} {σ:St} {H:Hp} {s:ah} {R:It->Hp->Prop} {E:Value->ah->Prop} {p:Addr} {o:Obj} {kvs:List (Key×V)} (I:Inv X pins σ H s) (h:H p=some (.frz o (.dK kvs)))
  (q:R (Itd p o kvs) H):aI (model X.prog X.w) X.A (pyIter (.ref p)) (PIE X pins σ tg R) E s:=by
 have he:∃ ep,Vc o ep:=by
  obtain⟨e1,z,y,vs,r,ob,es,ep,e,c,d,_⟩:=I.hok p _ h
  rw [e1] at e;cases e
  exact⟨ep,es,d⟩
 obtain⟨ep,he⟩:=he
 obtain⟨vs,rel,hd,hm⟩:=I.kdict h he
 refine wpAny_pyIter_dict hm hd ?_
 refine⟨s.heap.objs.size,[s.heap.objs.size],_,_,H,rfl,I.kept (t':=s.toks) fun b o e=>af _ e,Wo p _ o kvs he,⟨_,aF _ rfl,rfl,by rw [rel.length];rfl⟩,fun b hb=>?_,q⟩
 have e:b=s.heap.objs.size:=by simpa using hb
 subst e
 exact I.fpOk (ae _) (I.hok.fresh (ae _))
end L2
namespace PySem
section
variable {prog:aE} {w:bq} {A:aT} {E:Value->ah->Prop} {s:ah}
variable {κ:Type} [DecidableEq κ] {knd:KeyKind prog w κ} {d it:Addr} {ep i:Nat} {kvs:List (κ×Value)}
end
end PySem
namespace L2
open PySem PySem.Spec PyProof.Rows
end L2
namespace PySem
open PyProof.Rows
section
variable {κ:Type} [DecidableEq κ]
end
section
variable {prog:aE} {w:bq} {A:aT} {R:g6->ah->Prop} {I:Addr} {fp wr:List Addr} {G:Array hV->Array hV->Prop} {P:Nat->Value->Prop} {St:Nat->ah->Prop} {κ:Type} [DecidableEq κ] {knd:KeyKind prog w κ} {ks:List κ}
end
section
variable {prog:aE} {w:bq} {A:aT} {E:Value->ah->Prop} {s:ah} {κ:Type} [DecidableEq κ] {knd:KeyKind prog w κ} {ks:List κ}
end
end PySem
namespace L2
open PySem PySem.Spec PyProof.Rows
section
variable {X:Cx} {e:Expr} {de:DE} {p p2 pos pos2:Pos}
end
end L2
namespace PySem
open PyProof.Rows
section
variable {prog:aE} {w:bq} {A:aT} {E:Value->ah->Prop} {s:ah} {κ:Type} [DecidableEq κ] {knd:KeyKind prog w κ} {d it:Addr} {ep i:Nat} {kvs:List (κ×Value)}
end
end PySem
namespace L2
open PySem PySem.Spec PyProof.Rows
section
variable {X:Cx} {pins:List (Addr×Obj)} {σ:St} {A:aT} {E:Value->ah->Prop} {R:g6->ah->Prop} {p it S:Addr} {ep:Nat} {kvs:List (Key×V)} {vs:List (Key×Value)} {res:Value}
end
section
variable {X:Cx} {pins:List (Addr×Obj)} {σ:St} {A:aT} {E:Value->ah->Prop}
end
section
variable {X:Cx}
noncomputable def at6 (K:aa):R2:=fun x y H Q=>∃ a b ys,x=.ref a/\y=.ref b/\SqT K H a []/\SqT K H b ys/\Q (.ref b) H
theorem al5:OpR X (ef .Add) (at6 X.K):=by
 intro pins s σ H x y v u Q I rx ry h
 obtain⟨a,b,ys,rfl,rfl,ha,hb,q⟩:=h
 cases rx
 cases ry
 obtain⟨its,r1,p1,_⟩:=I.tuple ha
 obtain⟨its2,r2,p2,_⟩:=I.tuple hb
 cases r1
 obtain⟨⟨c1,d1,da1,s1⟩,ho,hc,n,hd⟩:=id p1
 obtain⟨⟨c2,d2,da2,s2⟩,ho2,hc2,n2,hd2⟩:=id p2
 simp only at hc hd hc2 hd2
 subst hc hd hc2 hd2
 exact i5 ⟨_,ho,rfl⟩ ⟨_,ho2,rfl⟩ gw iK eI d9 (dR _ _)
   (tuple_addW0 a b _ _ n n2 d1 d2 s1 s2 rfl) ⟨ho,ho2,⟨.ref b,H,I,rfl,q⟩⟩
theorem Ue (hu:X.A.units+64<cLine):IxR X (fun x y H Q=>∃ a v,x=.ref a/\E5 H a y (some v)/\Q v H):=by
 intro value slice pins s σ H x y v u Q I rx ry h hs
 obtain⟨a,w',rfl,g,q⟩:=h
 cases rx
 exact tail_any (Pa I g) PySem.F.slot_dict_getitem.lookup (Vo (by omega) I g ry fun w1 s' I' r'=>⟨w',H,I',r',q⟩) hs
end
end L2
namespace PySem
open PyProof.Rows
section
variable {prog:aE} {w:bq} {A:aT} {E:Value->ah->Prop} {s:ah}
end
end PySem
namespace L2
open PySem PySem.Spec PyProof.Rows
section
variable {X:Cx} {pins:List (Addr×Obj)} {σ:St} {A:aT} {E:Value->ah->Prop} {R:g6->ah->Prop} {z TI TO i1 i2 l t S:Addr} {xs ys:List V} {res:Value}
end
section
variable {X:Cx}
theorem ai9 {y:V} {v:Value} (r:RelV y v) (f:Bd y=true):a03 v=some y:=by
 cases y with
 | non=>cases r;rfl
 | bl b=>cases r;rfl
 | int i=>obtain⟨t,rfl⟩:=r;rfl
 | str z=>obtain⟨t,rfl⟩:=r;rfl
 | _=>cases f
noncomputable def eqF (y:V) (v:Value):Bool:=match a03 v with
 | some x=>eqV x y
 | none=>false
theorem ap7 {ys:List V} {us:List Value} (r:Vals ys us):∀ {i:Nat} {u:Value},us[i]? = some u -> ∃ y,ys[i]? = some y/\RelV y u:=by
 induction r with
 | nil=>intro i u e;simp at e
 | @cons y v ys us h t ih=>
  intro i u e
  cases i with
  | zero=>rw [dZ] at e;cases e;exact⟨y,rfl,h⟩
  | succ i=>rw [cj] at e;exact ih e
noncomputable def Jf:V->List V->Hp->VK->Prop:=fun x xs H Q=>∃ p ys y,x=.ref p/\xs=[y]/\H p=some (.lst ys)/\Bd y=true/\ys.all Bd=true /\ ∃ j:Nat,j<ys.length/\eqV (ys.getD j .non) y=true/\(∀ m,m<j->eqV (ys.getD m .non) y=false)/\Q (.int j) H
theorem Z7:MtR X "list.index" Jf:=by
 intro pins s σ H x xs v us Q I rx rs h
 obtain⟨p,ys,y,rfl,rfl,hp,fy,fs,j,hj,e1,e2,q⟩:=h
 cases rx
 obtain⟨u,rfl,ru⟩:=rs.one
 obtain⟨hz,its,n,r,e⟩:=I.hok p _ hp
 have hl:=r.length
 have at_:∀ (m:Nat) (hm:m<its.toArray.size),eqF y its.toArray[m]=eqV (ys.getD m .non) y/\RelV (ys.getD m .non) its.toArray[m]/\Bd (ys.getD m .non)=true:=fun m hm=>by
  have hm':m<its.length:=by simpa using hm
  obtain⟨y',h1,h2⟩:=ap7 r (i:=m) (u:=its[m]) (aq hm')
  have f':Bd y'=true:=List.all_eq_true.mp fs y' (bC h1)
  have g:ys.getD m .non=y':=by rw [ar,h1];rfl
  rw [g]
  have e3:its.toArray[m]=its[m]:=by simp
  rw [e3]
  refine⟨?_,h2,f'⟩
  unfold eqF
  rw [ai9 h2 f']
 have hs:its.toArray.size=ys.length:=by rw [al];omega
 refine fW gd ⟨_,e,rfl⟩ PySem.F.entry_list_index (PySem.F.args_list_index_2 _ _)
  (MeetsSeq.list_index p its.toArray n u (eqF y) (fun z hz=>?_) j (by omega) ?_ (by rw [(at_ j (by omega)).1];exact e1) (fun m hm hlt=>by rw [(at_ m hm).1];exact e2 m hlt)) ⟨e,?_⟩
 ·obtain⟨m,hm,rfl⟩:=Array.mem_iff_getElem.mp hz
  obtain⟨a1,a2,a3⟩:=at_ m hm
  rw [a1]
  exact fun prog w A E s Q hq=>Mj (A:=A) (s:=s) a2 ru a3 fy prog w E Q hq
 ·have:=bD
  have h3:(sizeLine:Int)<2 ^ 63 - 1:=by decide
  omega
 ·exact⟨.int j,H,I.tok _,⟨_,rfl⟩,q⟩
end
section
variable {prog:aE} {w:bq} {A:aT} {E:Value->ah->Prop} {s:ah}
end
section
variable {X:Cx} {pins:List (Addr×Obj)} {σ:St} {H:Hp} {s:ah} {Q:VK}
end
open Sem (wp)
section
variable {M:Model} {A:aT} {E:Value->ah->Prop} {env:Env}
variable {nm q:Str} {C N:Addr} {bs bm:List Value} {hdct:Bool} {sn:List Str} {sub:List Value} {ab:Bool} {col:Option Bool} {dd:Option Addr} {k0 k1 k2 k3 k5:Option Value} {newId:String}
end
section
variable {X:Cx} {e:Expr} {te:TE} {pos:Pos}
noncomputable def Rj (K:aa) (R:EK):VK:=fun x H=>match x with
 | .ref a=>∃ C dx,H a=some (D6 a C dx)/\ECls K C/\R a (upd H a (flO a C dx))
 | _=>False
theorem ac5 {Ex:St->EK} (m:Meets X Ex) (hh:X.A.handled=none) (he:PE X e te):PS X (.Raise (some e) none pos) (fun _ σ H=>te σ H (Rj X.K (Ex σ))):=by
 intro pins s σ H D I h
 rw [arm_exec_Raise]
 show aI _ _ (do iW pos;je X.env (some (do let v <- eval e X.env;iW pos;pure v)) none) _ _ s
 refine ag (cZ ?_)
 unfold je
 refine ag (ag (thn (he pins s σ H _ I h) fun v s1 ⟨x,H1,I1,r1,q1⟩=>ag (cZ (am ?_))))
 cases x with
 | ref a=>
  cases r1
  obtain⟨C,dx,ea,c,q⟩:=q1
  obtain⟨vs,g1,g2,g3,g4⟩:=Ic I1 ea
  obtain⟨nm,qn,N,bs,bm,hdct,sn,sub,ab,col,dd,k0,k1,k2,k3,k5,hl,ht,hd⟩:=c.obj
  have hC:=I1.kIn _ _ hl
  have hb:bm.contains (.type "BaseException")=true:=Bh ht (by decide +kernel)
  have I2:Inv X pins σ (upd H1 a (flO a C dx)) s1:=by
   have:=I1.write (x:=a) (e:=a) (h':=s1.heap) (t':=s1.toks) (o:=flO a C dx) (by rw [ea];exact aX) (.inl rfl) (fun b u _ z=>z) ⟨_,g1⟩ (Zd g1 g2 g4)
   exact this
  have hx:=m pins σ _ s1 a I2 ⟨C,dx,vs,.inl Ad,g1,g2,.inl g3⟩ q
  have hcB:(aC C::bm).contains (.type "BaseException")=true:=by rw [a_,hb,dQ]
  obtain⟨hp,g,d,tk,os⟩:=s1
  repeat (first|with_reducible refine cb g1 rfl g3 ?_|with_reducible refine aP g1 ?_|with_reducible refine aP hC ?_|(with_reducible refine bL hC ?_;rw [hcB])|wp_step)
  exact wpAny_raiseNew_none hh hx
 | _=>exact (show False from q1).elim
end
end L2
namespace L2
open PySem PySem.Spec PyProof.Rows
inductive Dt where
 | at_ (v:V)
 | lst (l:List Dt)
 | tup (l:List Dt)
mutual
noncomputable def deq:Dt->Dt->Bool
 | .at_ v,.at_ w=>eqV v w
 | .lst xs,.lst ys=>Gk xs ys
 | .tup xs,.tup ys=>Gk xs ys
 | _,_=>false
noncomputable def Gk:List Dt->List Dt->Bool
 | [],[]=>true
 | x::xs,y::ys=>deq x y&&Gk xs ys
 | _,_=>false
end
mutual
noncomputable def dep:Dt->Nat
 | .at_ _=>0
 | .lst l=>B3 l+1
 | .tup l=>B3 l+1
noncomputable def B3:List Dt->Nat
 | []=>0
 | x::xs=>jl (dep x) (B3 xs)
end
mutual
noncomputable def At (K:aa) (H:Hp):Dt->V->Prop
 | .at_ v,x=>x=v/\Bd v=true
 | .lst ds,x=>∃ a xs,x=.ref a/\SqL K H a xs/\AtL K H ds xs
 | .tup ds,x=>∃ a xs,x=.ref a/\SqT K H a xs/\AtL K H ds xs
noncomputable def AtL (K:aa) (H:Hp):List Dt->List V->Prop
 | [],xs=>xs=[]
 | d::ds,xs=>∃ y ys,xs=y::ys/\At K H d y/\AtL K H ds ys
end
theorem AtL.length {K:aa} {H:Hp}:∀ {ds:List Dt} {xs:List V},AtL K H ds xs->xs.length=ds.length
 | [],xs,h=>by unfold AtL at h;subst h;rfl
 | d::ds,xs,h=>by
  unfold AtL at h
  obtain⟨y,ys,rfl,_,h2⟩:=h
  rw [aS,aS,AtL.length h2]
theorem At.pl {K:aa} {H:Hp}:∀ {d:Dt} {x:V},At K H d x->x.pl=true
 | .at_ v,x,h=>by
  unfold At at h
  obtain⟨h1,f⟩:=h
  subst h1
  cases x <;> first|rfl|cases f
 | .lst l,x,h=>by unfold At at h;obtain⟨a,xs,h1,_⟩:=h;subst h1;rfl
 | .tup l,x,h=>by unfold At at h;obtain⟨a,xs,h1,_⟩:=h;subst h1;rfl
theorem Za {v:V} (h:Bd v=true):eqV v v=true:=by
 cases v <;> first|rfl|(exact beq_self_eq_true _)|exact absurd (show false=true from h) aj
mutual
theorem Dh {K:aa} {H:Hp}:∀ {d:Dt} {x:V},At K H d x->deq d d=true
 | .at_ v,x,h=>by unfold At at h;unfold deq;exact Za h.2
 | .lst l,x,h=>by unfold At at h;obtain⟨a,xs,_,_,h⟩:=h;unfold deq;exact Gm h
 | .tup l,x,h=>by unfold At at h;obtain⟨a,xs,_,_,h⟩:=h;unfold deq;exact Gm h
theorem Gm {K:aa} {H:Hp}:∀ {ds:List Dt} {xs:List V},AtL K H ds xs->Gk ds ds=true
 | [],xs,h=>by unfold Gk;rfl
 | d::ds,xs,h=>by
  unfold AtL at h
  obtain⟨y,ys,rfl,h1,h2⟩:=h
  unfold Gk
  rw [Dh h1,Gm h2]
  rfl
end
theorem Ei:∀ {xs ys:List Dt},xs.length≠ys.length->Gk xs ys=false
 | [],[],h=>absurd rfl h
 | [],_::_,_=>by unfold Gk;rfl
 | _::_,[],_=>by unfold Gk;rfl
 | x::xs,y::ys,h=>by
  unfold Gk
  rw [Ei (xs:=xs) (ys:=ys) (fun e=>h (by rw [aS,aS,e])),hX]
theorem Cz (z:Dt):∀ {xs ys:List Dt},xs.length=ys.length->Gk xs ys=(cB xs.length).all fun j=>deq (xs.getD j z) (ys.getD j z)
 | [],[],_=>by unfold Gk;rfl
 | [],_::_,h=>by simp at h
 | _::_,[],h=>by simp at h
 | x::xs,y::ys,h=>by
  unfold Gk
  rw [aS,List.range_succ_eq_map,bj,List.all_map,Cz z (xs:=xs) (ys:=ys) (by simpa using h)]
  rfl
section
variable {X:Cx} {pins:List (Addr×Obj)} {σ:St} {H:Hp} {s:ah}
theorem Pp {a:Addr} {xs ys:List V} (I:Inv X pins σ H s) (h:SqL X.K H a xs) (h':SqT X.K H a ys):False:=by
 obtain⟨its,r,⟨o,n,e,c,_,d⟩,_⟩:=I.list h
 obtain⟨its',r',⟨o',e',c',n',d'⟩,_⟩:=I.tuple h'
 rw [e] at e';cases e'
 rw [c] at c'
 injection c' with c'
 exact absurd c' (by decide)
mutual
theorem L8 (I:Inv X pins σ H s):∀ {d d':Dt} {x:V},At X.K H d x->At X.K H d' x->d=d'
 | .at_ v,.at_ w,x,h,h'=>by unfold At at h h';rw [<- h.1,<- h'.1]
 | .at_ v,.lst l,x,h,h'=>by
  unfold At at h h'
  obtain⟨a,xs,rfl,_⟩:=h'
  rw [<- h.1] at h
  exact absurd (show false=true from h.2) aj
 | .at_ v,.tup l,x,h,h'=>by
  unfold At at h h'
  obtain⟨a,xs,rfl,_⟩:=h'
  rw [<- h.1] at h
  exact absurd (show false=true from h.2) aj
 | .lst l,.at_ v,x,h,h'=>by
  unfold At at h h'
  obtain⟨a,xs,rfl,_⟩:=h
  rw [<- h'.1] at h'
  exact absurd (show false=true from h'.2) aj
 | .tup l,.at_ v,x,h,h'=>by
  unfold At at h h'
  obtain⟨a,xs,rfl,_⟩:=h
  rw [<- h'.1] at h'
  exact absurd (show false=true from h'.2) aj
 | .lst l,.lst l',x,h,h'=>by
  unfold At at h h'
  obtain⟨a,xs,rfl,q,h⟩:=h
  obtain⟨a',xs',e,q',h'⟩:=h'
  cases e
  rw [I.list_inj q q'] at h
  rw [L7 I h h']
 | .tup l,.tup l',x,h,h'=>by
  unfold At at h h'
  obtain⟨a,xs,rfl,q,h⟩:=h
  obtain⟨a',xs',e,q',h'⟩:=h'
  cases e
  rw [I.tuple_inj q q'] at h
  rw [L7 I h h']
 | .lst l,.tup l',x,h,h'=>by
  unfold At at h h'
  obtain⟨a,xs,rfl,q,h⟩:=h
  obtain⟨a',xs',e,q',h'⟩:=h'
  cases e
  exact (Pp I q q').elim
 | .tup l,.lst l',x,h,h'=>by
  unfold At at h h'
  obtain⟨a,xs,rfl,q,h⟩:=h
  obtain⟨a',xs',e,q',h'⟩:=h'
  cases e
  exact (Pp I q' q).elim
theorem L7 (I:Inv X pins σ H s):∀ {ds ds':List Dt} {xs:List V},AtL X.K H ds xs->AtL X.K H ds' xs->ds=ds'
 | [],[],_,_,_=>rfl
 | [],_::_,_,h,h'=>by unfold AtL at h h';obtain⟨y,ys,e,_⟩:=h';rw [h] at e;cases e
 | _::_,[],_,h,h'=>by unfold AtL at h h';obtain⟨y,ys,e,_⟩:=h;rw [h'] at e;cases e
 | d::ds,d'::ds',xs,h,h'=>by
  unfold AtL at h h'
  obtain⟨y,ys,rfl,h1,h2⟩:=h
  obtain⟨y',ys',e,h1',h2'⟩:=h'
  cases e
  rw [L8 I h1 h1',L7 I h2 h2']
end
theorem Lf {A:aT} {v:V} {u:Value} {a:Addr} {its:Array Value} (f:Bd v=true) (r:RelV v u) (hl:s.heap.IsList a its) (hu:A.units<cLine):bc A s u (.ref a) false/\bc A s (.ref a) u false:=by
 cases v with
 | non=>cases r;exact⟨.none_list hl hu,.list_none hl hu⟩
 | bl b=>cases r;exact⟨.bool_list b hl hu,.list_bool b hl hu⟩
 | int i=>obtain⟨t,rfl⟩:=r;exact⟨.int_list i t hl hu,.list_int i t hl hu⟩
 | str i=>obtain⟨t,rfl⟩:=r;exact⟨.str_list i t hl hu,.list_str i t hl hu⟩
 | _=>exact absurd (show false=true from f) aj
theorem Id {A:aT} {v:V} {u:Value} {a:Addr} {its:Array Value} (f:Bd v=true) (r:RelV v u) (hl:s.heap.IsTuple a its) (hu:A.units<cLine):bc A s u (.ref a) false/\bc A s (.ref a) u false:=by
 cases v with
 | non=>cases r;exact⟨.none_tuple hl hu,.tuple_none hl hu⟩
 | bl b=>cases r;exact⟨.bool_tuple b hl hu,.tuple_bool b hl hu⟩
 | int i=>obtain⟨t,rfl⟩:=r;exact⟨.int_tuple i t hl hu,.tuple_int i t hl hu⟩
 | str i=>obtain⟨t,rfl⟩:=r;exact⟨.str_tuple i t hl hu,.tuple_str i t hl hu⟩
 | _=>exact absurd (show false=true from f) aj
mutual
theorem Y8 (I:Inv X pins σ H s):∀ (d d':Dt) (A:aT) (x y:V) (u v:Value),At X.K H d x->At X.K H d' y->RelV x u->RelV y v->A.units+dep d<cLine->bc A s u v (deq d d')
 | .at_ p,.at_ q,A,x,y,u,v,h,h',r,r',hu=>by
  unfold At at h h';unfold deq
  obtain⟨rfl,f⟩:=h
  obtain⟨rfl,f'⟩:=h'
  exact Mj r r' f f'
 | .at_ p,.lst l,A,x,y,u,v,h,h',r,r',hu=>by
  unfold At at h h';unfold deq
  obtain⟨rfl,f⟩:=h
  obtain⟨a,xs,rfl,q,_⟩:=h'
  obtain⟨its,_,pl,_⟩:=I.list q
  cases r'
  exact (Lf f r pl.isList (by omega)).1
 | .at_ p,.tup l,A,x,y,u,v,h,h',r,r',hu=>by
  unfold At at h h';unfold deq
  obtain⟨rfl,f⟩:=h
  obtain⟨a,xs,rfl,q,_⟩:=h'
  obtain⟨its,_,pl,_⟩:=I.tuple q
  cases r'
  exact (Id f r pl (by omega)).1
 | .lst l,.at_ p,A,x,y,u,v,h,h',r,r',hu=>by
  unfold At at h h';unfold deq
  obtain⟨rfl,f⟩:=h'
  obtain⟨a,xs,rfl,q,_⟩:=h
  obtain⟨its,_,pl,_⟩:=I.list q
  cases r
  exact (Lf f r' pl.isList (by omega)).2
 | .tup l,.at_ p,A,x,y,u,v,h,h',r,r',hu=>by
  unfold At at h h';unfold deq
  obtain⟨rfl,f⟩:=h'
  obtain⟨a,xs,rfl,q,_⟩:=h
  obtain⟨its,_,pl,_⟩:=I.tuple q
  cases r
  exact (Id f r' pl (by omega)).2
 | .lst l,.tup l',A,x,y,u,v,h,h',r,r',hu=>by
  unfold At at h h';unfold deq
  obtain⟨a,xs,rfl,q,_⟩:=h
  obtain⟨b,ys,rfl,q',_⟩:=h'
  obtain⟨its,_,pl,_⟩:=I.list q
  obtain⟨its',_,pl',_⟩:=I.tuple q'
  cases r;cases r'
  exact .list_tuple pl.isList pl' (by omega)
 | .tup l,.lst l',A,x,y,u,v,h,h',r,r',hu=>by
  unfold At at h h';unfold deq
  obtain⟨a,xs,rfl,q,_⟩:=h
  obtain⟨b,ys,rfl,q',_⟩:=h'
  obtain⟨its,_,pl,_⟩:=I.tuple q
  obtain⟨its',_,pl',_⟩:=I.list q'
  cases r;cases r'
  exact .tuple_list pl pl'.isList (by omega)
 | .lst l,.lst l',A,x,y,u,v,h,h',r,r',hu=>by
  by_cases e:x=y
  ·subst e
   have:=L8 I h h'
   rw [<- this,Dh h]
   have hx:∃ a,x=.ref a:=by unfold At at h;obtain⟨a,_,e,_⟩:=h;exact⟨a,e⟩
   obtain⟨a,rfl⟩:=hx
   cases r;cases r'
   exact .same _
  ·unfold At at h h';unfold deq
   unfold dep at hu
   obtain⟨a,xs,rfl,q,h⟩:=h
   obtain⟨b,ys,rfl,q',h'⟩:=h'
   obtain⟨its,ri,pl,_⟩:=I.list q
   obtain⟨its',ri',pl',_⟩:=I.list q'
   cases r;cases r'
   have ne:a≠b:=fun z=>e (by rw [z])
   have e1:=h.length
   have e2:=h'.length
   have e3:=ri.length
   have e4:=ri'.length
   refine .of_refs ne ?_
   by_cases hl:l.length=l'.length
   ·rw [Cz (.lst []) hl]
    have hsz:its.toArray.size=l.length:=by simp;omega
    rw [<- hsz]
    exact .lists pl.isList pl'.isList (by simp;omega) (by omega) fun j h1 h2=>by
     have:=Ft I l l' A.in1 xs ys its its' h h' ri ri' (by show A.units+1+B3 l<cLine;omega) j (by simpa using h1) (by simpa using h2)
     simpa using this
   ·rw [Ei hl]
    exact .lists_lengths pl.isList pl'.isList (by simp;omega) (by omega)
 | .tup l,.tup l',A,x,y,u,v,h,h',r,r',hu=>by
  by_cases e:x=y
  ·subst e
   have:=L8 I h h'
   rw [<- this,Dh h]
   have hx:∃ a,x=.ref a:=by unfold At at h;obtain⟨a,_,e,_⟩:=h;exact⟨a,e⟩
   obtain⟨a,rfl⟩:=hx
   cases r;cases r'
   exact .same _
  ·unfold At at h h';unfold deq
   unfold dep at hu
   obtain⟨a,xs,rfl,q,h⟩:=h
   obtain⟨b,ys,rfl,q',h'⟩:=h'
   obtain⟨its,ri,pl,_⟩:=I.tuple q
   obtain⟨its',ri',pl',_⟩:=I.tuple q'
   cases r;cases r'
   have ne:a≠b:=fun z=>e (by rw [z])
   have e1:=h.length
   have e2:=h'.length
   have e3:=ri.length
   have e4:=ri'.length
   refine .of_refs ne ?_
   have T:=SeqAt.RcAt.tuples (A:=A) (s:=s) (e:=fun j=>deq (l.getD j (.lst [])) (l'.getD j (.lst []))) pl pl' (by omega) fun j h1 h2=>by
     have:=Ft I l l' A.in1 xs ys its its' h h' ri ri' (by show A.units+1+B3 l<cLine;omega) j (by simpa using h1) (by simpa using h2)
     simpa using this
   by_cases hl:l.length=l'.length
   ·rw [Cz (.lst []) hl]
    have hsz:its.toArray.size=l.length:=by simp;omega
    have hsz':its'.toArray.size=l.length:=by simp;omega
    rw [hsz,hsz',Nat.min_self,beq_self_eq_true,Bool.and_true] at T
    exact T
   ·rw [Ei hl]
    have hne:(its.toArray.size==its'.toArray.size)=false:=by
     rw [beq_eq_false_iff_ne];simp;omega
    rw [hne,hX] at T
    exact T
theorem Ft (I:Inv X pins σ H s):∀ (ds ds':List Dt) (A:aT) (xs ys:List V) (us vs:List Value),AtL X.K H ds xs->AtL X.K H ds' ys->Vals xs us->Vals ys vs->A.units+B3 ds<cLine ->
  ∀ (j:Nat) (h1:j<us.length) (h2:j<vs.length),bc A s us[j] vs[j] (deq (ds.getD j (.lst [])) (ds'.getD j (.lst [])))
 | [],_,A,xs,ys,us,vs,h,h',r,r',hu=>fun j h1 h2=>by
  unfold AtL at h
  subst h
  cases r
  cases h1
 | _::_,[],A,xs,ys,us,vs,h,h',r,r',hu=>fun j h1 h2=>by
  unfold AtL at h'
  subst h'
  cases r'
  cases h2
 | d::ds,d'::ds',A,xs,ys,us,vs,h,h',r,r',hu=>fun j h1 h2=>by
  unfold AtL at h h'
  obtain⟨y,ys,rfl,q1,q2⟩:=h
  obtain⟨z,zs,rfl,q1',q2'⟩:=h'
  cases r with
  | cons r1 r2=>
   cases r' with
   | cons r1' r2'=>
    unfold B3 at hu
    have m1:dep d<=jl (dep d) (B3 ds):=Nat.le_max_left _ _
    have m2:B3 ds<=jl (dep d) (B3 ds):=Nat.le_max_right _ _
    cases j with
    | zero=>exact Y8 I d d' A _ _ _ _ q1 q1' r1 r1' (by omega)
    | succ j=>exact Ft I ds ds' A _ _ _ _ q2 q2' r2 r2' (by omega) j (by simpa using h1) (by simpa using h2)
end
theorem Ez {K:aa} {d:Dt} {a:Addr} (h:At K H d (.ref a)):(∃ l xs,d=.lst l/\SqL K H a xs/\AtL K H l xs)\/(∃ l xs,d=.tup l/\SqT K H a xs/\AtL K H l xs):=by
 cases d with
 | at_ v=>
  unfold At at h
  rw [<- h.1] at h
  exact absurd (show false=true from h.2) aj
 | lst l=>unfold At at h;obtain⟨b,xs,e,q,h⟩:=h;cases e;exact .inl ⟨l,xs,rfl,q,h⟩
 | tup l=>unfold At at h;obtain⟨b,xs,e,q,h⟩:=h;cases e;exact .inr ⟨l,xs,rfl,q,h⟩
theorem Po {K:aa} {d:Dt} {x:V} (h:At K H d x) (f:∀ a,x≠.ref a):d=.at_ x/\Bd x=true:=by
 cases d with
 | at_ v=>unfold At at h;rw [h.1];exact⟨rfl,h.2⟩
 | lst l=>unfold At at h;obtain⟨b,xs,e,_⟩:=h;exact absurd e (f b)
 | tup l=>unfold At at h;obtain⟨b,xs,e,_⟩:=h;exact absurd e (f b)
theorem cf5 (I:Inv X pins σ H s) {A:aT} {d d':Dt} {a b:Addr} (h:At X.K H d (.ref a)) (h':At X.K H d' (.ref b)) (hu:A.units+dep d<cLine):fV A s (.ref a) (.ref b) (deq d d')/\dS A s (.ref a) (.ref b) (!deq d d'):=by
 rcases Ez h with ⟨l,xs,rfl,q,h⟩|⟨l,xs,rfl,q,h⟩
 ·rcases Ez h' with ⟨l',ys,rfl,q',h'⟩|⟨l',ys,rfl,q',h'⟩
  ·unfold deq
   unfold dep at hu
   obtain⟨its,ri,pl,_⟩:=I.list q
   obtain⟨its',ri',pl',_⟩:=I.list q'
   have e1:=h.length
   have e2:=h'.length
   have e3:=ri.length
   have e4:=ri'.length
   have it:∀ j (h1:j<its.toArray.size) (h2:j<its'.toArray.size),bc A.in1 s its.toArray[j] its'.toArray[j] (deq (l.getD j (.lst [])) (l'.getD j (.lst []))):=fun j h1 h2=>by
    have:=Ft I l l' A.in1 xs ys its its' h h' ri ri' (by show A.units+1+B3 l<cLine;omega) j (by simpa using h1) (by simpa using h2)
    simpa using this
   by_cases hl:l.length=l'.length
   ·rw [Cz (.lst []) hl]
    have hsz:its.toArray.size=l.length:=by simp;omega
    rw [<- hsz]
    exact⟨.lists pl.isList pl'.isList (by simp;omega) (by omega) it,.lists pl.isList pl'.isList (by simp;omega) (by omega) it⟩
   ·rw [Ei hl]
    exact⟨.lists_lengths pl.isList pl'.isList (by simp;omega) (by omega),.lists_lengths pl.isList pl'.isList (by simp;omega) (by omega)⟩
  ·unfold deq
   obtain⟨its,ri,pl,_⟩:=I.list q
   obtain⟨its',ri',pl',_⟩:=I.tuple q'
   exact⟨.list_tuple pl.isList pl' (by omega),.list_tuple pl.isList pl' (by omega)⟩
 ·rcases Ez h' with ⟨l',ys,rfl,q',h'⟩|⟨l',ys,rfl,q',h'⟩
  ·unfold deq
   obtain⟨its,ri,pl,_⟩:=I.tuple q
   obtain⟨its',ri',pl',_⟩:=I.list q'
   exact⟨.tuple_list pl pl'.isList (by omega),.tuple_list pl pl'.isList (by omega)⟩
  ·unfold deq
   unfold dep at hu
   obtain⟨its,ri,pl,_⟩:=I.tuple q
   obtain⟨its',ri',pl',_⟩:=I.tuple q'
   have e1:=h.length
   have e2:=h'.length
   have e3:=ri.length
   have e4:=ri'.length
   have it:∀ j (h1:j<its.toArray.size) (h2:j<its'.toArray.size),bc A.in1 s its.toArray[j] its'.toArray[j] (deq (l.getD j (.lst [])) (l'.getD j (.lst []))):=fun j h1 h2=>by
    have:=Ft I l l' A.in1 xs ys its its' h h' ri ri' (by show A.units+1+B3 l<cLine;omega) j (by simpa using h1) (by simpa using h2)
    simpa using this
   have T:=SeqAt.RcAt.tuples pl pl' (by omega) it
   have T':=SeqAt.RcNeAt.tuples pl pl' (by omega) it
   by_cases hl:l.length=l'.length
   ·rw [Cz (.lst []) hl]
    have hsz:its.toArray.size=l.length:=by simp;omega
    have hsz':its'.toArray.size=l.length:=by simp;omega
    rw [hsz,hsz',Nat.min_self,beq_self_eq_true,Bool.and_true] at T T'
    exact⟨T,T'⟩
   ·rw [Ei hl]
    have hne:(its.toArray.size==its'.toArray.size)=false:=by
     rw [beq_eq_false_iff_ne];simp;omega
    rw [hne,hX] at T T'
    exact⟨T,T'⟩
theorem Uv (I:Inv X pins σ H s) {A:aT} {d:Dt} {a:Addr} {v:V} {u:Value} (h:At X.K H d (.ref a)) (f:Bd v=true) (r:RelV v u) (hu:A.units<cLine) :
  fV A s (.ref a) u false/\dS A s (.ref a) u true/\fV A s u (.ref a) false/\dS A s u (.ref a) true:=by
 rcases Ez h with ⟨l,xs,rfl,q,h⟩|⟨l,xs,rfl,q,h⟩
 ·obtain⟨its,ri,pl,_⟩:=I.list q
  cases v with
  | non=>cases r;exact⟨.list_none pl.isList hu,.list_none pl.isList hu,.none_list pl.isList hu,.none_list pl.isList hu⟩
  | bl b=>cases r;exact⟨.list_bool b pl.isList hu,.list_bool b pl.isList hu,.bool_list b pl.isList hu,.bool_list b pl.isList hu⟩
  | int b=>obtain⟨t,rfl⟩:=r;exact⟨.list_int b t pl.isList hu,.list_int b t pl.isList hu,.int_list b t pl.isList hu,.int_list b t pl.isList hu⟩
  | str b=>obtain⟨t,rfl⟩:=r;exact⟨.list_str b t pl.isList hu,.list_str b t pl.isList hu,.str_list b t pl.isList hu,.str_list b t pl.isList hu⟩
  | _=>exact absurd (show false=true from f) aj
 ·obtain⟨its,ri,pl,_⟩:=I.tuple q
  cases v with
  | non=>cases r;exact⟨.tuple_none pl hu,.tuple_none pl hu,.none_tuple pl hu,.none_tuple pl hu⟩
  | bl b=>cases r;exact⟨.tuple_bool b pl hu,.tuple_bool b pl hu,.bool_tuple b pl hu,.bool_tuple b pl hu⟩
  | int b=>obtain⟨t,rfl⟩:=r;exact⟨.tuple_int b t pl hu,.tuple_int b t pl hu,.int_tuple b t pl hu,.int_tuple b t pl hu⟩
  | str b=>obtain⟨t,rfl⟩:=r;exact⟨.tuple_str b t pl hu,.tuple_str b t pl hu,.str_tuple b t pl hu,.str_tuple b t pl hu⟩
  | _=>exact absurd (show false=true from f) aj
noncomputable def Pz (K:aa) (neg:Bool):R2:=fun x y H Q=>∃ d d',At K H d x/\At K H d' y/\dep d<=40/\Q (.bl (if neg then !deq d d' else deq d d')) H
theorem ae7 (I:Inv X pins σ H s) {A:aT} {d d':Dt} {x y:V} {u v:Value} (h:At X.K H d x) (h':At X.K H d' y) (r:RelV x u) (r':RelV y v) (hr:(∃ a,x=.ref a) \/ ∃ b,y=.ref b) (hu:A.units+dep d<cLine) :
  fV A s u v (deq d d')/\dS A s u v (!deq d d'):=by
 by_cases hx:∃ a,x=.ref a
 ·obtain⟨a,rfl⟩:=hx
  cases r
  by_cases hy:∃ b,y=.ref b
  ·obtain⟨b,rfl⟩:=hy
   cases r'
   exact cf5 I h h' hu
  ·obtain⟨rfl,f⟩:=Po h' (fun b e=>hy ⟨b,e⟩)
   obtain⟨q1,q2,_⟩:=Uv I h f r' (show A.units<cLine by omega)
   have e:deq d (.at_ y)=false:=by
    rcases Ez h with ⟨l,xs,rfl,_⟩|⟨l,xs,rfl,_⟩ <;> (unfold deq;rfl)
   rw [e]
   exact⟨q1,q2⟩
 ·have hy:∃ b,y=.ref b:=hr.resolve_left hx
  obtain⟨b,rfl⟩:=hy
  cases r'
  obtain⟨rfl,f⟩:=Po h (fun b e=>hx ⟨b,e⟩)
  obtain⟨_,_,q1,q2⟩:=Uv I h' f r (show A.units<cLine by omega)
  have e:deq (.at_ x) d'=false:=by
   rcases Ez h' with ⟨l,xs,rfl,_⟩|⟨l,xs,rfl,_⟩ <;> (unfold deq;rfl)
  rw [e]
  exact⟨q1,q2⟩
theorem Ra (hu:X.A.units+64<cLine) {x y:V} {u v:Value} {Q:VK} (I:Inv X pins σ H s) (rx:RelV x u) (ry:RelV y v) (hr:(∃ a,x=.ref a) \/ ∃ b,y=.ref b) (h:Pz X.K false x y H Q):aI (model X.prog X.w) X.A (bY .Eq u v) (EP X pins σ Q) X.xe s:=by
 obtain⟨d,d',h1,h2,hd,q⟩:=h
 exact (ae7 I h1 h2 rx ry hr (A:=X.A) (by omega)).1 _ _ _ _ ⟨.bl _,H,I,rfl,q⟩
theorem Rb (hu:X.A.units+64<cLine) {x y:V} {u v:Value} {Q:VK} (I:Inv X pins σ H s) (rx:RelV x u) (ry:RelV y v) (hr:(∃ a,x=.ref a) \/ ∃ b,y=.ref b) (h:Pz X.K true x y H Q):aI (model X.prog X.w) X.A (bY .NotEq u v) (EP X pins σ Q) X.xe s:=by
 obtain⟨d,d',h1,h2,hd,q⟩:=h
 exact (ae7 I h1 h2 rx ry hr (A:=X.A) (by omega)).2 _ _ _ _ ⟨.bl _,H,I,rfl,q⟩
noncomputable def eqW (K:aa) (H:Hp) (d':Dt) (u:Value):Bool:=@decide (∃ x d,RelV x u/\At K H d x/\deq d d'=true) (dY _)
theorem a17 (I:Inv X pins σ H s) {d d':Dt} {x:V} {u:Value} (r:RelV x u) (h:At X.K H d x):eqW X.K H d' u=deq d d':=by
 unfold eqW
 cases e:deq d d' with
 | true=>exact @decide_eq_true _ (dY _) ⟨x,d,r,h,e⟩
 | false=>
  refine @decide_eq_false _ (dY _) fun⟨x',d2,r',h',e'⟩=>?_
  have:=r.inj r' h.pl h'.pl
  subst this
  rw [L8 I h h'] at e
  rw [e] at e'
  cases e'
theorem Lo (I:Inv X pins σ H s) {A:aT} {d':Dt} {y:V} {v:Value} (h':At X.K H d' y) (r':RelV y v):∀ {ds:List Dt} {xs:List V} {us:List Value},AtL X.K H ds xs->Vals xs us->A.units+B3 ds<cLine ->
  (∀ u∈us,bc A s u v (eqW X.K H d' u))/\us.countP (eqW X.K H d')=ds.countP (fun d=>deq d d')/\us.any (eqW X.K H d')=ds.any (fun d=>deq d d')
 | [],xs,us,h,r,hu=>by
  unfold AtL at h
  subst h
  cases r
  exact⟨(fun u hu=>by cases hu),rfl,rfl⟩
 | d::ds,xs,us,h,r,hu=>by
  unfold AtL at h
  obtain⟨x,xs,rfl,h1,h2⟩:=h
  cases r with
  | cons r1 r2=>
   unfold B3 at hu
   have m1:dep d<=jl (dep d) (B3 ds):=Nat.le_max_left _ _
   have m2:B3 ds<=jl (dep d) (B3 ds):=Nat.le_max_right _ _
   obtain⟨q1,q2,q3⟩:=Lo I h' r' h2 r2 (A:=A) (by omega)
   have e:=a17 I (d':=d') r1 h1
   refine⟨fun u hu=>?_,?_,?_⟩
   ·rcases List.mem_cons.mp hu with rfl|hu
    ·rw [e];exact Y8 I d d' A _ _ _ _ h1 h' r1 r' (by omega)
    ·exact q1 u hu
   ·rw [List.countP_cons,List.countP_cons,q2,e]
   ·rw [dw,dw,q3,e]
noncomputable def Je (K:aa):V->List V->Hp->VK->Prop:=fun x xs H Q=>∃ p y ds d ys,x=.ref p/\xs=[y]/\SqL K H p ys/\AtL K H ds ys/\At K H d y/\B3 ds<=40/\Q (.int (ds.countP fun c=>deq c d:Nat)) H
theorem Z6 (hu:X.A.units+64<cLine):MtR X "list.count" (Je X.K):=by
 intro pins s σ H x xs v us Q I rx rs h
 obtain⟨p,y,ds,d,ys,rfl,rfl,hq,hL,hd,hz,q⟩:=h
 cases rx
 cases rs with
 | cons ry t=>
  cases t
  obtain⟨its,r,⟨o,n,e,c,dn,dt⟩,hz2⟩:=I.list hq
  obtain⟨oc,od,odt,osl⟩:=o
  simp only at c dn dt
  subst c dn dt
  obtain⟨q1,q2,q3⟩:=Lo I hd ry hL r (A:=X.A.in1) (by show X.A.units+1+B3 ds<cLine;omega)
  refine fW gc ⟨_,e,rfl⟩ PySem.F.entry_list_count (PySem.F.args_list_count_2 _ _) (SeqAt.list_countAt p its.toArray n none osl _ (eqW X.K H d)) ⟨e,fun z hz=>q1 z (by simpa using hz),?_⟩
  refine⟨.int _,H,I.tok _,⟨_,rfl⟩,?_⟩
  rw [<- q2] at q
  exact q
end
open AutoSeq1 (wpAny_loadPart')
open MeetsSeq MeetsSeq2 MeetsSeq3 SeqRoads2
section
variable {P:aE} {w:bq} {l b:Addr} {items items2:Array Value} {n n2:Nat} {dd dd2:Option Addr} {sl sl2:Array (Option Value)}
end
section
variable {P:aE} {w:bq}
end
section
variable {X:Cx} {pins:List (Addr×Obj)} {σ:St} {H:Hp} {s:ah}
end
end L2
namespace L2
open PySem PySem.Spec PyProof.Rows
section
variable {X:Cx} {pins:List (Addr×Obj)} {σ:St} {H:Hp} {s:ah}
end
noncomputable def rNo:R2:=fun _ _ _ _=>False
noncomputable def Ar (K:aa):R2:=fun x y H Q=>match x,y with
 | .int i,.int j=>Q (.int (i+j)) H
 | .str a,.str b=>a.length+b.length<=sizeLine/\Q (.str (a++b)) H
 | .ref a,.ref b=>False\/at7 K (.ref a) (.ref b) H Q\/at6 K (.ref a) (.ref b) H Q
 | _,_=>False
noncomputable def Jg:R2:=fun x y H Q=>match x,y with
 | .int i,.int j=>Q (.int (i - j)) H
 | _,_=>False
noncomputable def G7 (K:aa):R2:=fun x y H Q=>match x,y with
 | .int i,.int j=>CMul i j/\Q (.int (i * j)) H
 | _,_=>False
noncomputable def Cf:R2:=fun x y H Q=>match x,y with
 | .int i,.int j=>bs3 i j/\Q (.int (i / j)) H
 | _,_=>False
noncomputable def A1:R2:=fun x y H Q=>match x,y with
 | .int i,.int j=>0<j/\Q (.int (i % j)) H
 | _,_=>False
noncomputable def P2:R2:=fun x y H Q=>match x,y with
 | .int i,.int j=>bs4 i j/\Q (.int (i ^ j.toNat)) H
 | _,_=>False
noncomputable def rOp (K:aa):jm->R2
 | .Add=>Ar K
 | .Sub=>Jg
 | .Mult=>G7 K
 | .FloorDiv=>Cf
 | .Mod=>A1
 | .Pow=>P2
 | _=>rNo
section
variable {X:Cx}
theorem ce7 (op:jm):OpR X (ef op) (rOp X.K op):=by
 intro pins s σ H x y v u Q I rx ry h
 cases op with
 | Add=>
  cases x <;> cases y <;> first
   | exact (show False from h).elim
   | exact a88 pins s σ H _ _ v u Q I rx ry ⟨_,_,rfl,rfl,h⟩
   | exact Q9 pins s σ H _ _ v u Q I rx ry ⟨_,_,rfl,rfl,h⟩
   | exact (op_catT.or al5) pins s σ H _ _ v u Q I rx ry (h.resolve_left id)
 | Sub=>cases x <;> cases y <;> first|exact (show False from h).elim|exact a95 pins s σ H _ _ v u Q I rx ry ⟨_,_,rfl,rfl,h⟩
 | Mult=>cases x <;> cases y <;> first|exact (show False from h).elim|exact a92 pins s σ H _ _ v u Q I rx ry ⟨_,_,rfl,rfl,h⟩
 | FloorDiv=>cases x <;> cases y <;> first|exact (show False from h).elim|exact al6 pins s σ H _ _ v u Q I rx ry ⟨_,_,rfl,rfl,h⟩
 | Mod=>cases x <;> cases y <;> first|exact (show False from h).elim|exact a91 pins s σ H _ _ v u Q I rx ry ⟨_,_,rfl,rfl,h⟩
 | Pow=>cases x <;> cases y <;> first|exact (show False from h).elim|exact a94 pins s σ H _ _ v u Q I rx ry ⟨_,_,rfl,rfl,h⟩
 | _=>exact (show False from h).elim
end
noncomputable def Bj (K:aa) (neg:Bool):R2:=fun x y H Q=>match x,y with
 | .ref a,.ref b=>be2 K neg (.ref a) (.ref b) H Q\/Pz K neg (.ref a) (.ref b) H Q\/False
 | .ref a,y=>Pz K neg (.ref a) y H Q
 | x,.ref b=>Pz K neg x (.ref b) H Q
 | .int i,.int j=>Q (.bl (if neg then !decide (i=j) else decide (i=j))) H
 | .str i,.str j=>Q (.bl (if neg then !decide (i=j) else decide (i=j))) H
 | .bl i,.bl j=>Q (.bl (if neg then !(i==j) else (i==j))) H
 | x,y=>bm6 x y=true/\Q (.bl (if neg then !decide (x=y) else decide (x=y))) H
noncomputable def bz6:R2:=fun x y H Q=>match x,y with
 | .int i,.int j=>Q (.bl (decide (i<j))) H
 | .str i,.str j=>Q (.bl (decide (i.cps.toList<j.cps.toList))) H
 | _,_=>False
noncomputable def Fh:R2:=fun x y H Q=>match x,y with
 | .int i,.int j=>Q (.bl (decide (i<=j))) H
 | .str i,.str j=>Q (.bl (!decide (j.cps.toList<i.cps.toList))) H
 | _,_=>False
noncomputable def P1:R2:=fun x y H Q=>match x,y with
 | .int i,.int j=>Q (.bl (decide (j<i))) H
 | _,_=>False
noncomputable def P0:R2:=fun x y H Q=>match x,y with
 | .int i,.int j=>Q (.bl (decide (j<=i))) H
 | _,_=>False
noncomputable def We (K:aa) (neg:Bool):R2:=fun x y H Q=>match x,y with
 | x,.ref p=>rIn K neg x (.ref p) H Q \/ ∃ o,E5 H p x o/\Q (.bl (if neg then !o.isSome else o.isSome)) H
 | _,_=>False
noncomputable def be3 (neg:Bool):R2:=fun x y H Q=>match y with
 | .non=>Q (.bl (if neg then !decide (x=.non) else decide (x=.non))) H
 | .bl d=>(match x with
  | .bl c=>Q (.bl (if neg then !(c==d) else (c==d))) H
  | _=>False)
 | _=>False
noncomputable def Ky (K:aa):jk->R2
 | .Eq=>Bj K false
 | .NotEq=>Bj K true
 | .Lt=>bz6
 | .LtE=>Fh
 | .Gt=>P1
 | .GtE=>P0
 | .In=>We K false
 | .NotIn=>We K true
 | .Is=>be3 false
 | .IsNot=>be3 true
section
variable {X:Cx}
theorem Lc (hu:X.A.units+64<cLine) (op:jk):OpR X (bY op) (Ky X.K op):=by
  intro pins s σ H x y v u Q I rx ry h
  cases op with
  | Eq=>
    cases x <;> cases y <;> first
      | (rcases h with h|h|h
         . exact a89 (by omega) pins s σ H _ _ v u Q I rx ry h
         . exact Ra hu I rx ry (.inl ⟨_,rfl⟩) h
         . exact h.elim)
      | exact Ra hu I rx ry (.inl ⟨_,rfl⟩) h
      | exact Ra hu I rx ry (.inr ⟨_,rfl⟩) h
      | exact Uj pins s σ H _ _ v u Q I rx ry h
      | exact Uj pins s σ H _ _ v u Q I rx ry ⟨rfl,by rw [Hg,c_];exact h⟩
      | exact Uj pins s σ H _ _ v u Q I rx ry ⟨rfl,by rw [Hh,c_];exact h⟩
      | exact Uj pins s σ H _ _ v u Q I rx ry ⟨rfl,by rw [Mi];exact h⟩
  | NotEq=>
    cases x <;> cases y <;> first
      | (rcases h with h|h|h
         . exact a93 (by omega) pins s σ H _ _ v u Q I rx ry h
         . exact Rb hu I rx ry (.inl ⟨_,rfl⟩) h
         . exact h.elim)
      | exact Rb hu I rx ry (.inl ⟨_,rfl⟩) h
      | exact Rb hu I rx ry (.inr ⟨_,rfl⟩) h
      | exact Uk pins s σ H _ _ v u Q I rx ry h
      | exact Uk pins s σ H _ _ v u Q I rx ry ⟨rfl,by rw [Hg,c_];exact h⟩
      | exact Uk pins s σ H _ _ v u Q I rx ry ⟨rfl,by rw [Hh,c_];exact h⟩
      | exact Uk pins s σ H _ _ v u Q I rx ry ⟨rfl,by rw [Mi];exact h⟩
  | Lt=>cases x <;> cases y <;> first|exact (show False from h).elim|exact by0 pins s σ H _ _ v u Q I rx ry ⟨_,_,rfl,rfl,h⟩|exact V9 pins s σ H _ _ v u Q I rx ry ⟨_,_,rfl,rfl,h⟩
  | LtE=>cases x <;> cases y <;> first|exact (show False from h).elim|exact bx9 pins s σ H _ _ v u Q I rx ry ⟨_,_,rfl,rfl,h⟩|exact V8 pins s σ H _ _ v u Q I rx ry ⟨_,_,rfl,rfl,h⟩
  | Gt=>cases x <;> cases y <;> first|exact (show False from h).elim|exact bx8 pins s σ H _ _ v u Q I rx ry ⟨_,_,rfl,rfl,h⟩
  | GtE=>cases x <;> cases y <;> first|exact (show False from h).elim|exact bx7 pins s σ H _ _ v u Q I rx ry ⟨_,_,rfl,rfl,h⟩
  | In=>cases x <;> cases y <;> first|exact (show False from h).elim|exact h.elim (V7 pins s σ H _ _ v u Q I rx ry) fun⟨o,g,q⟩=>by cases ry;exact cd5 (by omega) I g rx fun s' I'=>⟨.bl _,H,I',rfl,q⟩
  | NotIn=>cases x <;> cases y <;> first|exact (show False from h).elim|exact h.elim (M5 pins s σ H _ _ v u Q I rx ry) fun⟨o,g,q⟩=>by cases ry;exact aj6 (by omega) I g rx fun s' I'=>⟨.bl _,H,I',rfl,q⟩
  | Is=>cases y <;> first|exact (show False from h).elim|exact a90 pins s σ H _ _ v u Q I rx ry ⟨rfl,h⟩|(cases x <;> first|exact (show False from h).elim|(cases rx;cases ry;exact is_bool ⟨.bl _,H,I,rfl,h⟩))
  | IsNot=>cases y <;> first|exact (show False from h).elim|exact al7 pins s σ H _ _ v u Q I rx ry ⟨rfl,h⟩|(cases x <;> first|exact (show False from h).elim|(cases rx;cases ry;exact isnot_bool ⟨.bl _,H,I,rfl,h⟩))
end
noncomputable def Uu:V->Hp->VK->Prop:=fun x H Q=>match x with
 | .int i=>Q (.int (-i)) H
 | _=>False
theorem cj5 {X:Cx}:UnR X (js .USub) Uu:=by
 intro pins s σ H x v Q I rx h
 cases x <;> first|exact (show False from h).elim|exact bn7 pins s σ H _ v Q I rx ⟨_,rfl,h⟩
noncomputable def ae0:V->Hp->VK->Prop:=fun x H Q=>match x with
 | .int i=>Q (.int (Builtin.bitNot i)) H
 | _=>False
theorem bu7 {X:Cx}:UnR X (js .Invert) ae0:=by
 intro pins s σ H x v Q I rx h
 cases x <;> first|exact (show False from h).elim|exact bn6 pins s σ H _ v Q I rx ⟨_,rfl,h⟩
theorem U8 {X:Cx}:bt0 X (ah8 X.K):=by
 intro pins s σ H x v Q I rx h
 cases x with
 | non=>exact Km pins s σ H _ v Q I rx ⟨_,rfl,h⟩
 | bl b=>exact Km pins s σ H _ v Q I rx ⟨_,rfl,h⟩
 | int i=>exact Km pins s σ H _ v Q I rx ⟨_,rfl,h⟩
 | str y=>exact Km pins s σ H _ v Q I rx ⟨_,⟨h.1,rfl⟩,h.2⟩
 | ref p=>exact Km pins s σ H _ v Q I rx h
 | _=>exact (show False from h).elim
inductive SqX (K:aa) (H:Hp) (p:Addr) (i:Int) (xs:List V):Prop where
 | inl (h:SqL K H p xs)
 | inr (h:SqT K H p xs)
 | dk (h:∀ v,atI xs i=some v->E5 H p (.int i) (some v))
noncomputable def Am (K:aa):R2:=fun x y H Q=>match x,y with
 | .str z,.int i=>z.length<=sizeLine /\ ∃ c,atI z.cps.toList i=some c/\Q (.str ⟨#[c]⟩) H
 | .ref p,.int i=>∃ xs v,SqX K H p i xs/\atI xs i=some v/\Q v H
 | .ref p,.str k=>∃ v,E5 H p (.str k) (some v)/\Q v H
 | .ref p,.ref b=>∃ v,E5 H p (.ref b) (some v)/\Q v H
 | _,_=>False
theorem ce4 {X:Cx} (hu:X.A.units+64<cLine):IxR X (Am X.K):=by
  intro value slice pins s σ H x y v u Q I rx ry h hs
  cases x <;> cases y <;> first
    | exact (show False from h).elim
    | (obtain⟨h1,c,h2,h3⟩:=h;exact a40 value slice pins s σ H _ _ v u Q I rx ry ⟨_,_,c,rfl,rfl,h1,h2,h3⟩ hs)
    | (obtain⟨xs,w,h1|h1|h1,h2,h3⟩:=h
       . exact ak4 value slice pins s σ H _ _ v u Q I rx ry ⟨_,_,_,_,rfl,rfl,h1,h2,h3⟩ hs
       . exact a41 value slice pins s σ H _ _ v u Q I rx ry ⟨_,_,_,_,rfl,rfl,h1,h2,h3⟩ hs
       . exact Ue hu value slice pins s σ H _ _ v u Q I rx ry ⟨_,w,rfl,h1 w h2,h3⟩ hs)
    | (obtain⟨w,h1,h2⟩:=h;exact Ue hu value slice pins s σ H _ _ v u Q I rx ry ⟨_,w,rfl,h1,h2⟩ hs)
noncomputable def at9:V->V->V->Hp->(Hp->Prop)->Prop:=fun o i v H N=>match o,i with
 | .ref p,.int k=>(∃ xs j,H p=some (.lst xs)/\ixN xs.length k=some j/\N (upd H p (.lst (xs.set j v)))) \/ ∃ H',DPut H p (.int k) v H'/\N H'
 | .ref p,i=>∃ H',DPut H p i v H'/\N H'
 | _,_=>False
theorem b55 {X:Cx} (hu:X.A.units+64<cLine):a00 X at9:=by
 intro pins s σ H o i v ov iv u Q I ro ri rv h
 cases o with
 | ref p=>
  have dp:∀ {H'},DPut H p i v H'->Q H'->aI (model X.prog X.w) X.A (setItem ov iv u) (fun _ s'=>∃ H',Inv X pins σ H' s'/\Q H') X.xe s:=fun {H'} g q=>by
   cases ro
   exact Vp (by omega) I g ri rv fun s' I'=>⟨H',I',q⟩
  cases i with
  | int k=>
   rcases h with ⟨xs,j,h1,h2,h3⟩|⟨H',g,q⟩
   ·exact af1 pins s σ H _ _ v ov iv u Q I ro ri rv ⟨p,xs,k,j,rfl,rfl,h1,h2,h3⟩
   ·exact dp g q
  | _=>obtain⟨H',g,q⟩:=h;exact dp g q
 | _=>exact (show False from h).elim
noncomputable def Ao (K:aa) (f:Str):V->Hp->VK->Prop:=fun x H Q=>match x with
 | .ref a=>(∃ C dx fs v,H a=some (.ins C dx fs)/\Cls K C/\NoAttr K C f/\fs.lookup f=some v/\Q v H)\/(∃ C fs v,ExcAt H a C fs/\ECls K C/\NoAttr K C f/\fs.lookup f=some v/\Q v H)
 | _=>False
noncomputable def at8 (K:aa) (f:Str):V->V->Hp->(Hp->Prop)->Prop:=fun x y H N=>match x with
 | .ref a=>(∃ C dx fs,H a=some (.ins C dx fs)/\Cls K C/\NoAttr K C f/\fs.length<1000/\N (upd H a (.ins C dx (D7 f y fs))))\/(∃ C,ECls K C/\NoAttr K C f/\bs9 H a C f y N)
 | _=>False
section
variable {X:Cx} {pins:List (Addr×Obj)} {σ:St} {H:Hp} {s:ah} {A:aT} {E:Value->ah->Prop}
theorem bu3 {f:Str} {x:V} {u:Value} {b:Bool} {Q:VK} (I:Inv X pins σ H s) (rx:RelV x u) (h:Ao X.K f x H Q):aI (model X.prog X.w) A (iS u f b) (EP X pins σ Q) E s:=by
 cases x with
 | ref a=>
  cases rx
  rcases h with ⟨C,dx,fs,v,ea,c,n,l,q⟩|⟨C,fs,v,ea,c,n,l,q⟩
  ·exact Qu I ea c n l fun u' s2 I2 ru=>⟨v,H,I2,ru,q⟩
  ·exact Vr I ea c n l fun u' s2 I2 ru=>⟨v,H,I2,ru,q⟩
 | _=>exact (show False from h).elim
theorem b54 {f:Str} {x y:V} {u v:Value} {N:Hp->Prop} {Q:Unit->ah->Prop} (I:Inv X pins σ H s) (rx:RelV x u) (ry:RelV y v) (h:at8 X.K f x y H N) (hQ:∀ H' s',Inv X pins σ H' s'->N H'->Q () s') :
  aI (model X.prog X.w) A (jh u f v) Q E s:=by
 cases x with
 | ref a=>
  cases rx
  rcases h with ⟨C,dx,fs,ea,c,n,l,q⟩|⟨C,c,n,q⟩
  ·exact Si I ea c n l ry fun s3 I3=>hQ _ _ I3 q
  ·exact Wk I c n ry q hQ
 | _=>exact (show False from h).elim
end
structure FI where
 f:Addr
 fd:ai
 ps:List Str
 k:Nat
 sp:Sp
 dfs:List V
 ds:List Value
structure MI where
 C:Addr
 i:FI
inductive GB where
 | fn (i:FI)
 | cls (C:Addr) (i:Option FI)
 | met (m:Str) (l:List MI)
 | val (v:V) (u:Value)
 | exc (C:Addr) (i:Option FI)
 | ini (C:Addr) (i:FI)
noncomputable def B6:List (Str×GB)->Str->Option (List MI)
 | [],_=>none
 | (_,.met m l)::r,x=>if m=x then some l else B6 r x
 | _::r,x=>B6 r x
theorem Bn:∀ {gb:List (Str×GB)} {x:Str} {l:List MI},B6 gb x=some l -> ∃ k,(k,GB.met x l)∈gb
 | (k,.met m l')::r,x,l,h=>by
  unfold B6 at h
  by_cases e:m=x
  ·rw [if_pos e] at h;cases h;subst e;exact⟨k,by simp⟩
  ·rw [if_neg e] at h;obtain⟨k,q⟩:=Bn h;exact⟨k,aJ _ q⟩
 | (_,.fn _)::r,x,l,h=>by unfold B6 at h;obtain⟨k,q⟩:=Bn h;exact⟨k,aJ _ q⟩
 | (_,.cls _ _)::r,x,l,h=>by unfold B6 at h;obtain⟨k,q⟩:=Bn h;exact⟨k,aJ _ q⟩
 | (_,.val _ _)::r,x,l,h=>by unfold B6 at h;obtain⟨k,q⟩:=Bn h;exact⟨k,aJ _ q⟩
 | (_,.ini _ _)::r,x,l,h=>by unfold B6 at h;obtain⟨k,q⟩:=Bn h;exact⟨k,aJ _ q⟩
 | (_,.exc _ _)::r,x,l,h=>by unfold B6 at h;obtain⟨k,q⟩:=Bn h;exact⟨k,aJ _ q⟩
structure Sg where
 K:aa
 N:List Str
 sc:List (Str×bN)
 gb:List (Str×GB)
 bl:List Str
 top:Bool
 calm:Bool
noncomputable def Bv:List Str->Str->Nat->Option Nat
 | [],_,_=>none
 | y::r,x,i=>if y=x then some i else Bv r x (i+1)
theorem Lu:∀ {N:List Str} {x:Str} {i j:Nat},Bv N x j=some i->j<=i/\N[i - j]? = some x
 | [],_,_,_,h=>by cases h
 | y::r,x,i,j,h=>by
  unfold Bv at h
  by_cases e:y=x
  ·rw [if_pos e] at h
   cases h
   refine⟨ae _,?_⟩
   rw [Nat.sub_self,e]
   rfl
  ·rw [if_neg e] at h
   obtain⟨h1,h2⟩:=Lu h
   refine⟨by omega,?_⟩
   have:i - j=(i - (j+1))+1:=by omega
   rw [this,cj]
   exact h2
theorem Dq {N:List Str} {x:Str} {i:Nat} (h:Bv N x 0=some i):N[i]? = some x:=(Lu h).2
noncomputable def Dm (x:Str):Bool:=!(x==("__debug__" : Str)) && !(x==("__classdict__" : Str)) && !(x==("__name__" : Str))
noncomputable def Ik (G:Sg) (x:Str):Bool:=(G.sc.lookup x==some .globalImplicit)&&Dm x
noncomputable def Ta (x:Str):Option String:=
 if x = "int" then some "int" else if x = "bool" then some "bool" else if x = "str" then some "str" else if x = "list" then some "list" else if x = "tuple" then some "tuple" else if x = "dict" then some "dict" else if x = "ValueError" then some "ValueError" else none
theorem aj2:cq "ValueError" = some (.type "ValueError"):=by decide +kernel
theorem Wr {x:Str} {T:String} (h:Ta x=some T):cq x=some (.type T):=by
 unfold Ta at h
 by_cases e1:x = "int"
 ·rw [if_pos e1] at h;cases h;rw [e1];exact gX
 rw [if_neg e1] at h
 by_cases e2:x = "bool"
 ·rw [if_pos e2] at h;cases h;rw [e2];exact PyProof.Rows.boot_bool
 rw [if_neg e2] at h
 by_cases e3:x = "str"
 ·rw [if_pos e3] at h;cases h;rw [e3];exact PyProof.Rows.boot_str
 rw [if_neg e3] at h
 by_cases e4:x = "list"
 ·rw [if_pos e4] at h;cases h;rw [e4];exact gH
 rw [if_neg e4] at h
 by_cases e5:x = "tuple"
 ·rw [if_pos e5] at h;cases h;rw [e5];exact f6
 rw [if_neg e5] at h
 by_cases e6:x = "dict"
 ·rw [if_pos e6] at h;cases h;rw [e6];exact PyProof.Rows.boot_dict
 rw [if_neg e6] at h
 by_cases e7:x = "ValueError"
 ·rw [if_pos e7] at h;cases h;rw [e7];exact aj2
 rw [if_neg e7] at h
 cases h
noncomputable def K2 (CX:CXT) (X:Cx):Prop:=∀ Ex,Meets X Ex -> ∀ (pins:List (Addr×Obj)) (σ:St) (H:Hp) (s:ah) (e:Value) (s':ah),Inv X pins σ H s->CX X.stack H s (fun v _ H'=>∃ a,v=.ref a/\Ex σ a H') e s'->X.xe e s'
structure E6 (X:Cx) (i:FI):Prop where
 kp:ak X.K (.ref i.f)=true
 ok:∃ CX,(∀ X':Cx,X'.prog=X.prog->X'.w=X.w->K2 CX X')/\FnOk X.prog X.w X.K X.mg X.base CX i.k i.f i.fd i.ps i.sp
 room:Room i.k X.A
 binds:∀ j,j<=i.dfs.length->Binds X.K i.fd i.ps (i.ds.drop j)
 vals:Vals i.dfs i.ds
noncomputable def Fd (X:Cx) (C:Addr):Option FI->Prop
 | none=>ac X.K (.ref C) "__init__" = some (some (.builtin "ValueError.__init__"))
 | some i=>ac X.K (.ref C) "__init__" = some (some (.ref i.f))/\bK X.K (.ref i.f)=true/\E6 X i/\Room (i.k+1) X.A
noncomputable def Wv (X:Cx) (C:Addr):Option FI->Prop
 | none=>aU X.K C=true/\ac X.K (.ref C) "__init__" = some (some (.builtin "object.__init__"))
 | some i=>aU X.K C=true/\ac X.K (.ref C) "__init__" = some (some (.ref i.f))/\bK X.K (.ref i.f)=true/\E6 X i/\Room (i.k+1) X.A
structure K3 (K:aa) (C f:Addr):Prop where
 ga:cr K (.ref C) "__getattribute__" = some (some (.builtin "type.__getattribute__"))
 rd:fg K C (.type "type")=true
 fc:fb K (.ref C) (.type "type") "__init__" = some (.val (.ref f))
 hh:dJ (.ref f)=true
noncomputable def GBOk (X:Cx) (x:Str):GB->Prop
 | .fn i=>X.mg x=some (.ref i.f)/\E6 X i
 | .val v u=>X.mg x=some u/\RelV v u
 | .exc C oi=>X.mg x=some (.ref C)/\ak X.K (.ref C)=true/\ECls X.K C/\Fd X C oi
 | .cls C oi=>X.mg x=some (.ref C)/\ak X.K (.ref C)=true/\Wv X C oi
 | .met m l=>∀ mi∈l,Cls X.K mi.C/\A0 X.K mi.C m mi.i.f/\E6 X mi.i
 | .ini C i=>X.mg x=some (.ref C)/\K3 X.K C i.f/\E6 X i
theorem GBOk.to {X X':Cx} (hm:X'.mg=X.mg) (hK:X'.K=X.K) (hA:∀ k,Room k X.A->Room k X'.A) (hf:∀ i,E6 X i->E6 X' i) {x:Str} {g:GB} (h:GBOk X x g):GBOk X' x g:=by
 cases g with
 | fn i=>exact⟨hm▸h.1,hf i h.2⟩
 | val v u=>exact⟨hm▸h.1,h.2⟩
 | exc C oi=>
  obtain⟨a,b,c,d⟩:=h
  refine⟨hm▸a,hK▸b,hK▸c,?_⟩
  cases oi with
  | none=>unfold Fd at d ⊢;rw [hK];exact d
  | some i=>obtain⟨d1,d2,d3,d4⟩:=d;exact⟨hK▸d1,hK▸d2,hf i d3,hA _ d4⟩
 | cls C oi=>
  obtain⟨a,b,d⟩:=h
  refine⟨hm▸a,hK▸b,?_⟩
  cases oi with
  | none=>unfold Wv at d ⊢;rw [hK];exact d
  | some i=>obtain⟨d1,d2,d3,d4,d5⟩:=d;exact⟨hK▸d1,hK▸d2,hK▸d3,hf i d4,hA _ d5⟩
 | met m l=>exact fun mi hi=>⟨hK▸(h mi hi).1,hK▸(h mi hi).2.1,hf _ (h mi hi).2.2⟩
 | ini C i=>exact⟨hm▸h.1,hK▸h.2.1,hf i h.2.2⟩
noncomputable def FrH (X:Cx):Prop:=∃ (e0:Env) (o0:List Env) (L:Addr),X.stack=e0::o0/\e0.frame=some L/\X.env.frame=some L
structure GOk (X:Cx) (G:Sg):Prop where
 K:X.K=G.K
 kind:X.env.scope.kind=.function
 own:G.top=true->e8 (model X.prog X.w) X.A X.env X.xe
 N:X.N=G.N
 nd:G.N.Nodup
 sc:∀ x,X.env.scope.names.lookup x=G.sc.lookup x
 vis:∀ x∈G.N,Vis X.env.scope x
 top:G.top=true -> ∀ x,X.fn x=true
 calm:G.calm=X.calm
 hd:X.calm=true->X.A.handled=none
 units:X.A.units+64<cLine
 cel:∀ x,(X.env.scope.names.lookup x=some .cell\/X.env.scope.names.lookup x=some .free) -> ∃ c,X.env.cells.lookup x=some c
 gb:∀ x g,(x,g)∈G.gb->GBOk X x g
 bl:∀ x,G.bl.contains x=true->X.mg x=none
 frm:G.top=true->X.stack=X.env::X.outer/\X.env.frame=some X.env.locals
 fr:FrH X
section
variable {X:Cx} {G:Sg}
theorem GOk.at_ (O:GOk X G) (x:Str) (g:GB) (e:G.gb.lookup x=some g):GBOk X x g:=O.gb x g (bA e)
theorem GOk.met (O:GOk X G) (m:Str) (l:List MI) (e:B6 G.gb m=some l):∀ mi∈l,Cls X.K mi.C/\A0 X.K mi.C m mi.i.f/\E6 X mi.i:=by
 obtain⟨x,hx⟩:=Bn e
 exact O.gb x _ hx
theorem GOk.gl (O:GOk X G) {x:Str} (h:Ik G x=true):Gl X x:=by
 unfold Ik at h
 rw [au] at h
 have:=bG h.1
 unfold Gl
 show X.env.scope.names.lookup x=_
 rw [O.sc x]
 exact this
theorem M6 {x:Str} (h:Dm x=true):(x==("__debug__" : Str))=false/\(x==("__classdict__" : Str))=false/\x ≠ "__name__" := by
 unfold Dm at h
 simp only [au,fP] at h
 exact⟨h.1.1,h.1.2,fun e=>by rw [e] at h;simp at h⟩
theorem Il {x:Str} (h:Ik G x=true):(x==("__debug__" : Str))=false/\(x==("__classdict__" : Str))=false/\x ≠ "__name__" := by
 unfold Ik at h
 rw [au] at h
 exact M6 h.2
noncomputable def Vb (G:Sg) (x:Str):DE:=
 match Bv G.N x 0 with
 | some i=>if Dm x=true then Ac i else dNo
 | none=>if Ik G x=true then (match G.gb.lookup x with
   | some (.val v _)=>dC v
   | some (.exc C _)=>dC (.ref C)
   | some (.cls C _)=>dC (.ref C)
   | some (.ini C _)=>dC (.ref C)
   | some _=>dNo
   | none=>if G.bl.contains x=true then (match Ta x with
    | some T=>dC (.ty T)
    | none=>dNo) else dNo) else dNo
theorem Be {e:Expr}:QE X e dNo:=fun _ _ _ _ _ _ _ _ h=>h.elim
theorem bc7 {i:Nat} {x:Str} {pos:Pos} (hN:X.N[i]? = some x) (hv:Vis X.env.scope x) (hp:Dm x=true):QE X (.Name x pos) (Ac i):=by
 intro Ex _ pins s σ H Q I h
 unfold Ac at h
 split at h
 ·rename_i v e
  exact ba3 hN hv (M6 hp).1 (M6 hp).2.1 pins s σ H Q I ⟨v,e,h⟩
 ·exact h.elim
theorem Ur (O:GOk X G) (x:Str) (pos:Pos):QE X (.Name x pos) (Vb G x):=by
 unfold Vb
 split
 ·rename_i i e
  split
  ·rename_i hp
   have hi:=Dq e
   exact bc7 (by rw [O.N];exact hi) (O.vis x (bC hi)) hp
  ·exact Be
 ·split
  ·rename_i hg
   have dd:=Il hg
   split
   ·rename_i v u e
    obtain⟨h1,h2⟩:=O.at_ x _ e
    exact fun _ _=>Hm (O.gl hg) h1 h2 dd.1
   ·rename_i C oi e
    exact fun _ _=>Hm (v:=.ref C) (O.gl hg) (O.at_ x _ e).1 rfl dd.1
   ·rename_i C oi e
    exact fun _ _=>Hm (v:=.ref C) (O.gl hg) (O.at_ x _ e).1 rfl dd.1
   ·rename_i C i e
    exact fun _ _=>Hm (v:=.ref C) (O.gl hg) (O.at_ x _ e).1 rfl dd.1
   ·exact Be
   ·split
    ·rename_i hb
     split
     ·rename_i T e
      exact fun _ _=>am0 (O.gl hg) (O.bl x hb) (Wr e) rfl dd.2.2 dd.1
     ·exact Be
    ·exact Be
  ·exact Be
noncomputable def ai2:Const->DE
 | .int i=>dC (.int i)
 | .bool b=>dC (.bl b)
 | .none=>dC .non
 | .str x=>dC (.str x)
 | _=>dNo
theorem Pu (c:Const) (j:Nat) (pos:Pos):QE X (.Constant c j pos) (ai2 c):=by
 cases c with
 | int i=>exact fun _ _=>a97
 | bool b=>exact fun _ _=>by1
 | none=>exact fun _ _=>a99
 | str x=>exact fun _ _=>ba1
 | _=>exact Be
variable {a b c:Expr} {da db dc:DE} {ta tb:DT} {es:List Expr} {r:DA} {pos:Pos}
theorem bb4 (op:jm) (ha:QE X a da) (hb:QE X b db):QE X (.BinOp a op b pos) (Ae (rOp X.K op) da db):=fun Ex m=>by3 (ce7 op) (ha Ex m) (hb Ex m)
theorem bc2 (ha:QE X a da):QE X (.UnaryOp .USub a pos) (dUn Uu da):=fun Ex m=>at3 cj5 (ha Ex m)
theorem bb8 (ha:QE X a da):QE X (.UnaryOp .Invert a pos) (dUn ae0 da):=fun Ex m=>at3 bu7 (ha Ex m)
theorem bb6 (hu:X.A.units+64<cLine) (op:jk) (ha:QE X a da) (hb:QE X b db) (hm:gf op b=false):QE X (.Compare a [op] [b] pos) (Ae (Ky X.K op) da db):=fun Ex m=>am1 (Lc hu op) (ha Ex m) (hb Ex m) hm
theorem bd7 (hu:X.A.units+64<cLine) (op:jk) (ha:QE X a da) (hb:QE X b db) (hm:gf op b=false):QT X (.Compare a [op] [b] pos) (A5 (Ae (Ky X.K op) da db)):=by
 intro Ex m pins s σ H Q I h
 refine wpAny_isTrue_Compare1 (thn (ha Ex m pins s σ H _ I h) fun v s1 ⟨x,H1,I1,r1,q1⟩=>thn (hb Ex m pins s1 σ H1 _ I1 q1) fun u s2 ⟨y,H2,I2,r2,q2⟩=>
  thn (Lc hu op pins s2 σ H2 x y v u _ I2 r1 r2 q2) fun c s3 ⟨z,H3,I3,r3,q3⟩=>?_) hm
 cases z with
 | bl k=>cases r3;exact cU ⟨H3,I3,q3⟩
 | _=>exact (show False from q3).elim
theorem ad0 (hu:X.A.units+64<cLine) (op op':jk) (ha:QE X a da) (hb:QE X b db) (hc:QE X c dc) (hm:lastMarks [op,op'] [b,c]=false) :
  QE X (.Compare a [op,op'] [b,c] pos) (Cy (Ky X.K op) (Ky X.K op') da db dc):=by
 intro Ex m pins s σ H Q I h
 refine Compare_chain (thn (ha Ex m pins s σ H _ I h) fun v s1 ⟨x,H1,I1,r1,q1⟩=>chain_link (thn (hb Ex m pins s1 σ H1 _ I1 q1) fun u s2 ⟨y,H2,I2,r2,q2⟩=>
  thn (Lc hu op pins s2 σ H2 x y v u _ I2 r1 r2 q2) fun d s3 ⟨z,H3,I3,r3,q3⟩=>?_)) hm
 cases z with
 | bl k=>
  cases r3
  refine cU ?_
  cases k with
  | false=>exact ite_ff ⟨.bl false,H3,I3,rfl,q3⟩
  | true=>exact ite_tt (chain_last (thn (hc Ex m pins s3 σ H3 _ I3 q3) fun w' s4 ⟨z',H4,I4,r4,q4⟩=>Lc hu op' pins s4 σ H4 y z' u w' Q I4 r2 r4 q4))
 | _=>exact (show False from q3).elim
theorem ad9 (hu:X.A.units+64<cLine) (op op':jk) (ha:QE X a da) (hb:QE X b db) (hc:QE X c dc) (hm:lastMarks [op,op'] [b,c]=false) :
  QT X (.Compare a [op,op'] [b,c] pos) (A5 (Cy (Ky X.K op) (Ky X.K op') da db dc)):=by
 intro Ex m pins s σ H Q I h
 refine isTrue_chain (thn (ha Ex m pins s σ H _ I h) fun v s1 ⟨x,H1,I1,r1,q1⟩=>test_link (thn (hb Ex m pins s1 σ H1 _ I1 q1) fun u s2 ⟨y,H2,I2,r2,q2⟩=>
  thn (Lc hu op pins s2 σ H2 x y v u _ I2 r1 r2 q2) fun d s3 ⟨z,H3,I3,r3,q3⟩=>?_)) hm
 cases z with
 | bl k=>
  cases r3
  refine cU ?_
  cases k with
  | false=>exact ite_ff ⟨H3,I3,q3⟩
  | true=>
   refine ite_tt (test_last (thn (hc Ex m pins s3 σ H3 _ I3 q3) fun w' s4 ⟨z',H4,I4,r4,q4⟩=>thn (Lc hu op' pins s4 σ H4 y z' u w' _ I4 r2 r4 q4) fun d' s5 ⟨z2,H5,I5,r5,q5⟩=>?_))
   cases z2 with
   | bl k2=>cases r5;exact cU ⟨H5,I5,q5⟩
   | _=>exact (show False from q5).elim
 | _=>exact (show False from q3).elim
noncomputable def ac0:Expr->Bool
 | .UnaryOp .Not _ _=>false
 | .BoolOp _ _ _=>false
 | .IfExp _ _ _ _=>false
 | .Compare _ _ _ _=>false
 | _=>true
theorem Wb {e:Expr} (h:ac0 e=true) (whole:Sem Value):isTrue e X.env whole=(do let v <- whole;iW e.pos;holding [v] (truthy v)):=by
 cases e with
 | UnaryOp op _ _=>cases op <;> first|rfl|cases h
 | BoolOp _ _ _=>cases h
 | IfExp _ _ _ _=>cases h
 | Compare _ _ _ _=>cases h
 | _=>rfl
theorem bd9 (ha:QE X a da) (h:ac0 a=true):QT X a (Ku X.K da):=by
 intro Ex m pins s σ H Q I hw
 exact isTrue_plain (thn (ha Ex m pins s σ H _ I hw) fun v s1 ⟨x,H1,I1,r1,q1⟩=>U8 pins s1 σ H1 x v Q I1 r1 q1) (Wb h _)
theorem bd8 (ha:QT X a ta):QT X (.UnaryOp .Not a pos) (O6 ta):=fun Ex m=>ba9 (ha Ex m)
theorem ao3 (ha:QT X a ta):QW X (.BoolOp .And [a] pos) ta:=fun Ex m=>an1 (ha Ex m)
theorem be1 (ha:QT X a ta):QW X (.BoolOp .Or [a] pos) ta:=fun Ex m=>bb1 (ha Ex m)
theorem be0 (ha:QT X a ta) (hb:QW X (.BoolOp .And (b::es) pos) tb):QW X (.BoolOp .And (a::b::es) pos) (Y0 ta tb):=fun Ex m=>bb0 (ha Ex m) (hb Ex m)
theorem bz5 (ha:QT X a ta) (hb:QW X (.BoolOp .Or (b::es) pos) tb):QW X (.BoolOp .Or (a::b::es) pos) (dOr ta tb):=fun Ex m=>by8 (ha Ex m) (hb Ex m)
theorem bc4 {op:BoolOp} (ha:QE X a da):QE X (.BoolOp op [a] pos) da:=fun Ex m=>ba0 (ha Ex m)
theorem bb3 (ha:QE X a da) (hb:QE X (.BoolOp .And (b::es) pos) db):QE X (.BoolOp .And (a::b::es) pos) (Cm X.K da db):=by
 intro Ex m pins s σ H Q I h
 refine BoolOp_and (thn (ha Ex m pins s σ H _ I h) fun v s1 ⟨x,H1,I1,r1,q1⟩=>thn (U8 pins s1 σ H1 x v _ I1 r1 q1) fun k s2 ⟨H2,I2,q2⟩=>?_)
 cases k with
 | true=>exact hb Ex m pins s2 σ H2 Q I2 q2
 | false=>exact⟨x,H2,I2,r1,q2⟩
theorem bz2 (ha:QE X a da) (hb:QE X (.BoolOp .Or (b::es) pos) db):QE X (.BoolOp .Or (a::b::es) pos) (aj5 X.K da db):=by
 intro Ex m pins s σ H Q I h
 refine BoolOp_or (thn (ha Ex m pins s σ H _ I h) fun v s1 ⟨x,H1,I1,r1,q1⟩=>thn (U8 pins s1 σ H1 x v _ I1 r1 q1) fun k s2 ⟨H2,I2,q2⟩=>?_)
 cases k with
 | false=>exact hb Ex m pins s2 σ H2 Q I2 q2
 | true=>exact⟨x,H2,I2,r1,q2⟩
theorem bc3 (ha:QE X a da):QE X (.UnaryOp .Not a pos) (Y3 X.K da):=by
 intro Ex m pins s σ H Q I h
 refine UnaryOp_ (thn (ha Ex m pins s σ H _ I h) fun v s1 ⟨x,H1,I1,r1,q1⟩=>not_of (thn (U8 pins s1 σ H1 x v _ I1 r1 q1) fun k s2 ⟨H2,I2,q2⟩=>?_))
 exact⟨.bl (!k),H2,I2,rfl,q2⟩
theorem by9 {t:Expr} (ht:QT X t ta) (ha:QE X a da) (hb:QE X b db):QE X (.IfExp t a b pos) (bt4 ta da db):=fun Ex m=>ab3 (ht Ex m) (ha Ex m) (hb Ex m)
noncomputable def noStar:Expr->Bool
 | .Starred _ _=>false
 | _=>true
theorem Ba {e:Expr} (h:noStar e=true) (es:List Expr) (env:Env):cn (e::es) env=(false,eval e env)::cn es env:=by
 cases e with
 | Starred _ _=>cases h
 | _=>rfl
theorem Bb {es:List Expr} (h:es.all noStar=true) (env:Env) (pos:Pos):(g7 pos (cn es env)).any (·.1)=false:=by
 induction es with
 | nil=>rfl
 | cons e es ih=>
  rw [bj,au] at h
  rw [Ba h.1]
  show (false||(g7 pos (cn es env)).any (·.1))=false
  rw [ih h.2]
  rfl
theorem G6 {es:List Expr} (h:es.all noStar=true) (env:Env) (pos:Pos):(g7 pos (cn es env)).all (fun x=>!x.1)=true:=by
 induction es with
 | nil=>rfl
 | cons e es ih=>
  rw [bj,au] at h
  rw [Ba h.1]
  show (true&&(g7 pos (cn es env)).all (fun x=>!x.1))=true
  rw [ih h.2]
  rfl
theorem ac7:QA X [] Ag:=fun _ _=>a96
theorem Um (ha:QE X a da) (hr:QA X es r) (hs:noStar a=true):QA X (a::es) (Ab da r):=fun Ex m=>al9 (ha Ex m) (hr Ex m) (Ba hs es X.env)
theorem bc6 {k:Nat} (h:QA X es r):QE X (.Tuple es k pos) (Bq r):=fun Ex m=>ba2 (h Ex m)
theorem bb9 (h:QA X es r):QE X (.List es pos) (Dg r):=fun Ex m=>a98 (h Ex m)
noncomputable def F7:Expr->Bool
 | .Slice _ _ _ _=>false
 | _=>true
theorem Q6 {e:Expr} (h:F7 e=true):Te e:=by
 intro o i
 cases e with
 | Slice _ _ _ _=>cases h
 | _=>rfl
theorem bz0 (hu:X.A.units+64<cLine) (ha:QE X a da) (hb:QE X b db) (h:F7 b=true):QE X (.Subscript a b pos) (Ae (Am X.K) da db):=fun Ex m=>by2 (ce4 hu) (ha Ex m) (hb Ex m) (Q6 h)
theorem an2 {f:Str} (ha:QE X a da) (h:ge a f X.env (eval a X.env)=eval a X.env):QE X (.Attribute a f pos) (dUn (Ao X.K f) da):=by
 intro Ex m pins s σ H Q I hw
 exact aj0 h (thn (ha Ex m pins s σ H _ I hw) fun u s1 ⟨x,H1,I1,rx,q⟩=>bu3 I1 rx q)
end
end L2
namespace PySem.SeqAt
open AutoSeq1 (wpAny_loadPart')
open MeetsSeq MeetsSeq2 MeetsSeq3
end PySem.SeqAt
namespace PySem.W
open PySem PySem.Calls PyProof.Rows
noncomputable def kRun {α:Type} (n:Nat) (lt:Nat->Nat->Bool):KasT α->Option α
 | .ret a=>some a
 | .ask i j k=>if i<n/\j<n then kRun n lt (k (lt i j)) else none
theorem kRun_wp {α:Type} {n:Nat} {lt:Nat->Nat->Bool} {cmp:Nat->Nat->(Bool->ah->Prop)->ah->Prop} {G:α->ah->Prop} {s:ah} (h:∀ i j C,i<n->j<n->C (lt i j) s->cmp i j C s) :
  ∀ {t:KasT α} {a:α},kRun n lt t=some a->G a s->t.kasWp cmp G s
 | .ret b,a,e,g=>by
  have:b=a:=aM e
  subst this
  exact g
 | .ask i j k,a,e,g=>by
  unfold kRun at e
  split at e
  ·rename_i hij
   exact h i j _ hij.1 hij.2 (kRun_wp h e g)
  ·cases e
section
variable {prog:aE} {w:bq} {A:aT} {E:Value->ah->Prop} {s:ah} {vs:List Value}
noncomputable def SoFin (a:Addr) (e:Nat) (out:List Value) (C:ah->Prop) (s:ah):Prop:=
 s.heap.get? a=some (cw "list" #[] e) /\ ∀ h' c,h'.get? a=some (cw "list" (dq out) c)->cC a s.heap h'->C { s with heap:=h' }
theorem SoFin.mono {a:Addr} {e:Nat} {out:List Value} {C C':ah->Prop} (h:SoFin a e out C s) (hc:∀ s,C s->C' s):SoFin a e out C' s:=⟨h.1,fun h' c x y=>hc _ (h.2 h' c x y)⟩
theorem Nf {n:Nat} {a:Addr} {P:PySem.Fin->ah->Prop} (ho:s.heap.get? a=some (cw "list" vs.toArray n)) (h2:2<=vs.length) (h64:vs.length<64)
  (h:∀ e1 h',h'.get? a=some (cw "list" #[] e1)->(∀ b o,b≠a->s.heap.get? b=some o->h'.get? b=some o) ->
   aI (model prog w) A (keyKind' vs.toArray) (fun κ s'=>(kas_sort vs.length).kasWp (kas_ask prog w A κ vs) (fun p s''=>SoFin a e1 (p.toList.map fun i=>vs.getD i bh) (fun s3=>P (.done (.ret .none)) s3) s'') s') (fun _ _=>False) { s with heap:=h' }) :
  aI (model prog w) A (bi.«list.sort» ⟨[.ref a],[]⟩) P E s:=by
 have ha:a<s.heap.objs.size:=aA ho
 have s1:=dL s.heap a (bO fun _=>(#[]:Array Value))
 obtain⟨e1,ho1⟩:∃ e1,(s.heap.update a (bO fun _=>(#[]:Array Value))).get? a=some (cw "list" #[] e1):=⟨_,fk ho fun _=>#[]⟩
 have ask:=h e1 (((s.heap.update a (bO fun _=>(#[]:Array Value))).push (cw "tuple" vs.toArray 0)).push (cw "list" #[] 0)) (af _ (af _ ho1))
  (fun b o nb e=>af _ (af _ ((s1.2 b nb).trans e)))
 rw [list_sort_plain]
 refine ag (listItems_at ho rfl ?_)
 refine ag (gk ho rfl ?_ (by rw [al,bD];omega) (bT _))
 refine ag (iq ho1 rfl ?_)
 refine ag (wpAny_newTuple ?_ (by show vs.length<=_;rw [bD];omega))
 refine ag (gq ?_ (bT _))
 refine bv ?_
 show aI (model prog w) A _ P E { s with heap:=((s.heap.update a (bO fun _=>(#[]:Array Value))).push (cw "tuple" vs.toArray 0)).push (cw "list" #[] 0) }
 dsimp only
 have hn2:¬ vs.toArray.size<2:=by rw [al];omega
 rw [if_neg hn2,if_neg hn2]
 refine ag (bP ask (fun κ s0 hk=>?_) fun _ _ x=>x.elim)
 refine ag (bP (kat_run (Q:=fun st' s'=>∃ p:Array Nat,p.size=vs.length/\arrOf st'=p.map (kas_item (vs.toArray.zip vs.toArray))/\failedOf st'=none/\SoFin a e1 (p.toList.map fun i=>vs.getD i bh) (fun s''=>P (.done (.ret .none)) s'') s')
  rfl h2 h64 (fun p' st' s' a1 a2 a3 a4=>⟨p',a1,a2,a3,a4⟩) hk) ?_ fun _ _ e=>e)
 rintro⟨⟨⟩,st'⟩ s' ⟨p,hp,har,hf,na,k⟩
 dsimp only
 have hout:=kat_snds rfl har
 have hsz:(dq (p.toList.map fun i=>vs.getD i bh)).size=vs.length:=by rw [al,aw,bS,hp]
 rw [hout]
 have s2:=dL s'.heap a (bO fun _=>dq (p.toList.map fun i=>vs.getD i bh))
 obtain⟨c2,hc2⟩:∃ c2,(s'.heap.update a (bO fun _=>dq (p.toList.map fun i=>vs.getD i bh))).get? a=some (cw "list" (dq (p.toList.map fun i=>vs.getD i bh)) c2):=⟨_,fk na fun _=>dq (p.toList.map fun i=>vs.getD i bh)⟩
 refine ag (iq na rfl ?_)
 refine ag (gk na rfl ?_ (bT _) (aD (i3 hsz) (by rw [bD];omega)))
 rw [hf]
 simp only [bne_self_eq_false,dX,if_false]
 exact am (k _ c2 hc2 s2)
end
end PySem.W
namespace L2
open PySem PySem.Spec PyProof.Rows
section
variable {X:Cx} {pins:List (Addr×Obj)} {σ:St} {H:Hp} {s:ah}
theorem Qb {xs:List V} {us:List Value} (r:Vals xs us) {i:Nat} (h:i<us.length):∃ x,xs[i]? = some x/\RelV x (us.getD i bh):=by
 have hl:=r.length
 obtain⟨u,hu,ru⟩:=r.get (i:=i) (x:=xs[i]'(by omega)) (aq (by omega))
 refine⟨_,aq (by omega),?_⟩
 rw [ar,hu]
 exact ru
theorem Lz {xs:List V} {us:List Value} (r:Vals xs us):∀ (p:List Nat),(∀ i∈p,i<us.length)->Vals (p.map fun i=>xs.getD i .non) (p.map fun i=>us.getD i bh)
 | [],_=>.nil
 | i::p,h=>by
  obtain⟨x,hx,rx⟩:=Qb r (h i c6)
  refine .cons ?_ (Lz r p fun j hj=>h j (aJ _ hj))
  show RelV (xs.getD i .non) _
  rw [ar,hx]
  exact rx
end
theorem O3:cq "sorted" = some (.builtin "sorted"):=by decide +kernel
end L2
set_option maxHeartbeats 1000000
namespace PySem.W
open PySem PySem.Calls PyProof.Rows
section
variable {n:Nat} {lt:Nat->Nat->Bool}
theorem Cs {α β:Type} {f:α->KasT β}:∀ t:KasT α,kRun n lt (t.bind f)=(kRun n lt t).bind fun a=>kRun n lt (f a)
 | .ret a=>rfl
 | .ask i j k=>by
  show (if i<n/\j<n then kRun n lt ((k (lt i j)).bind f) else none)=(if i<n/\j<n then kRun n lt (k (lt i j)) else none).bind _
  by_cases h:i<n/\j<n
  ·rw [if_pos h,if_pos h,Cs (k (lt i j))]
  ·rw [if_neg h,if_neg h];rfl
structure Tot (n:Nat) (lt:Nat->Nat->Bool):Prop where
 tot:∀ i j,i<n->j<n->i≠j->lt i j = !lt j i
 tr:∀ i j k,i<n->j<n->k<n->lt i j=true->lt j k=true->lt i k=true
noncomputable def pg (p:Array Nat) (i:Nat):Nat:=p.getD i 0
noncomputable def PermN (n:Nat) (p:Array Nat):Prop:=p.toList.Perm (cB n)
theorem PermN.size {p:Array Nat} (h:PermN n p):p.size=n:=by
 have:=h.length_eq
 simpa using this
theorem pg_get {p:Array Nat} {i:Nat} (h:i<p.size):p[i]? = some (pg p i):=by
 unfold pg
 rw [Array.getD_eq_getD_getElem?,fC h]
 rfl
theorem PermN.bd {p:Array Nat} (h:PermN n p) {i:Nat} (hi:i<n):pg p i<n:=by
 have hs:i<p.size:=by rw [h.size];exact hi
 have hm:pg p i∈p.toList:=by
  have:=pg_get hs
  rw [<- bU] at this
  exact bC this
 exact List.mem_range.mp (h.mem_iff.mp hm)
theorem PermN.inj {p:Array Nat} (h:PermN n p) {i j:Nat} (hi:i<n) (hj:j<n) (e:pg p i=pg p j):i=j:=by
 have nd:p.toList.Nodup:=(h.nodup_iff).mpr List.nodup_range
 have ei:=pg_get (p:=p) (i:=i) (by rw [h.size];exact hi)
 have ej:=pg_get (p:=p) (i:=j) (by rw [h.size];exact hj)
 rw [<- bU] at ei ej
 have li:i<p.toList.length:=by rw [bS,h.size];exact hi
 refine (List.getElem?_inj li nd).mp ?_
 rw [ei,ej,e]
noncomputable def Srt (lt:Nat->Nat->Bool) (p:Array Nat) (m:Nat):Prop:=∀ i j,i<j->j<m->lt (pg p i) (pg p j)=true
noncomputable def Dsc (lt:Nat->Nat->Bool) (p:Array Nat) (m:Nat):Prop:=∀ i j,i<j->j<m->lt (pg p j) (pg p i)=true
theorem Dk {α:Type} {i j:Nat} {k:Bool->KasT α} (hi:i<n) (hj:j<n):kRun n lt (.ask i j k)=kRun n lt (k (lt i j)):=if_pos ⟨hi,hj⟩
variable (T:Tot n lt) {p:Array Nat} (h:PermN n p)
include T h
theorem Fp:∀ f k,1<=k->k+f<=n->Srt lt p k -> ∃ m,kRun n lt (jr p f k)=some m/\k<=m/\m<=k+f/\Srt lt p m
 | 0,k,h1,h2,hs=>⟨k,rfl,ae _,ae _,hs⟩
 | f+1,k,h1,h2,hs=>by
  have e:kRun n lt (jr p (f+1) k)=kRun n lt (if lt (pg p k) (pg p (k - 1))=true then .ret k else jr p f (k+1)):=Dk (h.bd (by omega)) (h.bd (by omega))
  rw [e]
  cases c:lt (pg p k) (pg p (k - 1)) with
  | true=>exact⟨k,rfl,ae _,by omega,hs⟩
  | false=>
   have c1:lt (pg p (k - 1)) (pg p k)=true:=by
    rw [T.tot _ _ (h.bd (by omega)) (h.bd (by omega)) (fun q=>by have:=h.inj (by omega) (by omega) q;omega),c];rfl
   obtain⟨m,r1,r2,r3,r4⟩:=Fp f (k+1) (by omega) (by omega) (fun i j hij hj=>by
    by_cases hk:j<k
    ·exact hs i j hij hk
    ·have:j=k:=by omega
     subst this
     by_cases hi:i=j - 1
     ·subst hi;exact c1
     ·exact T.tr _ _ _ (h.bd (by omega)) (h.bd (by omega)) (h.bd (by omega)) (hs i (j - 1) (by omega) (by omega)) c1)
   exact⟨m,r1,by omega,by omega,r4⟩
theorem O9:∀ f k,1<=k->k+f<=n->Dsc lt p k -> ∃ m,kRun n lt (iH f p k 0)=some (p,m,0)/\k<=m/\m<=k+f/\Dsc lt p m
 | 0,k,h1,h2,hs=>⟨k,rfl,ae _,ae _,hs⟩
 | f+1,k,h1,h2,hs=>by
  have e:kRun n lt (iH (f+1) p k 0)=kRun n lt (if lt (pg p k) (pg p (k - 1))=true then (if 0 > 0 then iH f (g_ p (k - (0+1)) k) (k+1) 0 else iH f p (k+1) 0) else .ask (pg p (k - 1)) (pg p k) fun d=>if d=true then .ret (p,k,0) else iH f p (k+1) (0+1)):=Dk (h.bd (by omega)) (h.bd (by omega))
  rw [e]
  cases c:lt (pg p k) (pg p (k - 1)) with
  | true=>
   rw [if_pos rfl,if_neg (by omega)]
   obtain⟨m,r1,r2,r3,r4⟩:=O9 f (k+1) (by omega) (by omega) (fun i j hij hj=>by
    by_cases hk:j<k
    ·exact hs i j hij hk
    ·have:j=k:=by omega
     subst this
     by_cases hi:i=j - 1
     ·subst hi;exact c
     ·exact T.tr _ _ _ (h.bd (by omega)) (h.bd (by omega)) (h.bd (by omega)) c (hs i (j - 1) (by omega) (by omega)))
   exact⟨m,r1,by omega,by omega,r4⟩
  | false=>
   have c1:lt (pg p (k - 1)) (pg p k)=true:=by
    rw [T.tot _ _ (h.bd (by omega)) (h.bd (by omega)) (fun q=>by have:=h.inj (by omega) (by omega) q;omega),c];rfl
   rw [if_neg aj,Dk (h.bd (by omega)) (h.bd (by omega)),c1]
   exact⟨k,rfl,ae _,by omega,hs⟩
omit T in
theorem ao6 {m:Nat} (hm:m<=n) (hd:Dsc lt p m):PermN n (g_ p 0 m)/\Srt lt (g_ p 0 m) m:=by
 have hp:PermN n (g_ p 0 m):=by
  have:=mirror_perm p 0 m ((m - 0) / 2)
  exact (Array.perm_iff_toList_perm.mp this).trans h
 have gt:∀ k,k<m->pg (g_ p 0 m) k=pg p (m - 1 - k):=fun k hk=>by
  have e:=getElem?_mirror_all (xs:=p) (i:=0) (j:=m) (by rw [h.size];exact hm) k
  have e1:(g_ p 0 m)[k]? = some (pg (g_ p 0 m) k):=pg_get (by rw [hp.size];omega)
  have e2:p[m - 1 - k]? = some (pg p (m - 1 - k)):=pg_get (by rw [h.size];omega)
  have e':(g_ p 0 m)[k]? = p[m - 1 - k]?:=by
   refine e.trans ?_
   rw [if_pos (by omega)]
   congr 1
   omega
  rw [e1,e2] at e'
  exact aM e'
 refine⟨hp,fun i j hij hj=>?_⟩
 rw [gt i (by omega),gt j hj]
 exact hd _ _ (by omega) (by omega)
theorem Vn (hn:1<=n):∃ m p',kRun n lt (kas_count n p)=some (m,p')/\PermN n p'/\1<=m/\m<=n/\Srt lt p' m:=by
 obtain⟨m,r1,r2,r3,r4⟩:=Fp T h (n - 1) 1 (ae _) (by omega) (fun i j hij hj=>by omega)
 unfold kas_count
 rw [Cs,r1,bQ]
 by_cases hm:m=n
 ·have e:(m==n)=true:=by rw [hm];exact beq_self_eq_true n
  rw [if_pos e]
  exact⟨m,p,rfl,h,r2,by omega,r4⟩
 ·have e:¬ (m==n)=true:=fun q=>hm (beq_iff_eq.mp q)
  rw [if_neg e]
  by_cases h1:m > 1
  ·rw [if_pos h1]
   have:=Dk (n:=n) (lt:=lt) (k:=fun c=>if c=true then KasT.ret (m,p) else kas_descPart m n (g_ p 0 m)) (h.bd (i:=0) (by omega)) (h.bd (i:=m - 1) (by omega))
   refine⟨m,p,this.trans ?_,h,r2,by omega,r4⟩
   have e1:lt (pg p 0) (pg p (m - 1))=true:=r4 0 (m - 1) (by omega) (by omega)
   rw [e1]
   rfl
  ·rw [if_neg h1]
   have hm1:m=1:=by omega
   subst hm1
   unfold kas_descPart
   have hd:∃ d,kRun n lt (iH (n - (1+1)) p (1+1) 0)=some (p,d,0)/\1<=d/\d<=n/\Dsc lt p d:=by
    by_cases c:lt (pg p 1) (pg p 0)=true
    ·obtain⟨d,q1,q2,q3,q4⟩:=O9 T h (n - 2) 2 (by omega) (by omega) (fun i j hij hj=>by
      have:i=0:=by omega
      have:j=1:=by omega
      subst i j;exact c)
     exact⟨d,q1,by omega,by omega,q4⟩
    ·exfalso
     have e:=Fp T h (n - 1) 1 (ae _) (by omega) (fun i j hij hj=>by omega)
     obtain⟨m',a1,a2,a3,a4⟩:=e
     obtain⟨f,hf⟩:∃ f,n - 1=f+1:=⟨n - 2,by omega⟩
     rw [hf] at r1
     have e2:kRun n lt (jr p (f+1) 1)=kRun n lt (if lt (pg p 1) (pg p (1 - 1))=true then .ret 1 else jr p f (1+1)):=Dk (h.bd (by omega)) (h.bd (by omega))
     rw [e2,if_neg c] at r1
     have c0:lt (pg p 1) (pg p 0)=false:=by simpa using c
     have c1:lt (pg p 0) (pg p 1)=true:=by
      rw [T.tot _ _ (h.bd (by omega)) (h.bd (by omega)) (fun q=>by have:=h.inj (by omega) (by omega) q;omega),c0];rfl
     obtain⟨m2,b1,b2,b3,b4⟩:=Fp T h f 2 (by omega) (by omega) (fun i j hij hj=>by
      have:i=0:=by omega
      have:j=1:=by omega
      subst i j;exact c1)
     rw [r1] at b1
     cases b1
     omega
   obtain⟨d,q1,q2,q3,q4⟩:=hd
   rw [Cs,q1,bQ]
   show ∃ m p',kRun n lt (if 0 > 0 then _ else kas_tail3 d n p)=some (m,p')/\_
   rw [if_neg (by omega)]
   unfold kas_tail3
   obtain⟨hp,hs⟩:=ao6 h q3 q4
   obtain⟨m',a1,a2,a3,a4⟩:=Fp T hp (n - d) d q2 (by omega) hs
   rw [Cs,a1,bQ]
   exact⟨m',_,rfl,hp,by omega,by omega,a4⟩
theorem Gx {k:Nat} (hk:k<n) (hs:Srt lt p k):∀ f l r,l<=r->r<=k->r - l<=f->(∀ i,i<l->lt (pg p i) (pg p k)=true)->(∀ i,r<=i->i<k->lt (pg p k) (pg p i)=true) ->
  ∃ m,kRun n lt (fm p k f l r)=some m/\m<=k/\(∀ i,i<m->lt (pg p i) (pg p k)=true)/\(∀ i,m<=i->i<k->lt (pg p k) (pg p i)=true)
 | 0,l,r,h1,h2,h3,hl,hr=>⟨l,rfl,by omega,hl,fun i a b=>hr i (by omega) b⟩
 | f+1,l,r,h1,h2,h3,hl,hr=>by
  by_cases hlr:l ≥ r
  ·have e:fm p k (f+1) l r=.ret l:=by unfold fm;rw [if_pos hlr]
   rw [e]
   exact⟨l,rfl,by omega,hl,fun i a b=>hr i (by omega) b⟩
  ·have e:kRun n lt (fm p k (f+1) l r)=kRun n lt (if lt (pg p k) (pg p ((l+r) / 2))=true then fm p k f l ((l+r) / 2) else fm p k f ((l+r) / 2+1) r):=by
    conv=>lhs;unfold fm
    rw [if_neg hlr]
    exact Dk (h.bd hk) (h.bd (by omega))
   rw [e]
   have hm1:l<=(l+r) / 2:=by omega
   have hm2:(l+r) / 2<r:=by omega
   generalize (l+r) / 2=mid at hm1 hm2 ⊢
   cases c:lt (pg p k) (pg p mid) with
   | true=>
    rw [if_pos rfl]
    refine Gx hk hs f l mid hm1 (by omega) (by omega) hl fun i a b=>?_
    by_cases hi:i=mid
    ·subst hi;exact c
    ·exact T.tr _ _ _ (h.bd hk) (h.bd (by omega)) (h.bd (by omega)) c (hs mid i (by omega) b)
   | false=>
    rw [if_neg aj]
    have c1:lt (pg p mid) (pg p k)=true:=by
     rw [T.tot _ _ (h.bd (by omega)) (h.bd hk) (fun q=>by have:=h.inj (by omega) hk q;omega),c];rfl
    refine Gx hk hs f (mid+1) r (by omega) h2 (by omega) (fun i a=>?_) hr
    by_cases hi:i=mid
    ·subst hi;exact c1
    ·exact T.tr _ _ _ (h.bd (by omega)) (h.bd (by omega)) (h.bd hk) (hs i mid (by omega) (by omega)) c1
omit T in
theorem Qg {k l:Nat} (hk:k<n) (hl:l<=k) (hs:Srt lt p k) (h1:∀ i,i<l->lt (pg p i) (pg p k)=true) (h2:∀ i,l<=i->i<k->lt (pg p k) (pg p i)=true):PermN n (jj p k (k - l))/\Srt lt (jj p k (k - l)) (k+1):=by
 have hp:PermN n (jj p k (k - l)):=(Array.perm_iff_toList_perm.mp (bubble_perm p k (k - l))).trans h
 have hk':k<p.size:=by rw [h.size];exact hk
 have gt:∀ i,i<k+1->pg (jj p k (k - l)) i=if i=l then pg p k else if l<i then pg p (i - 1) else pg p i:=fun i hi=>by
  have e:=getElem?_bubble hk' (k - l) (by omega) i
  have e1:(jj p k (k - l))[i]? = some (pg (jj p k (k - l)) i):=pg_get (by rw [hp.size];omega)
  rw [e1,show k - (k - l)=l by omega] at e
  by_cases a:i=l
  ·rw [if_pos a] at e ⊢
   rw [pg_get hk'] at e
   exact aM e
  ·rw [if_neg a] at e ⊢
   by_cases b:l<i
   ·rw [if_pos ⟨b,by omega⟩] at e
    rw [if_pos b]
    rw [pg_get (by rw [h.size];omega)] at e
    exact aM e
   ·rw [if_neg (fun q=>b q.1)] at e
    rw [if_neg b]
    rw [pg_get (by rw [h.size];omega)] at e
    exact aM e
 refine⟨hp,fun i j hij hj=>?_⟩
 rw [gt i (by omega),gt j hj]
 by_cases a:i=l
 ·rw [if_pos a,if_neg (by omega),if_pos (by omega)]
  exact h2 (j - 1) (by omega) (by omega)
 ·rw [if_neg a]
  by_cases b:l<i
  ·rw [if_pos b,if_neg (by omega),if_pos (by omega)]
   exact hs (i - 1) (j - 1) (by omega) (by omega)
  ·rw [if_neg b]
   by_cases c:j=l
   ·rw [if_pos c];exact h1 i (by omega)
   ·rw [if_neg c]
    by_cases d:l<j
    ·rw [if_pos d]
     exact hs i (j - 1) (by omega) (by omega)
    ·rw [if_neg d];exact hs i j hij (by omega)
end
theorem Tj {n:Nat} {lt:Nat->Nat->Bool} (T:Tot n lt):∀ (f:Nat) (p:Array Nat) (k:Nat),PermN n p->k+f=n->Srt lt p k -> ∃ p',kRun n lt (kas_bin f p k)=some p'/\PermN n p'/\Srt lt p' n
 | 0,p,k,h,e,hs=>⟨p,rfl,h,by rw [<- e];exact hs⟩
 | f+1,p,k,h,e,hs=>by
  obtain⟨l,a1,a2,a3,a4⟩:=Gx T h (k:=k) (by omega) hs k 0 k (bT _) (ae _) (by omega) (fun i hi=>by omega) (fun i a b=>by omega)
  obtain⟨b1,b2⟩:=Qg h (by omega) a2 hs a3 a4
  obtain⟨p',c1,c2,c3⟩:=Tj T f _ (k+1) b1 (by omega) b2
  refine⟨p',?_,c2,c3⟩
  show kRun n lt ((fm p k k 0 k).bind fun l=>kas_bin f (jj p k (k - l)) (k+1))=some p'
  rw [Cs,a1]
  exact c1
theorem sort_run {n:Nat} {lt:Nat->Nat->Bool} (T:Tot n lt) (hn:1<=n):∃ p,kRun n lt (kas_sort n)=some p/\PermN n p/\Srt lt p n:=by
 have h0:PermN n (dq (cB n)):=by show (dq (cB n)).toList.Perm _;exact fE _
 obtain⟨m,p,r1,r2,r3,r4,r5⟩:=Vn T h0 hn
 unfold kas_sort
 rw [Cs,r1,bQ]
 show ∃ q,kRun n lt (if m<n then kas_bin (n - max m 1) p (max m 1) else .ret p)=some q/\_
 by_cases h:m<n
 ·rw [if_pos h,Nat.max_eq_left r3]
  exact Tj T (n - m) p m r2 (by omega) r5
 ·rw [if_neg h]
  have:m=n:=by omega
  subst this
  exact⟨p,rfl,r2,r5⟩
end PySem.W
namespace L2
open PySem PySem.Spec PyProof.Rows
section
variable {α:Type}
noncomputable def Vv (lt:α->α->Bool) (z:α):List α->List α
 | []=>[z]
 | y::ys=>if lt z y=true then z::y::ys else y::Vv lt z ys
noncomputable def K1 (lt:α->α->Bool):List α->List α
 | []=>[]
 | z::zs=>Vv lt z (K1 lt zs)
structure OrdL (lt:α->α->Bool) (zs:List α):Prop where
 tot:∀ a∈zs,∀ b∈zs,a≠b->lt a b = !lt b a
 tr:∀ a∈zs,∀ b∈zs,∀ c∈zs,lt a b=true->lt b c=true->lt a c=true
 nd:zs.Nodup
theorem Gp (lt:α->α->Bool) (z:α):∀ ys:List α,(Vv lt z ys).Perm (z::ys)
 | []=>fE _
 | y::ys=>by
  unfold Vv
  split
  ·exact fE _
  ·exact ((Gp lt z ys).cons y).trans (List.Perm.swap z y ys)
theorem Cu (lt:α->α->Bool):∀ zs:List α,(K1 lt zs).Perm zs
 | []=>fE _
 | z::zs=>(Gp lt z _).trans ((Cu lt zs).cons z)
theorem OrdL.of {lt:α->α->Bool} {zs ys:List α} (h:OrdL lt zs) (hs:∀ a∈ys,a∈zs) (nd:ys.Nodup):OrdL lt ys:=⟨fun a ha b hb=>h.tot a (hs a ha) b (hs b hb),fun a ha b hb c hc=>h.tr a (hs a ha) b (hs b hb) c (hs c hc),nd⟩
theorem Lk {lt:α->α->Bool} {z:α}:∀ {ys:List α},OrdL lt (z::ys)->ys.Pairwise (fun a b=>lt a b=true)->(Vv lt z ys).Pairwise (fun a b=>lt a b=true)
 | [],_,_=>List.pairwise_singleton _ _
 | y::ys,h,hp=>by
  rw [c7] at hp
  have nd:=h.nd
  rw [bJ] at nd
  have ny:=nd.2
  rw [bJ] at ny
  unfold Vv
  split
  ·rename_i c
   refine List.pairwise_cons.mpr ⟨fun b hb=>?_,List.pairwise_cons.mpr hp⟩
   rcases List.mem_cons.mp hb with rfl|hb'
   ·exact c
   ·exact h.tr z (.head _) y (.tail _ (.head _)) b (.tail _ hb) c (hp.1 b hb')
  ·rename_i c
   have c:lt z y=false:=by simpa using c
   have c1:lt y z=true:=by rw [h.tot y (.tail _ (.head _)) z (.head _) (fun e=>nd.1 (e▸.head _)),c];rfl
   have hz:OrdL lt (z::ys):=h.of (fun a ha=>by rcases List.mem_cons.mp ha with rfl|q;exact .head _;exact .tail _ (.tail _ q)) (List.nodup_cons.mpr ⟨fun q=>nd.1 (.tail _ q),ny.2⟩)
   refine List.pairwise_cons.mpr ⟨fun b hb=>?_,Lk hz hp.2⟩
   rcases List.mem_cons.mp ((Gp lt z ys).mem_iff.mp hb) with rfl|hb'
   ·exact c1
   ·exact hp.1 b hb'
theorem Lx {lt:α->α->Bool}:∀ {zs:List α},OrdL lt zs->(K1 lt zs).Pairwise (fun a b=>lt a b=true)
 | [],_=>List.Pairwise.nil
 | z::zs,h=>by
  have nd:=List.nodup_cons.mp h.nd
  have hz:OrdL lt zs:=h.of (fun a ha=>.tail _ ha) nd.2
  refine Lk (h.of (fun a ha=>?_) ?_) (Lx hz)
  ·rcases List.mem_cons.mp ha with rfl|q
   ·exact .head _
   ·exact .tail _ ((Cu lt zs).mem_iff.mp q)
  ·exact List.nodup_cons.mpr ⟨fun q=>nd.1 ((Cu lt zs).mem_iff.mp q),((Cu lt zs).nodup_iff).mpr nd.2⟩
theorem Lv {lt:α->α->Bool}:∀ {xs ys:List α},OrdL lt xs->xs.Perm ys->xs.Pairwise (fun a b=>lt a b=true)->ys.Pairwise (fun a b=>lt a b=true)->xs=ys
 | [],ys,_,h,_,_=>(List.Perm.nil_eq h)
 | x::xs,[],_,h,_,_=>absurd h.symm.nil_eq (by simp)
 | x::xs,y::ys,o,h,hx,hy=>by
  rw [c7] at hx hy
  have e:x=y:=by
   apply fD
   intro ne
   have m1:x∈ys:=by
    have:x∈y::ys:=h.mem_iff.mp (.head _)
    rcases List.mem_cons.mp this with q|q
    ·exact absurd q ne
    ·exact q
   have m2:y∈xs:=by
    have:y∈x::xs:=h.mem_iff.mpr (.head _)
    rcases List.mem_cons.mp this with q|q
    ·exact absurd q.symm ne
    ·exact q
   have a:=hx.1 y m2
   have b:=hy.1 x m1
   rw [o.tot x (.head _) y (.tail _ m2) ne,b] at a
   cases a
  subst e
  have nd:=List.nodup_cons.mp o.nd
  rw [Lv (o.of (fun a ha=>.tail _ ha) nd.2) ((List.perm_cons x).mp h) hx.2 hy.2]
theorem Wl {lt:α->α->Bool} {zs:List α} (d:α) (o:OrdL lt zs) (hn:1<=zs.length) :
  ∃ p,PySem.W.kRun zs.length (fun i j=>lt (zs.getD i d) (zs.getD j d)) (PySem.W.kas_sort zs.length)=some p/\p.toList.length=zs.length/\(∀ i∈p.toList,i<zs.length)/\(p.toList.map fun i=>zs.getD i d)=K1 lt zs:=by
 have gm:∀ i,i<zs.length->zs.getD i d∈zs:=fun i hi=>by rw [ar,aq hi];exact cg hi
 have gi:∀ i j,i<zs.length->j<zs.length->zs.getD i d=zs.getD j d->i=j:=fun i j hi hj e=>by
  rw [ar,aq hi,ar,aq hj] at e
  exact (List.getElem_inj o.nd).mp e
 obtain⟨p,h1,h2,h3⟩:=PySem.W.sort_run (n:=zs.length) (lt:=fun i j=>lt (zs.getD i d) (zs.getD j d)) ⟨fun i j hi hj ne=>o.tot _ (gm i hi) _ (gm j hj) (fun e=>ne (gi i j hi hj e)),fun i j k hi hj hk=>o.tr _ (gm i hi) _ (gm j hj) _ (gm k hk)⟩ hn
 have hp:(p.toList.map fun i=>zs.getD i d).Perm zs:=by
  have q:=h2.map (fun i=>zs.getD i d)
  have e:((cB zs.length).map fun i=>zs.getD i d)=zs:=by
   apply List.ext_getElem?
   intro i
   rw [aY]
   by_cases hi:i<zs.length
   ·rw [List.getElem?_range hi,aq hi,Option.map_some,ar,aq hi];rfl
   ·rw [bI (by simp;omega),bI (by omega)];rfl
  rw [e] at q
  exact q
 refine⟨p,h1,by rw [bS,h2.size],fun i hi=>List.mem_range.mp (h2.mem_iff.mp hi),?_⟩
 refine Lv (o.of (fun a ha=>hp.mem_iff.mp ha) ((hp.nodup_iff).mpr o.nd)) (hp.trans (Cu lt zs).symm) ?_ (Lx o)
 rw [List.pairwise_iff_getElem]
 intro i j hi hj hij
 rw [aw,bS,h2.size] at hi hj
 have g:∀ k (hk:k<zs.length),∃ hk',(p.toList.map fun i=>zs.getD i d)[k]'hk'=zs.getD (PySem.W.pg p k) d:=fun k hk=>by
  have e:=PySem.W.pg_get (p:=p) (i:=k) (by rw [h2.size];exact hk)
  rw [<- bU] at e
  obtain⟨a,b⟩:=List.getElem?_eq_some_iff.mp e
  refine⟨by rw [aw];exact a,?_⟩
  rw [List.getElem_map,b]
 obtain⟨a1,b1⟩:=g i hi
 obtain⟨a2,b2⟩:=g j hj
 rw [b1,b2]
 exact h3 i j hij hj
end
noncomputable def ltS (a b:Str):Bool:=decide (a.cps.toList<b.cps.toList)
theorem ak8 {zs:List Str} (nd:zs.Nodup):OrdL ltS zs where
 nd:=nd
 tot:=fun a _ b _ ne=>by
  unfold ltS
  rw [<- decide_not]
  refine decide_eq_decide.mpr ⟨fun h q=>List.lt_irrefl _ (List.lt_trans h q),fun h=>?_⟩
  apply fD
  intro q
  exact ne (Str.ext' (Array.toList_inj.mp (List.le_antisymm (List.not_lt.mp h) (List.not_lt.mp q))))
 tr:=fun a _ b _ c _ h q=>by
  unfold ltS at h q ⊢
  exact decide_eq_true (List.lt_trans (of_decide_eq_true h) (of_decide_eq_true q))
end L2
namespace PySem.W
open PySem PySem.Calls PyProof.Rows
section
variable {prog:aE} {w:bq} {A:aT} {E:Value->ah->Prop} {s:ah} {vs:List Value}
theorem collect_src {T:String} {r d:Addr} {n:Nat} {P:Nat->Value->Prop} {OK:Heap->Prop} {Q:List Value->ah->Prop} (K:KdlSrc prog w T r d n P OK) (hh:A.handled=none) (hok:OK s.heap) (hn:n<=sizeLine)
  (h:∀ h' tk (us:List Value),(∀ b o,s.heap.get? b=some o->h'.get? b=some o)->s.heap.objs.size<h'.objs.size->us.length=n->(∀ j v,us[j]? = some v->P j v)->Q us { s with heap:=h',toks:=tk }) :
  aI (model prog w) A (collect (.ref r)) Q E s:=by
 have hlt:=K.there _ hok
 unfold collect
 refine ag (wpAny_runValue (g8 entry_proto_collect' ?_))
 show aI _ _ (do again (.builtin "list.__iadd__" ⟨[<- newList [],.ref r],[]⟩)) _ _ s
 refine ag (gq (am ⟨c5 _ (by decide +kernel),g8 entry_list_iadd' ?_⟩))
 show aI _ _ (Builtin.List.listExtendWith (.ref s.heap.objs.size) (.ref r) (.ref s.heap.objs.size)) _ _ { s with heap:=s.heap.push (cw "list" #[] 0) }
 rw [Around.under_plainId PySem.F.plain_list_iadd _]
 refine kdl_extend (A:=A) (R:=wants _ _) (s:={ s with heap:=s.heap.push (cw "list" #[] 0) }) K hh (K.keep _ _ hok fun b _ o e=>af _ e) s.heap.objs.size (eN hlt.1) (eN hlt.2) _ 0 (aF _ rfl) (fun h' tk acc' c' hk hS' hacc=>?_) hn
 show aI (model prog w) A (do
   let o <- load s.heap.objs.size
   match o.data with
   | .seq xs _=>pure xs.toList
   | _=>unsupported "internal:collect") Q E { s with heap:=h',toks:=tk }
 refine ag (wpAny_load hS' ?_)
 exact am (h h' tk acc'.toList (fun b o e=>hk b o (aL (aA e)) (af _ e)) (aA hS') (by rw [bS];exact hacc.1) fun j v e=>hacc.2 j v (by rw [<- bU];exact e))
theorem K0 {n:Nat} {a:Addr} {P:PySem.Fin->ah->Prop} (ho:s.heap.get? a=some (cw "list" vs.toArray n)) (h2:vs.length<2)
  (h:∀ h' c,h'.get? a=some (cw "list" vs.toArray c)->(∀ b o,b≠a->s.heap.get? b=some o->h'.get? b=some o)->P (.done (.ret .none)) { s with heap:=h' }) :
  aI (model prog w) A (bi.«list.sort» ⟨[.ref a],[]⟩) P E s:=by
 have ha:a<s.heap.objs.size:=aA ho
 have s1:=dL s.heap a (bO fun _=>(#[]:Array Value))
 obtain⟨e1,ho1⟩:∃ e1,(s.heap.update a (bO fun _=>(#[]:Array Value))).get? a=some (cw "list" #[] e1):=⟨_,fk ho fun _=>#[]⟩
 rw [list_sort_plain]
 refine ag (listItems_at ho rfl ?_)
 refine ag (gk ho rfl ?_ (by rw [al,bD];omega) (bT _))
 refine ag (iq ho1 rfl ?_)
 refine ag (wpAny_newTuple ?_ (by show vs.length<=_;rw [bD];omega))
 refine ag (gq ?_ (bT _))
 refine bv ?_
 show aI (model prog w) A _ P E { s with heap:=((s.heap.update a (bO fun _=>(#[]:Array Value))).push (cw "tuple" vs.toArray 0)).push (cw "list" #[] 0) }
 dsimp only
 have hn2:vs.toArray.size<2:=by rw [al];omega
 rw [if_pos hn2,if_pos hn2]
 refine ag (am ?_)
 rw [StateT.run_pure]
 refine ag (am ?_)
 dsimp only
 have ho6:(((s.heap.update a (bO fun _=>(#[]:Array Value))).push (cw "tuple" vs.toArray 0)).push (cw "list" #[] 0)).get? a=some (cw "list" #[] e1):=af _ (af _ ho1)
 have o6:∀ b o,b≠a->s.heap.get? b=some o->(((s.heap.update a (bO fun _=>(#[]:Array Value))).push (cw "tuple" vs.toArray 0)).push (cw "list" #[] 0)).get? b=some o:=fun b o nb e=>af _ (af _ ((s1.2 b nb).trans e))
 generalize ((s.heap.update a (bO fun _=>(#[]:Array Value))).push (cw "tuple" vs.toArray 0)).push (cw "list" #[] 0)=h6 at ho6 o6 ⊢
 have hout:iu (fun x:Keyed=>x.snd) (arrOf (iQ jq (vs.toArray.zip vs.toArray) #[] 7 none))=vs.toArray:=by
  show iu (fun x:Keyed=>x.snd) (vs.toArray.zip vs.toArray)=vs.toArray
  apply Array.ext'
  simp only [Array.toList_map,Array.toList_zip]
  exact List.map_snd_zip (ae _)
 refine ag (iq (s:={ s with heap:=h6 }) ho6 rfl ?_)
 refine ag (gk (s:={ s with heap:=h6 }) ho6 rfl ?_ (bT _) (by rw [hout,al,bD];omega))
 have s2:=dL h6 a (bO fun _=>iu (fun x:Keyed=>x.snd) (arrOf (iQ jq (vs.toArray.zip vs.toArray) #[] 7 none)))
 obtain⟨c2,hc2⟩:∃ c2,(h6.update a (bO fun _=>iu (fun x:Keyed=>x.snd) (arrOf (iQ jq (vs.toArray.zip vs.toArray) #[] 7 none)))).get? a=some (cw "list" (iu (fun x:Keyed=>x.snd) (arrOf (iQ jq (vs.toArray.zip vs.toArray) #[] 7 none))) c2):=⟨_,fk ho6 fun _=>_⟩
 rw [hout] at hc2 s2 ⊢
 simp only [bne_self_eq_false,dX,if_false]
 exact am (h _ c2 hc2 fun b o nb e=>(s2.2 b nb).trans (o6 b o nb e))
theorem so_sortedC {x:Value} {OKQ:List Value->Heap->Nat->Prop} {Q:Value->ah->Prop} (hc:∀ R:List Value->ah->Prop,(∀ us h' tk,OKQ us h' tk->R us { s with heap:=h',toks:=tk })->aI (model prog w) A.in1 (collect x) R (fun _ _=>False) s)
  (h:∀ us h' tk,OKQ us h' tk->us.length<64/\((us.length<2 -> ∀ h2 c,h2.get? h'.objs.size=some (cw "list" us.toArray c)->(∀ b o,h'.get? b=some o->h2.get? b=some o)->Q (.ref h'.objs.size) { s with heap:=h2,toks:=tk })/\(2<=us.length -> ∀ D e1 h2,h'.objs.size<=D->h2.get? D=some (cw "list" #[] e1)->(∀ b o,h'.get? b=some o->h2.get? b=some o) ->
   aI (model prog w) A.in1.in1 (keyKind' us.toArray) (fun κ s'=>(kas_sort us.length).kasWp (kas_ask prog w A.in1.in1 κ us) (fun p s''=>SoFin D e1 (p.toList.map fun i=>us.getD i bh) (fun s3=>Q (.ref D) s3) s'') s') (fun _ _=>False) { s with heap:=h2,toks:=tk }))) :
  aI (model prog w) A (call (.builtin "sorted") [x]) Q E s:=by
 refine Calls.call_function_entry kind_sorted plain_sorted entry_sorted (args_sorted1 _) ?_
 unfold bi.«sorted»
 refine ag (m:=checkCount "sorted" 1 1 _) (am ?_)
 refine ag (bP (hc _ fun us h' tk ok=>?_) (fun _ _ z=>z) fun _ _ z=>z.elim)
 obtain⟨h64,hs,hb⟩:=h us h' tk ok
 refine ag (gq ?_ (by rw [bD];omega))
 have hoL:(h'.push (cw "list" us.toArray 0)).get? h'.objs.size=some (cw "list" us.toArray 0):=aF _ rfl
 show aI _ _ _ _ _ { s with heap:=h'.push (cw "list" us.toArray 0),toks:=tk }
 refine ag (bv (eR slot_list_sort ⟨_,hoL,rfl⟩ entry_list_sort ?body (args_list_sort _)))
 case body=>
  by_cases h2:2<=us.length
  ·refine Nf (s:={ s with heap:=h'.push (cw "list" us.toArray 0),toks:=tk }) hoL h2 h64 fun e1 h2' g k=>?_
   refine bP (hb h2 _ e1 h2' (ae _) g fun b o q=>k b o (aL (aA q)) (af _ q)) (fun κ s' hk=>?_) fun _ _ x=>x
   rw [kat_ask_eq rfl] at hk ⊢
   exact kas_wp_mono hk fun p s'' hk'=>hk'.mono fun s3 hq=>⟨_,rfl,am ⟨_,rfl,hq⟩⟩
  ·have h2:us.length<2:=by omega
   refine K0 (s:={ s with heap:=h'.push (cw "list" us.toArray 0),toks:=tk }) hoL h2 fun h3 c g k=>?_
   exact⟨_,rfl,am ⟨_,rfl,hs h2 h3 c g fun b o q=>k b o (aL (aA q)) (af _ q)⟩⟩
end
end PySem.W
namespace L2
open PySem PySem.Spec PyProof.Rows
theorem U9:∀ {xs:List V} {us:List Value},xs.length=us.length->(∀ (i:Nat) x u,xs[i]? = some x->us[i]? = some u->RelV x u)->Vals xs us
 | [],[],_,_=>.nil
 | [],_::_,h,_=>by simp at h
 | _::_,[],h,_=>by simp at h
 | x::xs,u::us,h,g=>.cons (g 0 x u rfl rfl) (U9 (by simpa using h) fun i a b ha hb=>g (i+1) a b ha hb)
theorem ak5 {P:aE} {w:bq} {k:Key} {v:Value} (h:(Ay P w).is k v=true):RelV (kV k) v:=by
 rcases A8 (show Ip k v=true from h) with ⟨i,t,rfl,rfl⟩|⟨x,t,rfl,rfl⟩
 ·exact⟨t,rfl⟩
 ·exact⟨t,rfl⟩
theorem Vz {P:aE} {w:bq} {kvs:List (Key×V)} {vs:List (Key×Value)} {us:List Value} (rel:KV kvs vs) (hl:us.length=vs.length) (h:∀ (j:Nat) v,us[j]? = some v -> ∃ k x,vs[j]? = some (k,x)/\(Ay P w).is k v=true):Vals (kvs.map fun kv=>kV kv.1) us:=by
 refine U9 (by rw [aw,rel.length,hl]) fun i x u hx hu=>?_
 obtain⟨k,y,hk,his⟩:=h i u hu
 have e:(kvs.map (·.1))[i]? = some k:=by rw [rel.keys,aY,hk];rfl
 rw [aY] at hx e
 obtain⟨kv,hkv,rfl⟩:=Option.map_eq_some_iff.mp hx
 rw [hkv] at e
 cases e
 exact ak5 his
section
variable {X:Cx}
noncomputable def ae5 (K:aa):List V->Hp->VK->Prop:=fun xs H Q=>∃ p zs,xs=[.ref p]/\(SqL K H p (zs.map V.str) \/ ∃ kvs,Rd H p (.dK kvs)/\kvs.map (·.1)=zs.map fh)/\zs.Nodup/\zs.length<64 /\ ∀ D,H D=none->Q (.ref D) (upd H D (.lst ((K1 ltS zs).map V.str)))
theorem U7 {zs:List Str} (h:zs.length<2):K1 ltS zs=zs:=by
 match zs,h with
 | [],_=>rfl
 | [z],_=>rfl
theorem Sw {zs:List Str} {us:List Value} (r:Vals (zs.map V.str) us) {i:Nat} (h:i<zs.length):∃ t,us.getD i bh=.str (zs.getD i du) t:=by
 have hl:us.length=zs.length:=by have:=r.length;simpa using this.symm
 obtain⟨x,hx,rx⟩:=Qb r (i:=i) (by omega)
 rw [aY,aq h] at hx
 cases hx
 obtain⟨t,e⟩:=rx
 refine⟨t,?_⟩
 rw [ar (l:=zs),aq h]
 exact e
theorem Qi (hc:X.calm=true):Br X (.builtin "sorted") (ae5 X.K):=by
 intro pins s σ H xs us Q I r h
 obtain⟨p,zs,rfl,hp,nd,h64,q⟩:=h
 obtain⟨u,rfl,ru⟩:=Fc r
 cases ru
 refine PySem.W.so_sortedC (OKQ:=fun us h' tk=>(∀ b o,s.heap.get? b=some o->h'.get? b=some o)/\s.heap.objs.size<=h'.objs.size/\s.toks<=tk/\Vals (zs.map V.str) us) (fun R hR=>?_) fun us h' tk ⟨keep,hD,htk,rv⟩=>?_
 ·rcases hp with hp|⟨kvs,hp,ek⟩
  ·obtain⟨its,ri,pl,hz⟩:=I.list hp
   refine collect_list pl.isList (hR _ _ s.toks ⟨fun b o e=>?_,?_,ae _,ri⟩) (by have:=ri.length;rw [aw] at this;rw [bD];omega)
   ·have hlt:b<s.heap.objs.size:=aA e
    rw [Heap.get?_update_ne _ _ _ _ (aL hlt)]
    exact af _ e
   ·rw [Heap.size_update,size_push']
    exact cJ _
  ·obtain⟨z,lo,vs,rel,dof⟩:=E9 I.hok hp
   obtain⟨ep,dat⟩:=dof.dictAt
   refine bB (ae _) (PySem.W.collect_src (PySem.W.kdl_dict lo) (by simp [I.ok.hd hc]) dat (by rw [<- rel.length];exact z) fun h' tk us hk hs hl hi htk=>?_)
   refine hR us h' tk ⟨hk,gW hs,htk,?_⟩
   have v:=Vz rel hl hi
   have e:(kvs.map fun kv=>kV kv.1)=zs.map V.str:=by
    have:=congrArg (ix kV) ek
    rw [gS,gS] at this
    exact this
   rwa [e] at v
 ·have hl:us.length=zs.length:=by have:=rv.length;simpa using this.symm
  refine⟨by omega,fun h2 h2' c g k=>?_,fun h2 D e1 h2' hD2 gD k=>?_⟩
  ·refine⟨.ref h'.objs.size,_,I.laid (t':=tk) (fun b o e=>k b o (keep b o e)) hD (o:=.lst ((K1 ltS zs).map V.str)) ⟨?_,us,c,?_,g⟩,rfl,q _ (I.hok.fresh hD)⟩
   ·rw [U7 (by omega),aw,bD];omega
   ·rw [U7 (by omega)];exact rv
  ·refine PySem.W.kas_kind (T:=.type "str") h2 (fun v hv=>?_) rfl rfl ?_
   ·obtain⟨i,hi,rfl⟩:=List.getElem_of_mem hv
    obtain⟨t,e⟩:=Sw rv (i:=i) (by omega)
    rw [ar,aq hi] at e
    rw [show us[i]=_ from e]
    exact .now
   ·obtain⟨pp,h1,h3,h4,h5⟩:=Wl (lt:=ltS) (zs:=zs) du (ak8 nd) (by omega)
    refine PySem.W.kRun_wp (n:=us.length) (lt:=fun i j=>ltS (zs.getD i du) (zs.getD j du)) (a:=pp) (fun i j C hi hj hC=>?_) (by rw [hl];exact h1) ⟨gD,fun h3' c g2 sb=>?_⟩
    ·unfold PySem.W.kas_ask
     obtain⟨t1,e1⟩:=Sw rv (i:=i) (by omega)
     obtain⟨t2,e2⟩:=Sw rv (i:=j) (by omega)
     rw [e1,e2]
     exact PySem.W.kas_lt_str hC
    ·refine⟨.ref D,_,I.laid (t':=tk) (fun b o e=>(sb.2 b (aL (av (aA e) (aD hD hD2)))).trans (k b o (keep b o e))) (aD hD hD2) (o:=.lst ((K1 ltS zs).map V.str)) ⟨?_,_,c,?_,g2⟩,rfl,q D (I.hok.fresh (aD hD hD2))⟩
     ·rw [aw,(Cu ltS zs).length_eq,bD];omega
     ·have v:=Lz rv pp.toList (fun i hi=>by rw [hl];exact h4 i hi)
      have e:(pp.toList.map fun i=>(zs.map V.str).getD i .non)=(K1 ltS zs).map V.str:=by
       rw [<- h5,gS]
       refine ic fun i hi=>?_
       have:=h4 i hi
       rw [ar,aY,aq this]
       show V.str zs[i]=V.str (zs.getD i du)
       rw [ar,aq this]
       rfl
      rwa [e] at v
end
end L2
namespace PySem
section
variable {prog:aE} {w:bq} {K:Type} [DecidableEq K] {knd:HeapKind prog w K} {A:aT} {E:Value->ah->Prop} {s:ah}
end
end PySem
namespace L2
open PySem PySem.Spec PyProof.Rows
noncomputable abbrev RF:=List V->Hp->VK->Prop
noncomputable def Ll (x:V) (T:String):Bool:=match x with
 | .int _=>T == "int"
 | .bl _=>T == "bool" || T == "int"
 | .str _=>T == "str"
 | _=>false
noncomputable def okT (T:String):Bool:=["int", "bool", "str", "list", "tuple", "dict"].contains T
noncomputable def Dx (K:aa):RF:=fun xs H Q=>match xs with
 | [.int i,.ty T]=>okT T=true/\Q (.bl (Ll (.int i) T)) H
 | [.bl i,.ty T]=>okT T=true/\Q (.bl (Ll (.bl i) T)) H
 | [.str i,.ty T]=>okT T=true/\Q (.bl (Ll (.str i) T)) H
 | [.non,.ty T]=>okT T=true/\Q (.bl (Ll .non T)) H
 | [x,.ty T]=>∃ t b,TyX K H x t/\ce K t (.type T)=some b/\Q (.bl b) H
 | [x,.ref C]=>(∃ t b,TyX K H x t/\ce K t (.ref C)=some b/\Q (.bl b) H)\/False
 | _=>False
noncomputable def Bu (K:aa):RF:=fun xs H Q=>match xs with
 | [.str z]=>z.length<=sizeLine/\Q (.int z.length) H
 | [.ref p]=>(∃ ys,(SqL K H p ys\/SqT K H p ys)/\Q (.int ys.length) H) \/ ∃ kvs,Rd H p (.dK kvs)/\Q (.int kvs.length) H
 | _=>False
noncomputable def Wd (K:aa):RF:=fun xs H Q=>match xs with
 | [.ref p]=>∃ bs:List Bool,SqL K H p (bs.map V.bl)/\Q (.bl (bs.all fun b=>b)) H
 | _=>False
noncomputable def Wf:RF:=fun xs H Q=>match xs with
 | [.int i]=>Q (.int i) H
 | [.bl k]=>Q (.int (if k then 1 else 0)) H
 | _=>False
noncomputable def ao4:RF:=fun xs H Q=>match xs with
 | [.str x]=>x.length=1/\Q (.int (x.cps.getD 0 0:Nat)) H
 | _=>False
noncomputable def M9 (K:aa):RF:=fun xs H Q=>match xs with
 | [.ref p]=>∃ ys,(SqL K H p ys\/SqT K H p ys) /\ ∀ l,H l=none->Q (.ref l) (upd H l (.lst ys))
 | _=>False
noncomputable def Er (K:aa):RF:=fun xs H Q=>match xs with
 | [.ref p]=>∃ ys,(SqL K H p ys /\ ∀ l,H l=none->Q (.ref l) (upd H l (.tup ys)))\/(SqT K H p ys/\Q (.ref p) H)
 | _=>False
noncomputable def ae1:RF:=fun xs H Q=>match xs with
 | [.int i,.int j]=>Q (.int (if j > i then j else i)) H
 | _=>False
noncomputable def Ri (K:aa) (calm:Bool):RF:=fun xs H Q=>M9 K xs H Q\/(calm=true/\False)
noncomputable def ae4 (K:aa) (calm:Bool):RF:=fun xs H Q=>False\/(calm=true/\ae5 K xs H Q)
inductive BF where
 | bf (id:String)|ty (T:String)
noncomputable def a05 (K:aa) (calm:Bool) (x:Str):Option (BF×RF):=
 if x = "len" then some (.bf "len", Bu K) else
 if x = "isinstance" then some (.bf "isinstance", Dx K) else
 if x = "all" then (if calm=true then some (.bf "all", Wd K) else none) else
 if x = "int" then some (.ty "int", Wf) else
 if x = "ord" then some (.bf "ord", ao4) else
 if x = "list" then some (.ty "list", Ri K calm) else
 if x = "tuple" then some (.ty "tuple", Er K) else
 if x = "max" then (if calm=true then some (.bf "max", ae1) else none) else
 if x = "sorted" then some (.bf "sorted", ae4 K calm) else none
noncomputable def BF.val:BF->Value
 | .bf id=>.builtin id
 | .ty T=>.type T
section
variable {X:Cx}
theorem Qy {K:aa} {x:V} {T:String} (hx:Bd x=true) (h:okT T=true):∃ t,(∀ H,TyOf K H x t)/\ce K t (.type T)=some (Ll x T):=by
 have hT:T = "int" \/ T = "bool" \/ T = "str" \/ T = "list" \/ T = "tuple" \/ T = "dict" := by
  unfold okT at h
  simpa using h
 cases x with
 | int i=>refine⟨_,fun H=>TyOf.int i,?_⟩;rcases hT with rfl|rfl|rfl|rfl|rfl|rfl <;> rfl
 | bl i=>refine⟨_,fun H=>TyOf.bl i,?_⟩;rcases hT with rfl|rfl|rfl|rfl|rfl|rfl <;> rfl
 | str i=>refine⟨_,fun H=>TyOf.str i,?_⟩;rcases hT with rfl|rfl|rfl|rfl|rfl|rfl <;> rfl
 | non=>refine⟨_,fun H=>TyOf.non,?_⟩;rcases hT with rfl|rfl|rfl|rfl|rfl|rfl <;> rfl
 | _=>cases hx
theorem Yu:Br X (.builtin "isinstance") (Dx X.K):=by
 intro pins s σ H xs us Q I r h
 have sc:∀ x T,xs=[x,.ty T]->Bd x=true->okT T=true->Q (.bl (Ll x T)) H->aI (model X.prog X.w) X.A (call (.builtin "isinstance") us) (EP X pins σ Q) X.xe s:=fun x T e hx hT q=>by
  subst e
  obtain⟨t,ht,hk⟩:=Qy (K:=X.K) hx hT
  exact Yt pins s σ H _ us Q I r ⟨x,T,t,_,rfl,ht H,hk,q⟩
 unfold Dx at h
 split at h
 ·exact sc _ _ rfl rfl h.1 h.2
 ·exact sc _ _ rfl rfl h.1 h.2
 ·exact sc _ _ rfl rfl h.1 h.2
 ·exact sc _ _ rfl rfl h.1 h.2
 ·obtain⟨t,b,ty,e,q⟩:=h
  obtain⟨u,v,rfl,ru,rv⟩:=r.two
  cases rv
  exact bB (ae _) (Im I ru ty e fun tk htk=>⟨.bl b,H,I.tok tk htk,rfl,q⟩)
 ·obtain⟨u,v,rfl,ru,rv⟩:=r.two
  rcases h with ⟨t,b,ty,e,q⟩|h
  ·cases rv
   exact bB (ae _) (Im I ru ty e fun tk htk=>⟨.bl b,H,I.tok tk htk,rfl,q⟩)
  ·exact h.elim
 ·exact h.elim
theorem Vg:Br X (.builtin "len") (Bu X.K):=by
 intro pins s σ H xs us Q I r h
 unfold Bu at h
 split at h
 ·exact Mb pins s σ H _ us Q I r ⟨_,rfl,h.1,h.2⟩
 ·rcases h with ⟨ys,h1,h2⟩|⟨kvs,h1,h2⟩
  ·exact Ma pins s σ H _ us Q I r ⟨_,ys,rfl,h1,h2⟩
  ·obtain⟨u,rfl,ru⟩:=Fc r
   cases ru
   exact bt5 I h1 fun t s' I'=>⟨.int _,H,I',⟨t,rfl⟩,h2⟩
 ·exact h.elim
theorem Ve (hc:X.calm=true):Br X (.builtin "all") (Wd X.K):=by
 intro pins s σ H xs us Q I r h
 unfold Wd at h
 split at h
 ·obtain⟨bs,h1,h2⟩:=h
  exact Ys hc pins s σ H _ us Q I r ⟨_,bs,rfl,h1,h2⟩
 ·exact h.elim
theorem Vf:Br X (.type "int") Wf:=by
 intro pins s σ H xs us Q I r h
 unfold Wf at h
 split at h
 ·exact La pins s σ H _ us Q I r (.inl ⟨_,rfl,h⟩)
 ·exact La pins s σ H _ us Q I r (.inr ⟨_,rfl,h⟩)
 ·exact h.elim
theorem Vj:Br X (.builtin "ord") ao4:=by
 intro pins s σ H xs us Q I r h
 unfold ao4 at h
 split at h
 ·exact Yv pins s σ H _ us Q I r ⟨_,rfl,h.1,h.2⟩
 ·exact h.elim
theorem Qh:Br X (.type "list") (M9 X.K):=by
 intro pins s σ H xs us Q I r h
 unfold M9 at h
 split at h
 ·obtain⟨ys,h1,h2⟩:=h
  exact Mc pins s σ H _ us Q I r ⟨_,ys,rfl,h1,h2⟩
 ·exact h.elim
theorem Vk:Br X (.type "tuple") (Er X.K):=by
 intro pins s σ H xs us Q I r h
 unfold Er at h
 split at h
 ·obtain⟨ys,h1⟩:=h
  exact Ks pins s σ H _ us Q I r ⟨_,ys,rfl,h1⟩
 ·exact h.elim
theorem Vi (hc:X.calm=true):Br X (.builtin "max") ae1:=by
 intro pins s σ H xs us Q I r h
 unfold ae1 at h
 split at h
 ·exact Vh hc pins s σ H _ us Q I r ⟨_,_,rfl,h⟩
 ·exact h.elim
theorem aj1 (hu:X.A.units+64<cLine) {x:Str} {f:BF} {r:RF} {c:Bool} (h:a05 X.K c x=some (f,r)) (hc:c=X.calm):cq x=some f.val/\Br X f.val r:=by
 unfold a05 at h
 by_cases e:x = "len"
 ·rw [if_pos e] at h;cases h;rw [e];exact⟨PySem.boot_len,Vg⟩
 rw [if_neg e] at h
 by_cases e:x = "isinstance"
 ·rw [if_pos e] at h;cases h;rw [e];exact⟨PyProof.Rows.boot_isinstance,Yu⟩
 rw [if_neg e] at h
 by_cases e:x = "all"
 ·rw [if_pos e] at h
  by_cases ec:c=true
  ·rw [if_pos ec] at h;cases h;rw [e];exact⟨PyProof.Rows.boot_all,Ve (hc▸ec)⟩
  ·rw [if_neg ec] at h;cases h
 rw [if_neg e] at h
 by_cases e:x = "int"
 ·rw [if_pos e] at h;cases h;rw [e];exact⟨gX,Vf⟩
 rw [if_neg e] at h
 by_cases e:x = "ord"
 ·rw [if_pos e] at h;cases h;rw [e];exact⟨PyProof.Rows.boot_ord,Vj⟩
 rw [if_neg e] at h
 by_cases e:x = "list"
 ·rw [if_pos e] at h;cases h;rw [e];exact⟨gH,fun pins s σ H xs us Q I r h=>h.elim (Qh pins s σ H xs us Q I r) fun z=>z.2.elim⟩
 rw [if_neg e] at h
 by_cases e:x = "tuple"
 ·rw [if_pos e] at h;cases h;rw [e];exact⟨f6,Vk⟩
 rw [if_neg e] at h
 by_cases e:x = "max"
 ·rw [if_pos e] at h
  by_cases ec:c=true
  ·rw [if_pos ec] at h;cases h;rw [e];exact⟨PyProof.Rows.boot_max,Vi (hc▸ec)⟩
  ·rw [if_neg ec] at h;cases h
 rw [if_neg e] at h
 by_cases e:x = "sorted"
 ·rw [if_pos e] at h;cases h;rw [e];exact⟨O3,fun pins s σ H xs us Q I r h=>h.elim b6 fun z=>Qi (hc▸z.1) pins s σ H xs us Q I r z.2⟩
 rw [if_neg e] at h
 cases h
noncomputable abbrev RM:=V->List V->Hp->VK->Prop
structure BM where
 T:String
 id:String
 r:RM
noncomputable def rMt (K:aa) (bs:List BM):V->Hp->(Hp->(List V->Hp->Prop)->Prop)->VK->Prop:=fun x H1 ta Q=>
 match bs with
 | []=>False
 | [b]=>tyV K b.T x H1/\ta H1 fun xs H2=>b.r x xs H2 Q
 | b::rest=>(tyV K b.T x H1/\ta H1 fun xs H2=>b.r x xs H2 Q)\/rMt K rest x H1 ta Q
structure aw8 (X:Cx) (m:Str) (b:BM):Prop where
 pa:PlainAttrs b.T
 slot:Slot b.T m b.id
 ty:typeOf (.builtin b.id)=pure (.type "method_descriptor")
 mt:MtR X b.id b.r
noncomputable def Py:RM:=fun x xs H Q=>match x,xs with
 | .ref a,[y]=>∃ o,E5 H a y o/\Q (o.getD .non) H
 | .ref a,[y,z]=>∃ o,E5 H a y o/\Q (o.getD z) H
 | _,_=>False
theorem ak9 (hu:X.A.units+64<cLine):MtR X "dict.get" Py:=by
 intro pins s σ H x xs v us Q I rx rs h
 unfold Py at h
 split at h
 ·obtain⟨o,g,q⟩:=h
  obtain⟨u,rfl,ru⟩:=rs.one
  cases rx
  exact a10 (by omega) I g ru fun w' s' I' r'=>⟨_,H,I',r',q⟩
 ·obtain⟨o,g,q⟩:=h
  obtain⟨u,w,rfl,ru,rw'⟩:=rs.two
  cases rx
  exact a11 (by omega) I g ru rw' fun w' s' I' r'=>⟨_,H,I',r',q⟩
 ·exact h.elim
theorem Qq {i:Nat} (h:i<sizeLine):cz (i:Int)=true:=by
 have hs:sizeLine<=9223372036854775807:=eM rfl
 have e:(2:Int) ^ 63=9223372036854775808:=rfl
 unfold cz
 rw [e,au]
 exact⟨decide_eq_true (by omega),decide_eq_true (by omega)⟩
noncomputable def Hn:RM:=fun x vs H Q=>∃ l xs y,∃ i:Nat,x=.ref l/\vs=[.int (i:Int),y]/\H l=some (.lst xs)/\i<=xs.length/\xs.length<sizeLine/\Q .non (upd H l (.lst (xs.take i++y::xs.drop i)))
theorem V3:MtR X "list.insert" Hn:=by
 intro pins s σ H x vs v us Q I rx rv h
 obtain⟨l,xs,y,i,rfl,rfl,hH,hi,hz,q⟩:=h
 cases rx
 obtain⟨u1,u2,rfl,⟨t,rfl⟩,r2⟩:=rv.two
 obtain⟨z,its,n,r,hl,e⟩:=I.lstM hH
 have hf:cz (i:Int)=true:=Qq (cD hi hz)
 have hz':its.toArray.size<=sizeLine:=by rw [al,<- hl];exact z
 obtain⟨j,hj⟩:∃ j:Int,j=(i:Int):=⟨_,rfl⟩
 rw [<- hj] at hf ⊢
 have hf':¬ (!cz j)=true:=by rw [hf];decide
 have M:=AutoSeq1.list_insert_list_int_val_1 l its.toArray n j t u2 hf' hz'
 refine fW fS ⟨_,e,rfl⟩ PySem.F.entry_list_insert (PySem.F.args_list_insert_3 _ _ _) M ⟨e,?_⟩
 refine⟨.non,_,I.lset (its':=its.take i++u2::its.drop i) hH e ?_ ((r.take i).append (.cons r2 (r.drop i))) ?_,rfl,q⟩
 ·have hk:(if j<0 then (j+(its.toArray.size:Int)).toNat else min j.toNat its.toArray.size)=i:=by
   rw [if_neg (by omega),al,hj,cP]
   omega
  show (its.toArray.extract 0 (if j<0 then (j+(its.toArray.size:Int)).toNat else min j.toNat its.toArray.size)).push u2++its.toArray.extract (if j<0 then (j+(its.toArray.size:Int)).toNat else min j.toNat its.toArray.size)=_
  rw [hk]
  apply Array.toList_inj.mp
  simp
  exact cx (by simp)
 ·rw [aH,aS,aZ,br]
  omega
noncomputable def ae3:RM:=fun x vs H Q=>bz7 x vs H Q\/ae2 x vs H Q
noncomputable def mtR (K:aa) (m:Str):List BM:=
 if m = "append" then [⟨"list", "list.append", E2⟩] else
 if m = "get" then [⟨"dict", "dict.get", Py⟩] else
 if m = "count" then [⟨"list", "list.count", Je K⟩] else
 if m = "index" then [⟨"list", "list.index", Jf⟩] else
 if m = "insert" then [⟨"list", "list.insert", Hn⟩] else
 if m = "pop" then [⟨"list", "list.pop", ae3⟩] else []
theorem Z5 {m:Str} {b:BM} (hu:X.A.units+64<cLine) (h:b∈mtR X.K m):aw8 X m b:=by
 unfold mtR at h
 by_cases e:m = "append"
 ·rw [if_pos e] at h
  have:b=⟨"list", "list.append", E2⟩:=by simpa using h
  subst this;subst e
  exact⟨ck,PySem.F.slot_list_append,PySem.F.type_list_append,Lr⟩
 rw [if_neg e] at h
 by_cases e:m = "get"
 ·rw [if_pos e] at h
  have:b=⟨"dict", "dict.get", Py⟩:=by simpa using h
  subst this;subst e
  exact⟨f9,cF,PySem.F.type_dict_get,ak9 hu⟩
 rw [if_neg e] at h
 by_cases e:m = "count"
 ·rw [if_pos e] at h
  have:b=⟨"list", "list.count", Je X.K⟩:=by simpa using h
  subst this;subst e
  exact⟨ck,gc,PySem.F.type_list_count,Z6 hu⟩
 rw [if_neg e] at h
 by_cases e:m = "index"
 ·rw [if_pos e] at h
  have:b=⟨"list", "list.index", Jf⟩:=by simpa using h
  subst this;subst e
  exact⟨ck,gd,PySem.F.type_list_index,Z7⟩
 rw [if_neg e] at h
 by_cases e:m = "insert"
 ·rw [if_pos e] at h
  have:b=⟨"list", "list.insert", Hn⟩:=by simpa using h
  subst this;subst e
  exact⟨ck,fS,PySem.F.type_list_insert,V3⟩
 rw [if_neg e] at h
 by_cases e:m = "pop"
 ·rw [if_pos e] at h
  have:b=⟨"list", "list.pop", ae3⟩:=by simpa using h
  subst this;subst e
  exact⟨ck,PySem.F.slot_list_pop,PySem.F.type_list_pop,fun pins s σ H x vs v us Q I rx rv h=>h.elim (a48 pins s σ H x vs v us Q I rx rv) (Z8 pins s σ H x vs v us Q I rx rv)⟩
 rw [if_neg e] at h
 cases h
theorem Na {K:aa}:∀ {bs:List BM} {x:V} {H1:Hp} {ta:Hp->(List V->Hp->Prop)->Prop} {Q:VK},rMt K bs x H1 ta Q -> ∃ b∈bs,tyV K b.T x H1/\ta H1 fun xs H2=>b.r x xs H2 Q
 | [],_,_,_,_,h=>h.elim
 | [b],_,_,_,_,h=>⟨b,by simp,h⟩
 | b::c::rest,x,H1,ta,Q,h=>by
  rcases h with h|h
  ·exact⟨b,by simp,h⟩
  ·obtain⟨d,hd,q⟩:=Na h
   exact⟨d,aJ _ hd,q⟩
noncomputable def Bw:Expr->Bool
 | .Call (.Name x _) [] [] _=>!(x==("super" : Str))
 | _=>true
theorem C6 {e:Expr} (h:Bw e=true) (f:Str) (env:Env) (whole:Sem Value):ge e f env whole=whole:=by
 unfold ge
 split
 ·rename_i id p pos
  have:(id==("super" : Str))=false:=by
   have h':(!(id==("super" : Str)))=true:=h
   simpa using h'
  have e2:(id != "super")=true:=by
   show (!(id == "super"))=true
   rw [this]
   rfl
  rw [e2]
  simp
 ·rfl
variable {o:Expr} {do':DE} {es:List Expr} {r:DA} {m:Str} {apos cpos:Pos}
theorem bc1 {bs:List BM} (hb:∀ b∈bs,aw8 X m b) (ho:QE X o do') (h1:Bw o=true) (h4:(apos.endLine==cpos.line)=true) :
  QE X (.Call (.Attribute o m apos) [] [] cpos) (dMt (rMt X.K bs) do' Ag):=by
 intro Ex mt pins s σ H Q I h
 refine gn (C6 h1 m X.env _) h4 (thn (ho Ex mt pins s σ H _ I h) fun v s1 ⟨x,H1,I1,r1,q1⟩=>?_)
 obtain⟨b,hbm,ty,q⟩:=Na q1
 obtain⟨k1,k2⟩:=ai0 I1 r1 ty
 have B:=hb b hbm
 exact⟨b.T,b.id,B.pa,B.slot,B.ty,k1,k2,ez rfl (ii (B.mt pins s1 σ H1 x [] v [] Q I1 r1 .nil q))⟩
theorem bz1 {bs:List BM} {e:Expr} (hb:∀ b∈bs,aw8 X m b) (ho:QE X o do') (ha:QA X (e::es) r) (h1:Bw o=true) (h2:(e::es).all noStar=true) (h3:(e::es).length<30) (h4:(apos.endLine==cpos.line)=true) :
  QE X (.Call (.Attribute o m apos) (e::es) [] cpos) (dMt (rMt X.K bs) do' r):=by
 intro Ex mt pins s σ H Q I h
 have hs:=bj▸h2
 rw [au] at hs
 have hfew:((g7 cpos (cn (e::es) X.env)).all (fun x=>!x.1)&&(jn cpos (ip [] X.env)).all (fun x=>x.1.isSome)
   && decide ((e::es).length+([]:List ja).length+(if ([]:List ja).isEmpty then 0 else 1)<30))=true:=by
  rw [G6 h2]
  have:decide ((e::es).length+([]:List ja).length+(if ([]:List ja).isEmpty then 0 else 1)<30)=true:=by
   rw [decide_eq_true_iff]
   simpa using h3
  rw [this]
  rfl
 refine wpAny_Call_method_late (C6 h1 m X.env _) hfew h4 rfl (thn (ho Ex mt pins s σ H _ I h) fun v s1 ⟨x,H1,I1,r1,q1⟩=>?_)
 obtain⟨b,hbm,ty,q⟩:=Na q1
 obtain⟨k1,k2⟩:=ai0 I1 r1 ty
 have B:=hb b hbm
 refine⟨b.T,b.id,B.pa,B.slot,B.ty,k1,k2,?_⟩
 have hA:=ha Ex mt cpos pins s1 σ H1 _ I1 q
 rw [Ba hs.1] at hA ⊢
 refine ez (by show (false||(g7 cpos (cn es X.env)).any (·.1))=false;rw [Bb hs.2] <;> rfl) (Calls.evalArgs_plain ?_)
 exact thn hA fun us s2 ⟨vs,H2,I2,r2,q2⟩=>B.mt pins s2 σ H2 x vs v us Q I2 r1 r2 q2
variable {x:Str} {p pos:Pos} {G:Sg}
theorem bb5 {f:BF} {rf:RF} {e:Expr} (hc:Br X f.val rf) (hg:Gl X x) (hm:X.mg x=none) (hv:cq x=some f.val) (ha:QA X (e::es) r) (hs:(e::es).all noStar=true) (hn:x ≠ "__name__") (hdb:(x==("__debug__" : Str))=false) :
  QE X (.Call (.Name x p) (e::es) [] pos) (dFn (fun vs H Q _=>rf vs H Q) r):=by
 intro Ex mt
 have h:=bj▸hs
 rw [au] at h
 cases f with
 | bf id=>exact ab2 hc hg hm hv (ha Ex mt) hn hdb (Ba h.1 es X.env) (Bb h.2 X.env pos)
 | ty T=>exact Wa hc hg hm hv (ha Ex mt) hn hdb (Ba h.1 es X.env) (Bb h.2 X.env pos)
noncomputable def spE (sp:Sp) (dvs:List V):List V->Hp->VK->EK->Prop:=fun vs H Q E=>sp (vs++dvs) H Q (fun v _ H'=>∃ a,v=.ref a/\E a H')
theorem Ga {i:FI} (F:E6 X i) {j:Nat} (hj:j<=i.dfs.length) {Ex:St->EK} (mt:Meets X Ex) {pins:List (Addr×Obj)} {σ:St} {H:Hp} {s:ah} {Q:VK} {us:List Value} {vs:List V}
  (I:Inv X pins σ H s) (r:Vals vs us) (h:spE i.sp (i.dfs.drop j) vs H Q (Ex σ)):aI (model X.prog X.w) X.A (call (.ref i.f) us) (EP X pins σ Q) X.xe s:=by
 obtain⟨CX,hx,FO⟩:=F.ok
 have r2:Vals (vs++i.dfs.drop j) (us++i.ds.drop j):=r.append (F.vals.drop j)
 have hl:(us++i.ds.drop j).length=i.ps.length:=by rw [<- r2.length];exact FO.len _ _ _ _ h
 refine dz (eO (FO.run X.A X.stack s H ⟨us,[]⟩ (us++i.ds.drop j) (vs++i.dfs.drop j) Q _ F.room I.env0 (F.binds j hj s us I.kIn hl) r2 h) fun r s' hq=>?_)
 cases r with
 | error e=>exact hx X rfl rfl Ex mt pins σ H s e s' I hq
 | ok fl=>
  cases fl with
  | ret u=>exact I.after hq
  | next=>exact b6 hq
  | brk=>exact b6 hq
  | cont=>exact b6 hq
theorem ac8 {i:FI} (F:E6 X i) {j:Nat} (hj:j<=i.dfs.length) (hg:Gl X x) (hm:X.mg x=some (.ref i.f)) (hdb:(x==("__debug__" : Str))=false) :
  QE X (.Call (.Name x p) [] [] pos) (dFn (spE i.sp (i.dfs.drop j)) Ag):=by
 intro Ex mt pins s σ H Q I h
 refine bZ (Co I hg hm ?_ hdb)
 exact dO I.kIn F.kp (Ga (us:=[]) F hj mt I .nil h)
theorem an3 {i:FI} {e:Expr} (F:E6 X i) {j:Nat} (hj:j<=i.dfs.length) (hg:Gl X x) (hm:X.mg x=some (.ref i.f)) (ha:QA X (e::es) r) (hs:(e::es).all noStar=true) (hdb:(x==("__debug__" : Str))=false) :
  QE X (.Call (.Name x p) (e::es) [] pos) (dFn (spE i.sp (i.dfs.drop j)) r):=by
 intro Ex mt pins s σ H Q I h
 have h2:=bj▸hs
 rw [au] at h2
 refine bZ (Co I hg hm ?_ hdb)
 refine c8 (h₀:=X.base) I.ok.mod.kin F.kp (thn (ha Ex mt pos pins s σ H _ I h) fun us s1 ⟨vs,H1,I1,r,q⟩=>⟨I1.kIn,?_⟩) (Ba h2.1 es X.env) (Bb h2.2 X.env pos)
 exact Ga F hj mt I1 r q
noncomputable def mkX (C:Addr):Option FI->Nat->List V->Hp->VK->EK->Prop
 | none,_=>fun _ H Q _=>∀ a,H a=none->Q (.ref a) (upd H a (D6 a C none))
 | some i,j=>fun vs H Q E=>∀ a,H a=none->i.sp (.ref a::(vs++i.dfs.drop j)) (upd H a (D6 a C none)) (fun v H2=>v=.non/\Q (.ref a) H2) (fun v _ H'=>∃ b,v=.ref b/\E b H')
theorem Uy {C:Addr} {oi:Option FI} {j:Nat} (c:ECls X.K C) (hi:Fd X C oi) (hj:∀ i,oi=some i->j<=i.dfs.length) {Ex:St->EK} (mt:Meets X Ex) {pins:List (Addr×Obj)} {σ:St} {H:Hp} {s:ah} {Q:VK} {us:List Value} {vs:List V}
  (I:Inv X pins σ H s) (rv:Vals vs us) (hl:vs.length<=1000) (h:mkX C oi j vs H Q (Ex σ)):aI (model X.prog X.w) X.A (call (.ref C) us) (EP X pins σ Q) X.xe s:=by
 cases oi with
 | none=>exact Rn c hi I rv hl h
 | some i=>
  obtain⟨h1,h2,F,hr⟩:=hi
  obtain⟨CX,hx,FO⟩:=F.ok
  exact Wi c h1 h2 FO hr (F.binds j (hj i rfl)) (F.vals.drop j) I rv hl (fun e s1 s' H1 I1 q=>hx X rfl rfl Ex mt pins σ H1 s1 e s' I1 q) h
theorem Uq {C:Addr} {oi:Option FI} {j:Nat} (c:ECls X.K C) (hi:Fd X C oi) (hj:∀ i,oi=some i->j<=i.dfs.length) (kp:ak X.K (.ref C)=true) (hg:Gl X x) (hm:X.mg x=some (.ref C)) (hdb:(x==("__debug__" : Str))=false) :
  QE X (.Call (.Name x p) [] [] pos) (dFn (mkX C oi j) Ag):=by
 intro Ex mt pins s σ H Q I h
 refine bZ (Co I hg hm ?_ hdb)
 exact dO I.kIn kp (Uy (us:=[]) c hi hj mt I .nil (by simp) h)
theorem Rg {C:Addr} {oi:Option FI} {j:Nat} {e:Expr} (c:ECls X.K C) (hi:Fd X C oi) (hj:∀ i,oi=some i->j<=i.dfs.length) (kp:ak X.K (.ref C)=true) (hg:Gl X x) (hm:X.mg x=some (.ref C)) (ha:QA X (e::es) r) (hs:(e::es).all noStar=true) (hdb:(x==("__debug__" : Str))=false) :
  QE X (.Call (.Name x p) (e::es) [] pos) (dFn (fun vs H Q E=>vs.length<=1000/\mkX C oi j vs H Q E) r):=by
 intro Ex mt pins s σ H Q I h
 have h2:=bj▸hs
 rw [au] at h2
 refine bZ (Co I hg hm ?_ hdb)
 refine c8 (h₀:=X.base) I.ok.mod.kin kp (thn (ha Ex mt pos pins s σ H _ I h) fun us s1 ⟨vs,H1,I1,r,q⟩=>⟨I1.kIn,?_⟩) (Ba h2.1 es X.env) (Bb h2.2 X.env pos)
 exact Uy c hi hj mt I1 r q.1 q.2
noncomputable def mkC (C:Addr):Option FI->Nat->List V->Hp->VK->EK->Prop
 | none,_=>fun vs H Q _=>vs=[] /\ ∀ a dx,H a=none->H dx=none->dx≠a->Q (.ref a) (upd (upd H dx (.own a)) a (.ins C dx []))
 | some i,j=>fun vs H Q E=>∀ a dx,H a=none->H dx=none->dx≠a ->
   i.sp (.ref a::(vs++i.dfs.drop j)) (upd (upd H dx (.own a)) a (.ins C dx [])) (fun v H2=>v=.non/\Q (.ref a) H2) (fun v _ H'=>∃ b,v=.ref b/\E b H')
theorem Wh {C:Addr} (h1:aU X.K C=true) (h2:ac X.K (.ref C) "__init__" = some (some (.builtin "object.__init__"))) {pins:List (Addr×Obj)} {σ:St} {H:Hp} {s:ah} {Q:VK}
  (I:Inv X pins σ H s) (h:∀ a dx,H a=none->H dx=none->dx≠a->Q (.ref a) (upd (upd H dx (.own a)) a (.ins C dx []))):aI (model X.prog X.w) X.A (call (.ref C) []) (EP X pins σ Q) X.xe s:=by
 have hq:=h (s.heap.objs.size+1) s.heap.objs.size (I.hok.fresh (cJ _)) (I.hok.fresh (ae _)) (aL (eP _))
 have I2:=Inv.made (C:=C) I
 have e2:((s.heap.push bb).push (bt C s.heap.objs.size)).get? (s.heap.objs.size+1)=some (bt C s.heap.objs.size):=by
  have z:=aF (s.heap.push bb) (o:=bt C s.heap.objs.size) rfl
  rwa [cI] at z
 refine dz (V1 I.kIn h1 h2 (fun self=>.of_pure (PySem.W.oi_bind self)) ?_)
 have ty:eV (model X.prog X.w) ((s.heap.push bb).push (bt C s.heap.objs.size)) (typeOf (.ref (s.heap.objs.size+1))) (.ref C):=(PySem.W.Looks.ld e2).andThen .now
 have io:eV (model X.prog X.w) ((s.heap.push bb).push (bt C s.heap.objs.size)) (iU (.ref (s.heap.objs.size+1)) (.type "object")) true:=
  ty.andThen ((gu (M:=model X.prog X.w) I.kIn h1).top.keeps fun b o e=>af _ (af _ e))
 refine cL PySem.W.oi_plain PySem.W.entry_oi (PySem.W.check_slot (s:={ s with heap:=(s.heap.push bb).push (bt C s.heap.objs.size) }) (i := "object.__init__") (owner := "object") (self:=.ref (s.heap.objs.size+1)) PySem.W.oi_kind PySem.W.oi_split io (PySem.W.oi_args _) ?_)
 rw [PySem.W.oi_run]
 exact am ⟨rfl,⟨.ref _,_,I2,rfl,hq⟩⟩
theorem ao7 {C f:Addr} {CX:CXT} {k:Nat} {fd:ai} {ps:List Str} {sp:Sp} {ds:List Value} {dvs:List V} {E:XK} {pins:List (Addr×Obj)} {σ:St} {H:Hp} {s:ah} {Q:VK} {us:List Value} {vs:List V}
  (M:Mk X.K C f) (F:FnOk X.prog X.w X.K X.mg X.base CX k f fd ps sp) (hr:Room (k+1) X.A) (hb:Binds X.K fd ps ds) (hd:Vals dvs ds) (hx:∀ H1 s1 e s',Inv X pins σ H1 s1->CX X.stack H1 s1 E e s'->X.xe e s') (I:Inv X pins σ H s) (r:Vals vs us)
  (h:∀ x dx,H x=none->H dx=none->dx≠x->sp (.ref x::(vs++dvs)) (upd (upd H dx (.own x)) x (.ins C dx [])) (fun v H2=>v=.non/\Q (.ref x) H2) E) :
  aI (model X.prog X.w) X.A (call (.ref C) us) (EP X pins σ Q) X.xe s:=by
 have hq:=h (s.heap.objs.size+1) s.heap.objs.size (I.hok.fresh (cJ _)) (I.hok.fresh (ae _)) (aL (eP _))
 have I2:=Inv.made (C:=C) I
 have r2:Vals (V.ref (s.heap.objs.size+1)::(vs++dvs)) (aC (s.heap.objs.size+1)::(us++ds)):=.cons rfl (r.append hd)
 have hl:(aC (s.heap.objs.size+1)::us++ds).length=ps.length:=by
  have e:=r2.length
  rw [F.len _ _ _ _ hq] at e
  exact e.symm
 refine dz (Z3 (f:=f) I.kIn M.makes M.init (beq_iff_eq.mp M.fn) (eO (F.run _ X.stack _ _ ⟨aC (s.heap.objs.size+1)::us,[]⟩ (aC (s.heap.objs.size+1)::(us++ds)) _ _ E (hr.make C us [])
  (I2.env0.make C us []) (hb _ (aC (s.heap.objs.size+1)::us) I2.kIn hl) r2 hq) fun r s' hq'=>?_))
 cases r with
 | error e=>exact hx _ _ e s' I2 hq'
 | ok fl=>
  cases fl with
  | ret u=>
   obtain⟨v,H',I3,rv,ev,q3⟩:=I2.after hq'
   subst ev
   exact⟨rv,⟨V.ref (s.heap.objs.size+1),H',I3,rfl,q3⟩⟩
  | next=>exact b6 hq'
  | brk=>exact b6 hq'
  | cont=>exact b6 hq'
theorem Ux {C:Addr} {oi:Option FI} {j:Nat} (hi:Wv X C oi) (hj:∀ i,oi=some i->j<=i.dfs.length) {Ex:St->EK} (mt:Meets X Ex) {pins:List (Addr×Obj)} {σ:St} {H:Hp} {s:ah} {Q:VK} {us:List Value} {vs:List V}
  (I:Inv X pins σ H s) (rv:Vals vs us) (kp:ak X.K (.ref C)=true) (h:mkC C oi j vs H Q (Ex σ)):aI (model X.prog X.w) X.A (call (.ref C) us) (EP X pins σ Q) X.xe s:=by
 cases oi with
 | none=>
  obtain⟨rfl,h⟩:=h
  cases rv
  exact Wh hi.1 hi.2 I h
 | some i=>
  obtain⟨h0,h1,h2,F,hr⟩:=hi
  obtain⟨CX,hx,FO⟩:=F.ok
  exact ao7 ⟨h0,h1,h2,kp⟩ FO hr (F.binds j (hj i rfl)) (F.vals.drop j) (fun H1 s1 e s' I1 q=>hx X rfl rfl Ex mt pins σ H1 s1 e s' I1 q) I rv h
theorem Up {C:Addr} {oi:Option FI} {j:Nat} (hi:Wv X C oi) (hj:∀ i,oi=some i->j<=i.dfs.length) (kp:ak X.K (.ref C)=true) (hg:Gl X x) (hm:X.mg x=some (.ref C)) (hdb:(x==("__debug__" : Str))=false) :
  QE X (.Call (.Name x p) [] [] pos) (dFn (mkC C oi j) Ag):=by
 intro Ex mt pins s σ H Q I h
 refine bZ (Co I hg hm ?_ hdb)
 exact dO I.kIn kp (Ux (us:=[]) hi hj mt I .nil kp h)
theorem bc0 {C:Addr} {oi:Option FI} {j:Nat} {e:Expr} (hi:Wv X C oi) (hj:∀ i,oi=some i->j<=i.dfs.length) (kp:ak X.K (.ref C)=true) (hg:Gl X x) (hm:X.mg x=some (.ref C)) (ha:QA X (e::es) r) (hs:(e::es).all noStar=true) (hdb:(x==("__debug__" : Str))=false) :
  QE X (.Call (.Name x p) (e::es) [] pos) (dFn (mkC C oi j) r):=by
 intro Ex mt pins s σ H Q I h
 have h2:=bj▸hs
 rw [au] at h2
 refine bZ (Co I hg hm ?_ hdb)
 refine c8 (h₀:=X.base) I.ok.mod.kin kp (thn (ha Ex mt pos pins s σ H _ I h) fun us s1 ⟨vs,H1,I1,r,q⟩=>⟨I1.kIn,?_⟩) (Ba h2.1 es X.env) (Bb h2.2 X.env pos)
 exact Ux hi hj mt I1 r kp q
noncomputable def Bm (m:Str) (n:Nat) (l:List MI) (o:DE) (t:DA):DE:=fun σ H Q E=>o σ H (fun x H1=>∃ a dx fs mi,x=.ref a/\mi∈l/\H1 a=some (.ins mi.C dx fs)/\fs.lookup m=none/\(n+1<=mi.i.ps.length/\mi.i.ps.length<=n+1+mi.i.dfs.length) /\
 t σ H1 (fun vs H2=>spE mi.i.sp (mi.i.dfs.drop (n+1+mi.i.dfs.length - mi.i.ps.length)) (.ref a::vs) H2 Q E) E) E
theorem Jd {es:List Expr} {P:Value->ah->Prop} {s:ah} (h1:Bw o=true) (h2:es.all noStar=true) (h3:es.length<30) (h4:(apos.endLine==cpos.line)=true)
  (h:aI (model X.prog X.w) X.A (eval o X.env) (fun ov s1=>∀ pl,aI (model X.prog X.w) X.A (getMethod ov m pl) (fun fx s2=>aI (model X.prog X.w) X.A (callWith cpos fx.1 fx.2 (g7 cpos (cn es X.env)) (jn cpos (ip [] X.env))) P X.xe s2) X.xe s1) X.xe s) :
  aI (model X.prog X.w) X.A (eval (.Call (.Attribute o m apos) es [] cpos) X.env) P X.xe s:=by
 have few:methodCallForm (es.length+([]:List ja).length) (g7 cpos (cn es X.env)) (jn cpos (ip [] X.env))=true:=by
  unfold methodCallForm
  rw [G6 h2]
  simpa [jn,ip] using h3
 rw [arm_eval_Call,C6 h1]
 refine ag (thn h fun ov s1 h1=>ag (cZ ?_))
 unfold methodCall calleeOf
 rw [few,if_pos rfl]
 refine ag (bv (thn (h1 _) fun fx s2 h2=>?_))
 have hp:methodCallPos true o X.env apos cpos=pure cpos:=by unfold methodCallPos;rw [h4];rfl
 rw [hp]
 exact ag (am h2)
theorem an7 {l:List MI} (hl:∀ mi∈l,Cls X.K mi.C/\A0 X.K mi.C m mi.i.f/\E6 X mi.i) (ho:QE X o do') (h1:Bw o=true) (h4:(apos.endLine==cpos.line)=true) :
  QE X (.Call (.Attribute o m apos) [] [] cpos) (Bm m 0 l do' Ag):=by
 intro Ex mt pins s σ H Q I h
 refine Jd (es:=[]) h1 rfl (by decide) h4 (thn (ho Ex mt pins s σ H _ I h) fun u s1 ⟨x,H1,I1,rx,a,dx,fs,mi,ex,hm,ea,hf,hn,q⟩ pl=>?_)
 subst ex
 obtain rfl:u=aC a:=rx
 obtain⟨c,k,F⟩:=hl mi hm
 refine Ie I1 ea c k hf ?_
 exact dO (first:=[.ref a]) I1.kIn k.kp (Ga (us:=[.ref a]) (vs:=[.ref a]) F (by omega) mt I1 (.cons rfl .nil) q)
theorem bc5 {l:List MI} {e:Expr} (hl:∀ mi∈l,Cls X.K mi.C/\A0 X.K mi.C m mi.i.f/\E6 X mi.i) (ho:QE X o do') (ha:QA X (e::es) r) (h1:Bw o=true) (h2:(e::es).all noStar=true) (h3:(e::es).length<30) (h4:(apos.endLine==cpos.line)=true) :
  QE X (.Call (.Attribute o m apos) (e::es) [] cpos) (Bm m (es.length+1) l do' r):=by
 intro Ex mt pins s σ H Q I h
 refine Jd h1 h2 h3 h4 (thn (ho Ex mt pins s σ H _ I h) fun u s1 ⟨x,H1,I1,rx,a,dx,fs,mi,ex,hm,ea,hf,hn,q⟩ pl=>?_)
 subst ex
 obtain rfl:u=aC a:=rx
 obtain⟨c,k,F⟩:=hl mi hm
 refine Ie I1 ea c k hf ?_
 have hs:=bj▸h2
 rw [au] at hs
 refine c8 (first:=[.ref a]) (h₀:=X.base) I.ok.mod.kin k.kp (thn (ha Ex mt cpos pins s1 σ H1 _ I1 q) fun us s2 ⟨vs,H2,I2,r2,q2⟩=>⟨I2.kIn,?_⟩) (Ba hs.1 es X.env) (Bb hs.2 X.env cpos)
 exact Ga (us:=.ref a::us) (vs:=.ref a::vs) F (by omega) mt I2 (.cons rfl r2) q2
theorem bb7 {C:Addr} {i:FI} {e:Expr} {x:Str} {p:Pos} (ho:QE X (.Name x p) (dC (.ref C))) (S:K3 X.K C i.f) (F:E6 X i) (hl:(e::es).length<=i.ps.length/\i.ps.length<=(e::es).length+i.dfs.length) (ha:QA X (e::es) r) (h1:Bw (.Name x p)=true) (h2:(e::es).all noStar=true) (h3:(e::es).length<30) (h4:(apos.endLine==cpos.line)=true) :
  QE X (.Call (.Attribute (.Name x p) "__init__" apos) (e::es) [] cpos) (dFn (spE i.sp (i.dfs.drop ((e::es).length+i.dfs.length - i.ps.length))) r):=by
 intro Ex mt pins s σ H Q I h
 refine Jd h1 h2 h3 h4 (thn (ho Ex mt pins s σ H (fun y H1=>y=.ref C/\H1=H) I ⟨rfl,rfl⟩) fun u s1 ⟨y,H1,I1,rx,ey,eH⟩ pl=>?_)
 subst ey eH
 obtain rfl:u=aC C:=rx
 refine PySem.W.method_cls I1.kIn S.ga (PySem.W.cls_value I1.kIn S.rd S.fc S.hh ?_)
 have I2:=I1.tok (s1.toks+1)
 have hs:=bj▸h2
 rw [au] at hs
 refine c8 (first:=[]) (h₀:=X.base) I.ok.mod.kin F.kp (thn (ha Ex mt cpos pins _ σ _ _ I2 h) fun us s2 ⟨vs,H2,I3,r2,q2⟩=>⟨I3.kIn,?_⟩) (Ba hs.1 es X.env) (Bb hs.2 X.env cpos)
 exact Ga (us:=us) (vs:=vs) F (by omega) mt I3 r2 q2
noncomputable def Y1:DE:=fun _ H Q _=>∀ p,H p=none->Q (.ref p) (upd H p (.dK []))\/Q (.ref p) (upd H p (.dT []))
theorem an6:QE X (.Dict [] [] pos) Y1:=fun Ex mt pins s σ H Q I h=>by
 have fr:=I.hok.fresh (ae s.heap.objs.size)
 rcases h _ fr with q|q
 ·exact wpAny_Dict_empty ⟨.ref _,_,I.laid (a:=s.heap.objs.size) (o:=.dK []) (t':=s.toks) (fun _ _ q=>af _ q) (ae _) (Pb s.heap I.big),rfl,q⟩
 ·exact wpAny_Dict_empty ⟨.ref _,_,I.laid (a:=s.heap.objs.size) (o:=.dT []) (t':=s.toks) (fun _ _ q=>af _ q) (ae _) (Y5 s.heap I.big),rfl,q⟩
noncomputable def Ql:List (DE×DE)->St->Hp->(List (V×V)->Hp->Prop)->EK->Prop
 | [],_,H,Q,_=>Q [] H
 | (k,v)::r,σ,H,Q,E=>k σ H (fun x H1=>v σ H1 (fun y H2=>Ql r σ H2 (fun ps H3=>Q ((x,y)::ps) H3) E) E) E
noncomputable def Y2 (trs:List (DE×DE)):DE:=fun σ H Q E=>∀ p,H p=none->Ql trs σ (upd H p (.dK [])) (fun ps H2=>H2 p=some (.dK []) /\ ∃ kvs:List (Key×V),ps=kvs.map (fun kv=>(kV kv.1,kv.2))/\kvs.length<=15/\Q (.ref p) (upd H2 p (.dK (Dd [] kvs)))) E
theorem ac2 {w:Expr->DE} (h:∀ e,QE X e (w e)) {Ex:St->EK} (mt:Meets X Ex) (pos:Pos):∀ (ks vs:List Expr),ks.length=vs.length->PPs X pos (ks.map some) vs ((ks.zip vs).map fun p=>((fun σ H Q=>w p.1 σ H Q (Ex σ)),fun σ H Q=>w p.2 σ H Q (Ex σ)))
 | [],[],_=>am6
 | k::ks,v::vs,hl=>ac1 (h k Ex mt) (h v Ex mt) (ac2 h mt pos ks vs (by simpa using hl))
 | [],_::_,hl=>by simp at hl
 | _::_,[],hl=>by simp at hl
theorem O7 {Ex:St->EK} {w:Expr->DE}:∀ (l:List (Expr×Expr)) (σ:St) (H:Hp) (Q:List (V×V)->Hp->Prop),Ql (l.map fun p=>(w p.1,w p.2)) σ H Q (Ex σ)=Nk (l.map fun p=>((fun σ H Q=>w p.1 σ H Q (Ex σ)),fun σ H Q=>w p.2 σ H Q (Ex σ))) σ H Q
 | [],_,_,_=>rfl
 | (k,v)::r,σ,H,Q=>by
  show w k σ H _ _=w k σ H _ _
  congr 1
  funext x H1
  congr 1
  funext y H2
  exact O7 r σ H2 _
theorem an5 {w:Expr->DE} (h:∀ e,QE X e (w e)) {ks vs:List Expr} (hl:ks.length=vs.length) (h0:ks≠[]) (h15:ks.length<=15):QE X (.Dict (ks.map some) vs pos) (Y2 ((ks.zip vs).map fun p=>(w p.1,w p.2))):=by
 intro Ex mt pins s σ H Q I q
 refine am2 (ac2 h mt pos ks vs hl) (by simp) (by simpa using hl) (by simpa using h0) (by simpa using h15) pins s σ H Q I ?_
 intro p hp
 have q:=q p hp
 rw [O7] at q
 exact q
end
noncomputable def ax3 (lo st:Int) (n:Nat):It:=⟨fun i _=>i<n,fun i H x H'=>H'=H/\x=.int (lo+(i:Int) * st),fun i _=>n<=i⟩
theorem Wq {P:aE} {w:bq} {K:aa} {tg:Expr} (it:Addr) (lo st:Int) (n:Nat):Ov P w K tg (ax3 lo st n) [it] it (fun i h=>ib h it (lo+(i:Nat) * st) ((n:Int) - (i:Nat)) st) where
 mem:=List.mem_singleton.mpr rfl
 obj:=fun i h q b hb=>by
  obtain rfl:=List.mem_singleton.mp hb
  exact⟨_,q,fun v z=>by cases (show Data.fields _=Data.cell v from z)⟩
 keep:=fun i h h' q k=>k it (List.mem_singleton.mpr rfl) _ q
 item:=by
  intro X hP hw hK hc i pins s σ H E I hf q go
  subst hP hw hK
  obtain⟨g0,g1,_,g3,g4,g5⟩:=hf it (List.mem_singleton.mpr rfl)
  refine bB (ae _) ((Walks.range (prog:=X.prog) (w:=X.w) (I.ok.hd hc) it lo st n).item i s _ _ go q fun v h' tk hv q' kk htk=>?_)
  obtain⟨t,rfl⟩:=hv
  have I1:Inv X pins σ H { s with heap:=h',toks:=tk }:=I.turned (fun b o nb e=>kk b o (fun z=>nb (List.mem_singleton.mp z)) e) g0 g1 g3 g4 g5
  exact⟨_,rfl,Lg (s:={ s with heap:=h',toks:=tk }) (n := "range_iterator") q' rfl rfl (by decide) ⟨.int (lo+(i:Int) * st),H,I1,⟨t,rfl⟩,⟨rfl,rfl⟩,q',fun b hb=>(hf b hb).1⟩⟩
 done:=by
  intro X hP hw hK hc i pins s σ H E I hf q go
  subst hP hw hK
  obtain⟨g0,g1,_,g3,g4,g5⟩:=hf it (List.mem_singleton.mpr rfl)
  exact gN (I.ok.hd hc) q (by have:n<=i:=go;omega) fun h' eb=>⟨rfl,I.turned (t':=s.toks) (fun b o nb e=>eb b o nb e) g0 g1 g3 g4 g5⟩
 self:=fun _ _ _ _ _ q h=>gM q h
section
variable {X:Cx} {tg:Expr}
theorem ap3 {pins:List (Addr×Obj)} {σ:St} {H:Hp} {s:ah} {R:It->Hp->Prop} {E:Value->ah->Prop} {lo hi st:Int} {t u v:Tok} {tk:Nat} (I:Inv X pins σ H s) (htk:s.toks<=tk) (sm:ia lo hi st=true)
  (q:R (ax3 lo st (bM lo hi st).toNat) H):aI (model X.prog X.w) X.A (pyIter (.ref s.heap.objs.size)) (PIE X pins σ tg R) E { s with heap:=s.heap.push { cls:=.type "range", data:=.fields #[.int lo t,.int hi u,.int st v] },toks:=tk }:=by
 refine iO (IsRange.new ..) sm ?_
 have I1:Inv X pins σ H { s with heap:=s.heap.push { cls:=.type "range", data:=.fields #[.int lo t,.int hi u,.int st v] },toks:=tk }:=I.kept fun b o e=>af _ e
 generalize s.heap.push { cls:=.type "range", data:=.fields #[.int lo t,.int hi u,.int st v] }=h1 at I1 ⊢
 refine⟨h1.objs.size,[h1.objs.size],_,_,H,rfl,I1.kept (t':=tk) fun b o e=>af _ e,Wq _ lo st (bM lo hi st).toNat,?_,fun b hb=>?_,q⟩
 ·have e:lo+((0:Nat):Int) * st=lo:=by rw [Int.natCast_zero,Int.zero_mul,Int.add_zero]
  have f:(((bM lo hi st).toNat:Nat):Int) - ((0:Nat):Int)=bM lo hi st:=by
   rw [<- rangeSize_toNat,Int.natCast_zero,Int.sub_zero]
  show ib _ _ (lo+((0:Nat):Int) * st) ((((bM lo hi st).toNat:Nat):Int) - ((0:Nat):Int)) st
  rw [e,f]
  exact aF _ rfl
 ·obtain rfl:=List.mem_singleton.mp hb
  exact I1.fpOk (ae _) (I1.hok.fresh (ae _))
end
noncomputable def QI (X:Cx) (tg e:Expr) (t:DI):Prop:=∀ Ex,Meets X Ex->PI X tg e (fun σ H R=>t σ H R (Ex σ))
noncomputable def iNo:DI:=fun _ _ _ _=>False
noncomputable def onD (p:Addr) (H:Hp) (R:Obj->List (Key×V)->Hp->Prop):Prop:=(∃ kvs,H p=some (.dK kvs) /\ ∀ o,R o kvs (upd H p (.frz o (.dK kvs)))) \/ ∃ o kvs,H p=some (.frz o (.dK kvs))/\R o kvs H
theorem aa9 {X:Cx} {pins:List (Addr×Obj)} {σ:St} {H:Hp} {s:ah} {p:Addr} {R:Obj->List (Key×V)->Hp->Prop} (I:Inv X pins σ H s) (h:onD p H R):∃ o kvs H',Inv X pins σ H' s/\H' p=some (.frz o (.dK kvs))/\R o kvs H':=by
 rcases h with ⟨kvs,e,q⟩|⟨o,kvs,e,q⟩
 ·obtain⟨o,ep,_,_,I'⟩:=I.froze e
  exact⟨o,kvs,_,I',Ad,q o⟩
 ·exact⟨o,kvs,H,I,e,q⟩
noncomputable def Go (K:aa) (a:DE):DI:=fun σ H R E=>a σ H (fun x H1=>match x with
 | .str z=>R (Its z) H1
 | .ref p=>((∃ xs,SqL K H1 p xs)/\R (Itl K p) H1)\/((∃ xs,SqT K H1 p xs)/\R (Itt K p) H1)\/onD p H1 fun o kvs H2=>R (Itd p o kvs) H2
 | _=>False) E
noncomputable def Vu (t:DA):DI:=fun σ H R E=>t σ H (fun vs H1=>match vs with
 | [.int j]=>(-(2 ^ 62)<=j/\j<2 ^ 62)/\R (Itr 0 j.toNat) H1
 | [.int i,.int j]=>(-(2 ^ 62)<=i/\i<2 ^ 62 /\ -(2 ^ 62)<=j/\j<2 ^ 62)/\R (Itr i (j - i).toNat) H1
 | [.int i,.int j,.int k]=>(ia i j k=true/\1<=k/\k<=1000)/\R (ax3 i k (bM i j k).toNat) H1
 | _=>False) E
section
variable {X:Cx} {tg e a b:Expr} {da:DE} {r:DA} {p pos:Pos}
theorem bz3:QI X tg e iNo:=fun _ _ _ _ _ _ _ _ h=>h.elim
theorem bc8 (ha:QE X e da):QI X tg e (Go X.K da):=by
 intro Ex mt pins s σ H R I h
 refine thn (ha Ex mt pins s σ H _ I h) fun v s1 ⟨x,H1,I1,r1,q1⟩=>?_
 cases x with
 | str z=>
  obtain⟨t,rfl⟩:=r1
  refine wpAny_pyIter_strU ?_
  refine⟨s1.heap.objs.size,[s1.heap.objs.size],_,_,H1,rfl,I1.kept (t':=s1.toks) fun b o e=>af _ e,ah9 s1.heap.objs.size z t (strIterType z) (by unfold strIterType;split <;> simp),⟨_,aF _ rfl,rfl,rfl⟩,fun b hb=>?_,q1⟩
  have e:b=s1.heap.objs.size:=by simpa using hb
  subst e
  exact I1.fpOk (ae _) (I1.hok.fresh (ae _))
 | ref a=>
  cases r1
  rcases q1 with ⟨⟨xs,hq⟩,q⟩|⟨⟨xs,hq⟩,q⟩|q
  ·obtain⟨its,rv,p,hz⟩:=I1.list hq
   refine wpAny_pyIter_list p.isList ?_
   refine⟨s1.heap.objs.size,[s1.heap.objs.size],_,_,H1,rfl,I1.kept (t':=s1.toks) fun b o e=>af _ e,Wp a _,⟨_,aF _ rfl,rfl,rfl⟩,fun b hb=>?_,q⟩
   have e:b=s1.heap.objs.size:=by simpa using hb
   subst e
   exact I1.fpOk (ae _) (I1.hok.fresh (ae _))
  ·obtain⟨its,rv,p,hz⟩:=I1.tuple hq
   refine wpAny_pyIter_tuple (show s1.heap.IsTuple a its.toArray from p) ?_
   refine⟨s1.heap.objs.size,[s1.heap.objs.size],_,_,H1,rfl,I1.kept (t':=s1.toks) fun b o e=>af _ e,Sz a _,⟨_,aF _ rfl,rfl,rfl⟩,fun b hb=>?_,q⟩
   have e:b=s1.heap.objs.size:=by simpa using hb
   subst e
   exact I1.fpOk (ae _) (I1.hok.fresh (ae _))
  ·obtain⟨o,kvs,H2,I2,e,q⟩:=aa9 I1 q
   exact aj7 I2 e q
 | _=>exact (show False from q1).elim
variable {es:List Expr}
theorem ad5 (hg:Gl X "range") (hm:X.mg "range" = none) (ha:QA X (a::es) r) (hs:(a::es).all noStar=true):QI X tg (.Call (.Name "range" p) (a::es) [] pos) (Vu r):=by
 intro Ex mt pins s σ H R I h
 have h2:=bj▸hs
 rw [au] at h2
 refine Call_ (Mv I hg hm boot_range (e_ (thn (ha Ex mt pos pins s σ H _ I h) fun us s1 ⟨vs,H1,I1,r1,q1⟩=>?_) (Ba h2.1 es X.env) (Bb h2.2 X.env pos)))
 dsimp only at q1
 split at q1
 ·obtain⟨⟨h1,h2⟩,q⟩:=q1
  obtain⟨u,rfl,t,rfl⟩:=Fc r1
  exact call_range_1 (P4 I1 (by first|exact ae _|exact a0 _ _|omega|(dsimp only;omega)) (by omega) (by omega) h1 h2 (by simpa using q))
 ·obtain⟨⟨h1,h2,h3,h4⟩,q⟩:=q1
  obtain⟨u,v,rfl,⟨t,rfl⟩,⟨t',rfl⟩⟩:=aw5 r1
  exact call_range_2 (P4 I1 (by first|exact ae _|exact a0 _ _|omega|(dsimp only;omega)) h1 h2 h3 h4 q)
 ·obtain⟨⟨h1,h2,h3⟩,q⟩:=q1
  cases r1 with
  | cons ra rr=>cases rr with
   | cons rb rr=>cases rr with
    | cons rc rr=>
     cases rr
     obtain⟨t,rfl⟩:=ra
     obtain⟨t',rfl⟩:=rb
     obtain⟨t2,rfl⟩:=rc
     exact call_range_3 (by omega) (ap3 I1 (by first|exact ae _|exact a0 _ _|omega|(dsimp only;omega)) h1 q) (.inl (gI (by omega)))
 ·exact q1.elim
noncomputable def gNo:DG:=fun _ _ _ _=>False
noncomputable def gdS:List DG->List V->St->Hp->(St->Hp->Prop)->Prop
 | [],[],σ,H,Q=>Q σ H
 | g::gs,v::vs,σ,H,Q=>g v σ H fun σ' H'=>gdS gs vs σ' H' Q
 | _,_,_,_,_=>False
noncomputable def gdT (K:aa) (n:Nat) (gs:List DG):DG:=fun v σ H Q=>match v with
 | .ref a=>∃ xs,SqT K H a xs/\xs.length=n/\gdS gs xs σ H Q
 | _=>False
theorem Ps:PG X tg gNo:=fun _ _ _ _ _ _ _ _ _ h=>h.elim
theorem by5:PGs X [] (gdS []):=by
 intro pins s σ H vs us Q I r h
 cases vs with
 | nil=>exact am4 pins s σ H [] us Q I r ⟨rfl,h⟩
 | cons v vs=>exact (show False from h).elim
theorem by4 {g:DG} {gs:List DG} {ts:List Expr} (h1:PG X tg g) (h2:PGs X ts (gdS gs)) (hs:(cu (tg::ts) X.env).map (·.2)=i4 tg X.env::(cu ts X.env).map (·.2)):PGs X (tg::ts) (gdS (g::gs)):=by
 intro pins s σ H vs us Q I r h
 cases vs with
 | nil=>exact (show False from h).elim
 | cons v vs=>exact ab4 h1 h2 hs pins s σ H (v::vs) us Q I r ⟨v,vs,rfl,h⟩
theorem ce8 {ts:List Expr} {k n:Nat} {gs:List DG} (hc:X.calm=true) (h:PGs X ts (gdS gs)) (hn:(cu ts X.env).length=n) (hst:(cu ts X.env).findIdx? (·.1)=none):PG X (.Tuple ts k pos) (gdT X.K n gs):=by
 intro pins s σ H v u Q I r hw
 cases v with
 | ref a=>exact ba5 hc h hn hst pins s σ H _ u Q I r (let ⟨xs,h1,h2,h3⟩:=hw;⟨a,xs,rfl,h1,h2,h3⟩)
 | _=>exact (show False from hw).elim
end
noncomputable def ax2 (p:Addr) (o:Obj) (kvs:List (Key×V)):It:=
  ⟨fun i H=>H p=some (.frz o (.dK kvs))/\i<kvs.length,
   fun i H x H'=>∃ T k v,H T=none/\x=.ref T/\kvs[i]? = some (k,v)/\H'=upd H T (.tup [kV k,v]),
   fun i H=>H p=some (.frz o (.dK kvs))/\kvs.length<=i⟩
theorem Sx {P:aE} {w:bq} {K:aa} {elts:List Expr} {kt:Nat} {pt:Pos} {it p:Addr} {o:Obj} {kvs:List (Key×V)} {ep:Nat} (he:Vc o ep) :
  Ov P w K (.Tuple elts kt pt) (ax2 p o kvs) [it] it (fun i h=>∃ ok ov,IsItemIter h it p i kvs.length ep ok ov) where
 mem:=by simp
 obj:=fun i h st b hb=>by
  obtain⟨ok,ov,e⟩:=st
  rw [List.mem_singleton.mp hb]
  exact⟨_,e,fun v q=>nomatch q⟩
 keep:=fun i h h' st k=>let ⟨ok,ov,e⟩:=st;⟨ok,ov,k it (by simp) _ e⟩
 item:=by
  intro X hP hw hK hc i pins s σ H E I hf st hg
  subst hP hw hK
  obtain⟨hH,hi⟩:=hg
  obtain⟨vs,rel,hd,hm⟩:=I.kdict hH he
  obtain⟨⟨k,v⟩,hx⟩:∃ q,kvs[i]? = some q:=⟨kvs[i],by simp [hi]⟩
  obtain⟨u,hu,ru⟩:=Ph rel hx
  have hl:kvs.length=vs.length:=rel.length
  obtain⟨ok,ov,st⟩:=st
  rw [hl] at st
  refine wpAny_pyNext_items_item st hd hu fun key h' hk out tup hz hk'=>?_
  refine⟨_,rfl,wpAny_letOwnedTupleGo_items out fun h'' hi' hs'=>?_⟩
  have hT:=I.hok.fresh (ae s.heap.objs.size)
  have nT:∀ {b ob},s.heap.get? b=some ob->b≠s.heap.objs.size:=fun q=>aL (aA q)
  have up:∀ b ob,b∉[it]->s.heap.get? b=some ob->h''.get? b=some ob:=fun b ob hb q=>by
   have b1:b≠it:=by rintro rfl;exact hb (by simp)
   exact hs'.extBut b ob b1 (hk' b ob b1 q)
  have Tnew:h''.get? s.heap.objs.size=some { cls:=.type "tuple", data:=.seq #[key,u] }:=hs'.extBut _ _ (cK (nT st)) tup
  have I1:Inv X pins σ (upd H s.heap.objs.size (.tup [kV k,v])) { s with heap:=h'' }:=
   I.turnedN (t':=s.toks) (ch:=[it]) (fun b hb=>hf b hb) up (ae _) ⟨by show 2<=sizeLine;decide,[key,u],.cons (as8 hk) (.cons ru .nil),⟨_,Tnew,rfl,_,rfl⟩⟩
  refine⟨.ref s.heap.objs.size,_,I1,rfl,⟨s.heap.objs.size,k,v,hT,rfl,hx,rfl⟩,⟨_,_,by rw [hl];exact hi'⟩,fun b hb=>?_⟩
  have q:=(hf b hb).1
  rw [Ak ?_]
  ·exact q
  ·rw [List.mem_singleton.mp hb];exact nT st
 done:=by
  intro X hP hw hK hc i pins s σ H E I hf st hg
  subst hP hw hK
  obtain⟨hH,hi⟩:=hg
  obtain⟨vs,rel,hd,hm⟩:=I.kdict hH he
  have hl:kvs.length=vs.length:=rel.length
  obtain⟨ok,ov,st⟩:=st
  rw [hl] at st
  obtain⟨f0,f1,f2,f3,f4,f5⟩:=hf it (by simp)
  exact wpAny_pyNext_items_end (I.ok.hd hc) st hd (by simp;omega) fun h' eb=>⟨rfl,I.turned (t':=s.toks) (fun b o hb e=>eb b o hb e) f0 f1 f3 f4 f5⟩
 self:=fun A i s Q E st h=>by
  obtain⟨ok,ov,e⟩:=st
  have hT:s.TypeIs (.ref it) "dict_itemiterator" := ⟨_,e,rfl⟩
  refine wpAny_pyIter_slot hT dN (eR dN hT PySem.W.kcp_entry ?_ (PySem.F.args_dict_itemiterator_iter_1 _))
  show aI _ _ (ret (.ref it)) _ _ s
  exact am ⟨_,rfl, "dict_itemiterator", _,hT,PySem.F.slot_dict_itemiterator_next.lookup,h⟩
noncomputable def a21 (a:DE):DI:=fun σ H R E=>a σ H (fun x H1=>match x with
 | .ref p=>onD p H1 fun o kvs H2=>R (ax2 p o kvs) H2
 | _=>False) E
theorem ad4 {X:Cx} {elts:List Expr} {kt:Nat} {pt ap cp:Pos} {o:Expr} {do':DE} (ho:QE X o do') (h1:Bw o=true) (h4:(ap.endLine==cp.line)=true):QI X (.Tuple elts kt pt) (.Call (.Attribute o "items" ap) [] [] cp) (a21 do'):=by
 intro Ex mt pins s σ H R I h
 refine gn (C6 h1 "items" X.env _) h4 (thn (ho Ex mt pins s σ H _ I h) fun v s1 ⟨x,H1,I1,r1,q1⟩=>?_)
 cases x with
 | ref p=>
  cases r1
  obtain⟨o,kvs,H2,I2,e,q⟩:=aa9 I1 q1
  have he:∃ ep,Vc o ep:=by
   obtain⟨e1,z,y,vs,r,ob,es,ep,e,c,d,_⟩:=I2.hok p _ e
   rw [e1] at e;cases e
   exact⟨ep,es,d⟩
  obtain⟨ep,he⟩:=he
  obtain⟨vs,rel,hd,hm⟩:=I2.kdict e he
  obtain⟨_,lo,vs',rel',dof⟩:=E9 I2.hok (.inr ⟨o,e⟩)
  obtain⟨ob,es,ep',e',c,_⟩:=id dof
  refine⟨"dict", "dict.items", f9,f_,PySem.F.type_dict_items,dof.typeIs,fun a' e2=>?_,ez rfl (ii ?_)⟩
  ·cases e2;exact⟨ob,e',c.2.1⟩
  ·refine fB f_ dof.typeIs PySem.F.entry_dict_items (PySem.F.args_dict_items_1 _) (meets_dict_items _ p lo) ⟨⟨vs',dof⟩,?_⟩
   have k1:∀ b o,s1.heap.get? b=some o->(s1.heap.push { cls:=.type "dict_items", data:=.fields #[.ref p] }).get? b=some o:=fun b o q=>af _ q
   have z1:(s1.heap.push { cls:=.type "dict_items", data:=.fields #[.ref p] }).objs.size=s1.heap.objs.size+1:=cI ..
   have view:(s1.heap.push { cls:=.type "dict_items", data:=.fields #[.ref p] }).get? s1.heap.objs.size=some { cls:=.type "dict_items", data:=.fields #[.ref p] }:=aF _ rfl
   generalize s1.heap.push { cls:=.type "dict_items", data:=.fields #[.ref p] }=h1 at k1 z1 view ⊢
   refine wpAny_pyIter_items (s:={ s1 with heap:=h1 }) ⟨_,view,rfl,rfl⟩ (hd.keep k1) ?_
   have le:s1.heap.objs.size<=h1.objs.size:=by rw [z1];exact cJ _
   refine⟨h1.objs.size,[h1.objs.size],_,_,H2,rfl,I2.kept (t':=s1.toks) fun b o e=>af _ (k1 b o e),Sx he,⟨_,_,by rw [rel.length];exact aF _ rfl⟩,fun b hb=>?_,q⟩
   have eb:b=h1.objs.size:=by simpa using hb
   subst eb
   exact I2.fpOk le (I2.hok.fresh le)
 | _=>exact (show False from q1).elim
noncomputable def Ca (cs:List (Str×Addr)):List (Str×bN)->List (Str×Addr)->List (Str×Addr)
 | [],acc=>acc
 | (n,k)::r,acc=>if k==.free then Ca cs r ((n,(cs.lookup n).getD 0)::acc) else Ca cs r acc
theorem Kt {scope:Scope} {env:Env} (h:∀ y∈scope.names,y.2=.free -> ∃ c,env.cells.lookup y.1=some c):closureFor scope env=pure (Ca env.cells scope.names []):=by
 unfold closureFor
 generalize scope.names=names at h
 suffices ∀ acc,(forIn names acc fun (x:Str×bN) cs=>do
   if (x.2==.free)=true then do
    let c <- cellOf env x.1
    pure (dg ((x.1,c)::cs))
   else pure (dg cs):Sem (List (Str×Addr)))=pure (Ca env.cells names acc) by
  have:=this []
  simp only [bind_pure]
  exact this
 induction names with
 | nil=>intro acc;rfl
 | cons y r ih=>
  intro acc
  obtain⟨n,k⟩:=y
  rw [List.forIn_cons]
  unfold Ca
  by_cases e:(k==cX)=true
  ·obtain⟨c,hc⟩:=h (n,k) (by simp) (bG e)
   have ec:cellOf env n=pure c:=by
    unfold cellOf
    rw [show env.cells.lookup n=some c from hc]
   simp only [e,if_true,ec,pure_bind]
   rw [ih (fun y hy=>h y (aJ _ hy))]
   rw [show env.cells.lookup n=some c from hc]
   rfl
  ·have e':(k==cX)=false:=by simpa using e
   simp only [e',dX,if_false,pure_bind]
   rw [ih (fun y hy=>h y (aJ _ hy))]
theorem Gj {cs:List (Str×Addr)}:∀ {names:List (Str×bN)} {acc:List (Str×Addr)} {p:Str×Addr},p∈Ca cs names acc->p∈acc\/((p.1,cX)∈names/\p.2=(cs.lookup p.1).getD 0)
 | [],_,_,h=>.inl h
 | (n,k)::r,acc,p,h=>by
  unfold Ca at h
  by_cases e:(k==cX)=true
  ·rw [if_pos e] at h
   rcases Gj h with h|⟨h1,h2⟩
   ·rcases List.mem_cons.mp h with h|h
    ·subst h
     exact .inr ⟨by rw [bG e];simp,rfl⟩
    ·exact .inl h
   ·exact .inr ⟨aJ _ h1,h2⟩
  ·rw [if_neg e] at h
   rcases Gj h with h|⟨h1,h2⟩
   ·exact .inl h
   ·exact .inr ⟨aJ _ h1,h2⟩
theorem Gi {cs:List (Str×Addr)}:∀ {names:List (Str×bN)} {acc:List (Str×Addr)} {p:Str×Addr},p∈acc->p∈Ca cs names acc
 | [],_,_,h=>h
 | (n,k)::r,acc,p,h=>by
  unfold Ca
  split
  ·exact Gi (aJ _ h)
  ·exact Gi h
theorem Lb {cs:List (Str×Addr)}:∀ {names:List (Str×bN)} {acc:List (Str×Addr)} {n:Str},(n,cX)∈names->n∈(Ca cs names acc).map (·.1)
 | [],_,_,h=>by cases h
 | (m,k)::r,acc,n,h=>by
  unfold Ca
  rcases List.mem_cons.mp h with e|h
  ·cases e
   rw [if_pos (show (cX==cX)=true from rfl)]
   exact List.mem_map.mpr ⟨_,Gi (c6),rfl⟩
  ·split <;> exact Lb h
noncomputable def P5 (sc:List (Str×bN)) (names:List (Str×bN)):List (Str×bN):=names.map fun (n,k)=>if (k==.free&&sc.lookup n==some .cell) then (n,.cell) else (n,k)
noncomputable def Pj (names:List (Str×bN)):List Str:=(names.filter fun y=>(y.2==.local) && !(y.1==(".0" : Str))).map (·.1)
noncomputable def Qs (names:List (Str×bN)):List Str:=(names.filter fun y=>y.2==.free).map (·.1)
noncomputable def cfV (o:Option bN):Bool:=o==some .cell||o==some .free
noncomputable def Cc (G:Sg) (names:List (Str×bN)):Sg:={ G with N:=Pj names++Qs names,sc:=P5 G.sc names,top:=false }
noncomputable def Ey (G:Sg) (names:List (Str×bN)):List (Option Nat):=(Pj names).map (fun _=>none)++(Qs names).map (fun x=>Bv G.N x 0)
noncomputable def Eb (G:Sg) (sc:Scope):Bool:=
 (sc.names.all fun y=>!(y.2==.cell))&&(sc.names.all fun y=>!(y.2==.local)||(sc.names.lookup y.1==some .local))&&(sc.kind==.function) &&
 decide (Pj sc.names++Qs sc.names).Nodup&&((Qs sc.names).all fun x=>(Bv G.N x 0).isSome&&cfV (G.sc.lookup x)&&cfV ((P5 G.sc sc.names).lookup x)) &&
 ((Pj sc.names).all fun x=>(P5 G.sc sc.names).lookup x==some .local)
section
variable {X:Cx} {G:Sg} {sc:Scope}
theorem Fs {o:Option bN} (h:cfV o=true):o=some .cell\/o=some .free:=by
 unfold cfV at h
 rw [cv] at h
 exact h.elim (fun e=>.inl (bG e)) fun e=>.inr (bG e)
theorem Fi (O:GOk X G):(fK sc X.env).names=P5 G.sc sc.names:=by
 unfold fK P5
 apply ic
 rintro⟨n,k⟩ _
 have e:X.env.kindOf n=G.sc.lookup n:=O.sc n
 dsimp only
 rw [e,O.kind]
 simp
theorem Mf (O:GOk X G) (h:Eb G sc=true):Hr X (Cc G sc.names).N (Ey G sc.names) sc (Ca X.env.cells sc.names []):=by
 unfold Eb at h
 simp only [au,aR,fP,decide_eq_true_eq,cv] at h
 obtain⟨⟨⟨⟨⟨h1,h2⟩,h3⟩,h4⟩,h5⟩,h6⟩:=h
 have fr:∀ y∈sc.names,y.2=.free -> ∃ c,X.env.cells.lookup y.1=some c:=fun y hy hf=>by
  refine O.cel y.1 ?_
  rw [O.sc]
  refine Fs (h5 y.1 ?_).1.2
  exact List.mem_map.mpr ⟨y,List.mem_filter.mpr ⟨hy,by rw [hf];rfl⟩,rfl⟩
 have nc:∀ y∈sc.names,y.2≠.cell:=fun y hy e=>by
  have:=h1 y hy
  rw [e] at this
  cases this
 refine⟨Kt fr,nc,bG h3,fun y hy hl=>?_,fun x c hx=>?_,fun x hx=>?_,?_,fun k j x e1 e2=>?_⟩
 ·rcases h2 y hy with z|z
  ·rw [hl] at z;cases z
  ·exact bG z
 ·have hm:=bA hx
  rcases Gj hm with z|⟨z1,z2⟩
  ·cases z
  ·obtain⟨c',hc'⟩:=fr _ z1 rfl
   have z2':c=(X.env.cells.lookup x).getD 0:=z2
   rw [show X.env.cells.lookup x=some c' from hc'] at z2' ⊢
   rw [z2']
   rfl
 ·have hn:(fK sc X.env).names=P5 G.sc sc.names:=Fi O
  have key:∀ kd,(fK sc X.env).names.lookup x=some kd->cfV (some kd)=true -> ∃ c,(Ca X.env.cells sc.names []).lookup x=some c:=fun kd hkd hc=>by
   rw [hn] at hkd
   have hm:=bA hkd
   unfold P5 at hm
   obtain⟨⟨n,k⟩,hy,e⟩:=List.mem_map.mp hm
   dsimp only at e
   have hfree:k=.free/\n=x:=by
    have hkc:=nc _ hy
    by_cases e1:(k==cX&&G.sc.lookup n==some .cell)=true
    ·rw [if_pos e1] at e
     rw [au] at e1
     exact⟨bG e1.1,congrArg Prod.fst e⟩
    ·rw [if_neg e1] at e
     cases e
     rcases Fs hc with z|z
     ·exact absurd (aM z) hkc
     ·exact⟨aM z,rfl⟩
   obtain⟨rfl,rfl⟩:=hfree
   exact Z4 (Lb hy)
  rcases hx with hx|hx
  ·exact key _ hx rfl
  ·exact key _ hx rfl
 ·unfold Ey Cc
  simp
 ·have e1':(Pj sc.names++Qs sc.names)[k]? = some x:=e1
  have e2':((Pj sc.names).map (fun _=>(none:Option Nat))++(Qs sc.names).map (fun x=>Bv G.N x 0))[k]? = some (some j):=e2
  by_cases hlt:k<(Pj sc.names).length
  ·rw [fF (by simpa using hlt),aY] at e2'
   cases q:(Pj sc.names)[k]? with
   | none=>rw [q] at e2';cases e2'
   | some z=>rw [q] at e2';cases e2'
  ·rw [dB (by simpa using hlt)] at e1' 
   rw [dB (by simpa using hlt),aw,aY,e1'] at e2'
   have hs:Bv G.N x 0=some j:=aM e2'
   have hx:x∈Qs sc.names:=bC e1'
   obtain⟨⟨_,c1⟩,c2⟩:=h5 x hx
   refine⟨by rw [O.N];exact Dq hs,?_,?_⟩
   ·rw [O.sc];exact Fs c1
   ·rw [Fi O];exact Fs c2
theorem Tn (O:GOk X G) (h:Eb G sc=true) (fp:List Addr) (C:Addr) (s:ah) (H:Hp) (xe:Value->ah->Prop) :
  GOk (X.comp (Cc G sc.names).N sc (Ca X.env.cells sc.names []) fp C s H xe) (Cc G sc.names):=by
 have S:=Mf O h
 unfold Eb at h
 simp only [au,aR,fP,decide_eq_true_eq,cv] at h
 obtain⟨⟨⟨⟨⟨h1,h2⟩,h3⟩,h4⟩,h5⟩,h6⟩:=h
 have hn:(fK sc X.env).names=P5 G.sc sc.names:=Fi O
 refine⟨O.K,bG h3,(fun z=>by cases z),rfl,h4,fun x=>?_,fun x hx=>?_,fun z=>(by cases z),O.calm,O.hd,O.units,fun x hx=>S.has x hx,fun x g e=>?_,O.bl,fun z=>(by cases z),O.fr⟩
 ·show (fK sc X.env).names.lookup x=_
  rw [hn]
  rfl
 ·show Vis (fK sc X.env) x
  unfold Vis
  rw [hn]
  rcases List.mem_append.mp hx with q|q
  ·exact .inl (bG (h6 x q))
  ·exact .inr (Fs (h5 x q).2)
 ·refine GBOk.to (X:=X) ?_ ?_ ?_ ?_ (O.gb x g e)
  ·rfl
  ·rfl
  ·exact fun _ r=>r
  ·exact fun i F=>⟨F.kp,F.ok,F.room,F.binds,F.vals⟩
end
noncomputable def Bi:St->Hp->(Option Int->Hp->Prop)->EK->Prop:=fun _ H Q _=>Q none H
noncomputable def Ch (a:DE):St->Hp->(Option Int->Hp->Prop)->EK->Prop:=fun σ H Q E=>a σ H (fun x H1=>match x with
 | .int i=>Q (some i) H1
 | _=>False) E
noncomputable abbrev DO:=St->Hp->(Option Int->Hp->Prop)->EK->Prop
noncomputable def be4 (K:aa):V->Option Int->Option Int->Hp->VK->Prop:=fun x lo hi H Q=>match x with
 | .str z=>z.length<=sizeLine/\Q (.str (d_ z lo hi)) H
 | .ref a=>(∃ xs,SqL K H a xs /\ ∀ p,H p=none->Q (.ref p) (upd H p (.lst (Ec xs lo hi)))) \/
   (∃ xs,SqT K H a xs/\((HT.sIx xs.length 0 lo=0/\HT.sIx xs.length xs.length hi=xs.length)->Q (.ref a) H)/\(¬ (HT.sIx xs.length 0 lo=0/\HT.sIx xs.length xs.length hi=xs.length) -> ∀ p,H p=none->Q (.ref p) (upd H p (.tup (Ec xs lo hi)))))
 | _=>False
noncomputable def dSl (K:aa) (a:DE) (l h:DO):DE:=fun σ H Q E=>a σ H (fun x H1=>l σ H1 (fun lo H2=>h σ H2 (fun hi H3=>be4 K x lo hi H3 Q) E) E) E
noncomputable def QO (X:Cx) (e:Option Expr) (t:DO):Prop:=∀ Ex,Meets X Ex->PO X e (fun σ H Q=>t σ H Q (Ex σ))
theorem Fx {prog:aE} {w:bq} {A:aT} {E:Value->ah->Prop} {s:ah} {t sl:Addr} {items:Array Value} {vl vu:Value} {lo hi:Option Int} {Q:Value->ah->Prop} (ht:jt s.heap t items) (hs:s.heap.IsSliceOf sl vl vu .none) (pl:iw vl lo) (pu:iw vu hi)
  (hw:HT.sIx items.size 0 lo=0/\HT.sIx items.size items.size hi=items.size) (h:Q (.ref t) s):aI (model prog w) A (im (.ref t) (.ref sl)) Q E s:=by
 obtain⟨os,hos,hcs,hds⟩:=id hs
 have hTs:s.TypeIs (.ref sl) "slice" := ⟨os,hos,hcs⟩
 unfold im
 try with_reducible refine bv ?_
 first|refine ag (am ?_)|skip
 refine ag (wpAny_sequenceKey ht.typeIs (by decide) ?_)
 refine ag (gp (name:=dU "__getitem__") ht.typeIs bw
  (eR bw ht.typeIs PyProof.Rows.entry_tuple_getitem ?_ (PyProof.Rows.args_tuple_getitem _ _)))
 show aI _ _ (fv (.ref t) >>= _) _ _ s
 refine ag (tupleItemsOf_ ht ?_)
 refine ag (i_ hTs ?_)
 rw [if_pos (by decide)]
 refine ag (HT.sliceApplied_gen hs pl pu ?_)
 have hy:(((HT.sIx items.size 0 lo:Nat):Int)==0&&(1:Int)==1&&(HT.sIx items.size items.size hi - HT.sIx items.size 0 lo)==items.size)=true:=by
  rw [hw.1,hw.2]
  simp
 show aI _ _ (if (((HT.sIx items.size 0 lo:Nat):Int)==0&&(1:Int)==1&&(HT.sIx items.size items.size hi - HT.sIx items.size 0 lo)==items.size)=true then _ else _) _ _ s
 rw [if_pos hy]
 refine ag (m:=Builtin.Tuple.tupleIsExact _) (ag (i_ ht.typeIs (am ?_)))
 rw [if_pos (by decide)]
 exact ag (wpAny_rule (am ⟨_,rfl,am h⟩))
noncomputable def cf2 (K:aa):V->Option Int->Option Int->Hp->VK->Prop:=fun x lo hi H Q=>∃ a xs,x=.ref a/\SqT K H a xs/\(HT.sIx xs.length 0 lo=0/\HT.sIx xs.length xs.length hi=xs.length)/\Q (.ref a) H
theorem bm7 {X:Cx}:SlR X (cf2 X.K):=by
 intro pins s σ H x v vl vu lo hi sl Q I rx hs pl pu h
 obtain⟨a,xs,rfl,hx,hw,q⟩:=h
 cases rx
 obtain⟨its,r,ht,hz⟩:=I.tuple hx
 have hlen:its.toArray.size=xs.length:=by rw [al];exact r.length.symm
 exact⟨"tuple", _,PyProof.Rows.slot_tuple_getitem.lookup,ht.typeIs,Fx ht hs pl pu (by rw [hlen];exact hw) ⟨.ref a,H,I,rfl,q⟩⟩
section
variable {X:Cx} {G:Sg} {e:Expr} {de:DE} {lo hi:Option Expr} {dl dh:DO} {pos p2:Pos}
theorem Us:QO X none Bi:=fun _ _=>am5
theorem Ut (h:QE X e de):QO X (some e) (Ch de):=by
 intro Ex m pins s σ H Q I hw
 rw [evalPart_some]
 refine thn (h Ex m pins s σ H _ I hw) fun u s1 ⟨x,H1,I1,r1,q1⟩=>?_
 cases x with
 | int i=>obtain⟨t,rfl⟩:=r1;exact⟨some i,H1,I1,.int i t,q1⟩
 | _=>exact (show False from q1).elim
theorem M3 (e:Expr) (z:Str) (t:Tok) (r:Value):letTemporaryGo e (.str z t) r=pure ():=by
 cases e <;> rfl
theorem ad3 (he:QE X e de) (hl:QO X lo dl) (hh:QO X hi dh):QE X (.Subscript e (.Slice lo hi none p2) pos) (dSl X.K de dl dh):=by
 intro Ex m pins s σ H Q I h
 refine Subscript_ (thn (he Ex m pins s σ H _ I h) fun v s1 ⟨x,H1,I1,r1,q1⟩=>?_)
 refine wpAny_Slice (thn (hl Ex m pins s1 σ H1 _ I1 q1) fun vl s2 ⟨l,H2,I2,pl,q2⟩=>thn (hh Ex m pins s2 σ H2 _ I2 q2) fun vu s3 ⟨u,H3,I3,pu,q3⟩=>?_)
 rw [evalPart_none]
 refine am ?_
 show aI (model X.prog X.w) X.A (iL e (.Slice lo hi none p2) v (.ref s3.heap.objs.size)) (EP X pins σ Q) X.xe { s3 with heap:=s3.heap.push { cls:=.type "slice", data:=.fields #[vl,vu,.none] } }
 have I4:Inv X pins σ H3 { s3 with heap:=s3.heap.push { cls:=.type "slice", data:=.fields #[vl,vu,.none] } }:=I3.kept (t':=s3.toks) fun b ob q=>af _ q
 have gen:∀ r,SlR X r->r x l u H3 Q->aI (model X.prog X.w) X.A (iL e (.Slice lo hi none p2) v (.ref s3.heap.objs.size)) (EP X pins σ Q) X.xe { s3 with heap:=s3.heap.push { cls:=.type "slice", data:=.fields #[vl,vu,.none] } }:=fun r hr q=>by
  obtain⟨T,id,hT,ht,hg⟩:=hr pins _ σ H3 x v vl vu l u s3.heap.objs.size Q I4 r1 (Heap.IsSliceOf.new ..) pl pu q
  exact tail_any (ops:=[.ref s3.heap.objs.size,v]) ht hT hg (by with_unfolding_all rfl)
 cases x with
 | str z=>
  obtain⟨hz,q⟩:=q3
  obtain⟨t,rfl⟩:=r1
  have hk:KeptH (fun h=>Inv X pins σ H3 { s3 with heap:=h }):=fun h ob J=>J.kept (t':=s3.toks) fun b o eb=>af _ eb
  have fin:∀ h' t' k,Inv X pins σ H3 { s3 with heap:=h' }->(fun (a:Value) (s':ah)=>s3.toks<=s'.toks->EP X pins σ Q a s') (.str (d_ z l u) t') { s3 with heap:=h',toks:=k }:=fun h' t' k J htk=>⟨.str _,H3,J.tok k htk,⟨_,rfl⟩,q⟩
  refine bB (n:=s3.toks) (ae _) ?_
  cases pl with
  | none=>
   cases pu with
   | none=>exact fL (SBH.sliceItem_nn hk I3 fin hz) (by with_unfolding_all rfl) (M3 e z t)
   | int j uj=>exact fL (SBH.sliceItem_ns hk I3 fin hz) (by with_unfolding_all rfl) (M3 e z t)
  | int i ui=>
   cases pu with
   | none=>exact fL (SBH.sliceItem_sn hk I3 fin hz) (by with_unfolding_all rfl) (M3 e z t)
   | int j uj=>exact fL (SBH.sliceItem_ss hk I3 fin hz) (by with_unfolding_all rfl) (M3 e z t)
 | ref a=>
  rcases q3 with ⟨xs,h1,h2⟩|⟨xs,h1,h2,h3⟩
  ·exact gen _ ap1 ⟨a,xs,rfl,h1,h2⟩
  ·by_cases hw:HT.sIx xs.length 0 l=0/\HT.sIx xs.length xs.length u=xs.length
   ·exact gen _ bm7 ⟨a,xs,rfl,h1,hw,h2 hw⟩
   ·exact gen _ bm8 ⟨a,xs,rfl,h1,hw,h3 hw⟩
 | _=>exact (show False from q3).elim
noncomputable def Ix:Expr->Bool
 | .Set _ _ _=>false
 | _=>true
theorem Iy {e:Expr} (h:Ix e=true) (env:Env) (x:Value):dy e env x=pure x:=by
 cases e with
 | Set _ _ _=>cases h
 | _=>rfl
theorem Eo:Meets X (fun _ _ _=>False):=fun _ _ _ _ _ _ _ h=>h.elim
variable {tg iter elt:Expr} {ifs:List Expr} {sc:Scope} {wi:DI} {g:DG} {tc:DT}
noncomputable def Q8 (G:Sg) (x:Str):Bool:=(G.sc.lookup x==some .local)||(G.top&&(G.sc.lookup x==some .cell))
noncomputable def wG:Nat->Sg->Expr->DG
 | 0,_,_=>gNo
 | n+1,G,e=>match e with
  | .Name x _=>match Bv G.N x 0 with
   | some i=>if Q8 G x=true then gdN i else gNo
   | none=>gNo
  | .Tuple ts _ _=>if G.calm=true/\ts.all noStar=true then gdT G.K ts.length (ts.map (wG n G)) else gNo
  | _=>gNo
theorem M4 (O:GOk X G) {x:Str} (h:Q8 G x=true):Loc X.env.scope x/\(X.fn x=true\/X.env.scope.names.lookup x=some .local):=by
 unfold Q8 at h
 rw [cv,au] at h
 rcases h with h|⟨h1,h2⟩
 ·have:X.env.scope.names.lookup x=some .local:=by rw [O.sc];exact bG h
  exact⟨.inl this,.inr this⟩
 ·have:X.env.scope.names.lookup x=some .cell:=by rw [O.sc];exact bG h2
  exact⟨.inr this,.inl (O.top h1 x)⟩
theorem D0 {e:Expr} (h:noStar e=true) (es:List Expr) (env:Env):cu (e::es) env=(false,i4 e env)::cu es env:=by
 cases e with
 | Starred _ _=>cases h
 | _=>rfl
theorem Ht {es:List Expr} (h:es.all noStar=true) (env:Env):(cu es env).length=es.length/\(cu es env).findIdx? (·.1)=none:=by
 induction es with
 | nil=>exact⟨rfl,rfl⟩
 | cons e es ih=>
  rw [bj,au] at h
  obtain⟨h1,h2⟩:=ih h.2
  rw [D0 h.1]
  refine⟨by rw [aS,aS,h1],?_⟩
  rw [List.findIdx?_cons,h2]
  rfl
theorem Qc:∀ (n:Nat) (X:Cx) (G:Sg),GOk X G -> ∀ e,PG X e (wG n G e)
 | 0,_,_,_,_=>Ps
 | n+1,X,G,O,e=>by
  cases e with
  | Name x p=>
   unfold wG
   dsimp only
   split
   ·rename_i i e
    split
    ·rename_i h
     obtain⟨h1,h2⟩:=M4 O h
     exact am3 (by rw [O.N];exact O.nd) (by rw [O.N];exact Dq e) h1 h2
    ·exact Ps
   ·exact Ps
  | Tuple ts k p=>
   unfold wG
   dsimp only
   split
   ·rename_i h
    obtain⟨h1,h2⟩:=h
    obtain⟨h3,h4⟩:=Ht h2 X.env
    rw [<- O.K]
    refine ce8 (O.calm▸h1) ?_ h3 h4
    clear h3 h4
    induction ts with
    | nil=>exact by5
    | cons t ts ih=>
     rw [bj,au] at h2
     refine by4 (Qc n X G O t) (ih h2.2) ?_
     rw [D0 h2.1]
     rfl
   ·exact Ps
  | _=>exact Ps
end
end L2
namespace L2
open PySem PySem.Spec
structure Td (l:List Addr) (e C:Addr) (dx:Option Addr) (h h':Heap):Prop where
 exc:∃ (vs':Array Value) (T:Addr) (oT:Obj) (ts':Array Value),h'.get? e=some (Aq C dx vs')/\vs'.size=6/\vs'[1]? = some (.ref T)/\h.objs.size<=T/\T≠e/\h'.get? T=some oT/\oT.data=.fields ts'/\3<ts'.size /\ ∀ vs,h.get? e=some (Aq C dx vs)->vs'[2]? = vs[2]?
 keep:∀ b o,b≠e->b∉l->h.get? b=some o->h'.get? b=some o
 slot:∀ b o,b≠e->h.get? b=some o -> ∃ sl,h'.get? b=some { o with slots:=sl }
noncomputable abbrev tbO (fs:Array Value):Obj:={ cls:=.type "traceback", dict:=none,data:=.fields fs }
noncomputable abbrev Iq (T:Addr):Obj->Obj:=bu (·.setIfInBounds 1 (.ref T))
noncomputable abbrev Hi (h:Heap) (e:Addr) (fs:Array Value):Heap:=(h.push (tbO fs)).update e (Iq h.objs.size)
section
variable {h:Heap} {e C:Addr} {dx:Option Addr} {vs fs:Array Value}
theorem apart (q:h.get? e=some (Aq C dx vs)):h.objs.size≠e:=eN (aA q)
theorem Pi (T:Addr):(Iq T (Aq C dx vs)).data=.fields (vs.setIfInBounds 1 (.ref T)):=rfl
theorem Qm (q:h.get? e=some (Aq C dx vs)):(Hi h e fs).get? e=some (Aq C dx (vs.setIfInBounds 1 (.ref h.objs.size))):=
 bH (Iq h.objs.size) (af (tbO fs) q) (cE (Pi h.objs.size))
theorem Qn (q:h.get? e=some (Aq C dx vs)):(Hi h e fs).get? h.objs.size=some (tbO fs):=
 (aQ (h.push (tbO fs)) (Iq h.objs.size) (apart q).symm).trans (aF h rfl)
theorem G4 {b:Addr} {o:Obj} (ne:b≠e) (q:h.get? b=some o):(Hi h e fs).get? b=some o:=
 (aQ (h.push (tbO fs)) (Iq h.objs.size) ne.symm).trans (af (tbO fs) q)
theorem Qz {h0:Heap} {l:List Addr} (hz:h.objs.size=h0.objs.size) (k1:∀ b,b∉l->h.get? b=h0.get? b) (k2:∀ b o,h0.get? b=some o -> ∃ sl,h.get? b=some { o with slots:=sl }) (q:h.get? e=some (Aq C dx vs)) (hs:vs.size=6) (hf:3<fs.size) :
  Td l e C dx h0 (Hi h e fs) where
 exc:=⟨_,h.objs.size,_,_,Qm q,by rw [cM];exact hs,c9 (by omega),by omega,apart q,Qn q,rfl,hf,fun vs0 q0=>by
  obtain⟨sl,z⟩:=k2 e _ q0
  rw [q] at z
  cases z
  exact b9 (by decide)⟩
 keep:=fun b o ne nl hb=>G4 ne ((k1 b nl).trans hb)
 slot:=fun b o ne hb=>let ⟨sl,z⟩:=k2 b o hb;⟨sl,G4 ne z⟩
end
section
variable {M:Model} {A:aT} {E:Value->ah->Prop} {s:ah} {base:Heap} {env:Env} {outer:List Env} {L e C:Addr} {dx:Option Addr} {vs:Array Value} {Q:Unit->ah->Prop}
theorem V5 {head:Value} {hadNext:Bool} {env0:Env} (hfr:A.frames=some (env0::outer)) (hl:s.heap.FunFrames base (env0::outer)) (h0:env0.frame=some L) (hf:env.frame=some L) (q:s.heap.get? e=some (Aq C dx vs)) (hs:vs.size=6) (k:∀ h',Td (frs (env0::outer)) e C dx s.heap h'->Q () { s with heap:=h' }) :
  aI M A ((jp env >>= fun a=>entryPlaceOf L hadNext >>= fun pl=>eX head a .none (jf L) .none pl >>= fun b=>setField (.ref e) 1 b)) Q E s:=by
 have off:e∉frs (env0::outer):=fun z=>by
  obtain⟨_,o,z1,z2⟩:=hl.mem z
  rw [q] at z1
  cases z1
  exact z2 vs rfl
 have fe:jp env=jp env0:=by unfold jp;rw [hf,h0]
 rw [fe]
 refine ag (wpAny_frameOf_fun hfr hl h0 fun h1 ⟨a1,a2,a3⟩=>ag (wpAny_entryPlaceOf fun pl hpl=>?_))
 unfold eX newFields
 refine ag (cT ?_ (hpl.sizeOk5 _ _ _ _ _))
 have q1:h1.get? e=some (Aq C dx vs):=(a2 e off).trans q
 have lt:3<([head,.ref L,.none,jf L,.none]++(if pl.isEmpty then hZ 6 bh else pl)).toArray.size:=by rw [al,aH];simp only [aS,gR];omega
 generalize ([head,.ref L,.none,jf L,.none]++(if pl.isEmpty then hZ 6 bh else pl)).toArray=fs at lt ⊢
 exact fO (af (tbO fs) q1) rfl (show 1<vs.size by omega) (k _ (Qz a1 a2 a3 q1 hs lt))
end
end L2
namespace L2
open PySem PySem.Spec PyProof.Rows
open Sem (wp)
noncomputable def bs6 (n:Nat) (a:Addr) (H':Hp) (s':ah):Prop:=
 ∃ (C:Addr) (dx:Option Addr) (vs:Array Value) (T:Addr) (oT:Obj) (ts:Array Value),FlO H' a C dx/\s'.heap.get? a=some (Aq C dx vs)/\vs.size=6/\vs[1]? = some (.ref T)/\T≠a/\s'.heap.get? T=some oT/\oT.data=.fields ts/\ts[3]? = some .none/\n<=T/\H' T=none
noncomputable def CXE (P:aE) (w:bq):CXT:=fun outer H s E e s'=>
 ∃ (a:Addr) (H':Hp),e=.ref a/\(s'.os=s.os/\s.toks<=s'.toks)/\gO s'.gens/\Un (frs outer) [] H H' s.heap s'.heap/\HOk P w H' s'.heap/\bs6 s.heap.objs.size a H' s'/\E e none H'
section
variable {X:Cx} {pins:List (Addr×Obj)} {σ:St} {H:Hp} {s:ah} {a C:Addr} {dx:Option Addr} {h':Heap}
theorem ak7 (I:Inv X pins σ H s) (ea:FlO H a C dx) (L:Td (frs X.stack) a C dx s.heap h'):Un (frs X.stack) [] H H s.heap h' where
 keep:=fun b o q n hb _=>L.keep b o (fun z=>by rw [z] at n;rcases ea with ea|ea <;> (rw [ea] at n;cases n)) hb q
 slot:=fun b o q n _ _=>L.slot b o (fun z=>by rw [z] at n;rcases ea with ea|ea <;> (rw [ea] at n;cases n)) q
 free:=fun b o _ n _=>n
 there:=fun b o q _=>by
  by_cases hb:b=a
  ·obtain⟨vs',T,oT,ts',h1,_⟩:=L.exc
   exact⟨_,by rw [hb];exact h1⟩
  ·obtain⟨sl,h1⟩:=L.slot b o hb q
   exact⟨_,h1⟩
 tups:=fun _ _ e=>e
 frzs:=fun _ _ _ e=>e
 tbls:=fun b ps e=>⟨#[],by rw [e];simp⟩
theorem ak6 (I:Inv X pins σ H s) (ea:FlO H a C dx) (L:Td (frs X.stack) a C dx s.heap h'):HOk X.prog X.w H h':=fun b o e=>by
 by_cases hb:b=a
 ·subst hb
  obtain⟨vs',T,oT,ts',h1,h2,_,_,_,_,_,_,hc⟩:=L.exc
  rcases ea with ea|ea
  ·obtain⟨vs,g1,_,g3⟩:=Ze I ea
   rw [ea] at e
   cases e
   exact Zd h1 h2 ((hc vs g1).trans g3)
  ·rw [ea] at e
   cases e
   exact Zc h1 h2
 ·refine (I.hok b o e).stay (fun c u hc q=>L.keep c u ?_ ?_ q) (fun _ q=>q) fun _ _ q=>q
  ·rcases hc with rfl|hc
   ·exact hb
   ·rintro rfl
    rcases ea with ea|ea <;> (rw [ea] at hc;cases hc)
  ·intro hm
   have n:=I.stkFree c hm
   rcases hc with rfl|hc
   ·rw [n] at e;cases e
   ·rw [n] at hc;cases hc
end
end L2
namespace L2
open PySem PySem.Spec PyProof.Rows
open Sem (wp)
section
variable {X:Cx} {pins:List (Addr×Obj)} {σ:St} {H:Hp} {s:ah} {a:Addr} {E:Value->ah->Prop} {Q:Unit->ah->Prop}
noncomputable def FlyT (X:Cx) (pins:List (Addr×Obj)) (H:Hp) (a:Addr) (s:ah) (z:Value):Prop:=
 ∃ (C:Addr) (dx:Option Addr) (vs:Array Value) (T:Addr) (oT:Obj) (ts:Array Value),FlO H a C dx/\s.heap.get? a=some (Aq C dx vs)/\vs.size=6/\vs[1]? = some (.ref T)/\T≠a/\s.heap.get? T=some oT/\oT.data=.fields ts/\ts[3]? = some z/\Df X pins H T
theorem FlyT.at {z:Value} (F:FlyT X pins H a s z):E8 X pins H a s:=by
 obtain⟨C,dx,vs,T,oT,ts,h1,h2,h3,q1,q2,q3,q4,q5,q6⟩:=F
 exact⟨C,dx,vs,h1,h2,h3,.inr ⟨T,oT,ts,q1,q2,q3,q4,⟨z,q5⟩,q6⟩⟩
theorem b53 {C T:Addr} {dx:Option Addr} {vs ts:Array Value} {oT:Obj} {y:Value} (I:Inv X pins σ H s) (h1:FlO H a C dx) (h2:s.heap.get? a=some (Aq C dx vs)) (h3:vs.size=6) (q1:vs[1]? = some (.ref T)) (q2:T≠a) (q3:s.heap.get? T=some oT) (q4:oT.data=.fields ts) (q5:ts[3]? = some y) (q6:Df X pins H T) (v:Value) :
  Inv X pins σ H { s with heap:=s.heap.update T (bu (·.setIfInBounds 3 v)) }/\FlyT X pins H a { s with heap:=s.heap.update T (bu (·.setIfInBounds 3 v)) } v/\(s.heap.update T (bu (·.setIfInBounds 3 v))).get? a=some (Aq C dx vs):=by
 have ha:(s.heap.update T (bu (·.setIfInBounds 3 v))).get? a=some (Aq C dx vs):=(aQ _ _ q2).trans h2
 obtain⟨c0,d0,dt0,sl0⟩:=oT
 cases (show dt0=.fields ts from q4)
 have hT:(s.heap.update T (bu (·.setIfInBounds 3 v))).get? T=some ⟨c0,d0,.fields (ts.setIfInBounds 3 v),sl0⟩:=bH _ q3 (cE (vs:=ts.setIfInBounds 3 v) rfl)
 exact⟨I.turned (t':=s.toks) (fun b o ne e=>(aQ _ _ (cK ne)).trans e) q6.1 q6.2.1 q6.2.2.2.1 q6.2.2.2.2.1 q6.2.2.2.2.2,⟨C,dx,vs,T,_,_,h1,ha,h3,q1,q2,hT,rfl,c9 (Array.getElem?_eq_some_iff.mp q5).1,q6⟩,ha⟩
theorem Uz {A:aT} {fr:Option Addr} {z:Value} (I:Inv X pins σ H s) (F:FlyT X pins H a s z) (h:∀ s',Inv X pins σ H s'->FlyT X pins H a s' (fr.elim .none fun f=>jf f)->Q () s'):aI (model X.prog X.w) A (hG (.ref a) fr) Q E s:=by
 obtain⟨C,dx,vs,T,oT,ts,h1,h2,h3,q1,q2,q3,q4,q5,q6⟩:=F
 obtain⟨I',F',_⟩:=b53 I h1 h2 h3 q1 q2 q3 q4 q5 q6 (fr.elim .none fun f=>jf f)
 unfold hG
 refine ag (cb h2 rfl q1 ?_)
 rw [if_pos (by simp)]
 exact fO q3 q4 (Array.getElem?_eq_some_iff.mp q5).1 (h _ I' F')
theorem aa5 {env:Env} (I:Inv X pins σ H s) {e0:Env} {o0:List Env} {L:Addr} (hs:X.stack=e0::o0) (h0:e0.frame=some L) (hf:env.frame=some L) (F:E8 X pins H a s) (h:∀ s' z,Inv X pins σ H s'->FlyT X pins H a s' z->Q () s') :
  aI (model X.prog X.w) X.A (iI (.ref a) env) Q E s:=by
 obtain⟨C,dx,vs,h1,h2,h3,h4⟩:=F
 have fr:X.A.frames=some (e0::o0):=hs▸I.ok.frames
 have new:∀ {s1:ah} {head:Value} {hadNext:Bool},Inv X pins σ H s1->s1.heap.get? a=some (Aq C dx vs)->aI (model X.prog X.w) X.A ((jp env >>= fun y=>entryPlaceOf L hadNext >>= fun pl=>eX head y .none (jf L) .none pl >>= fun b=>setField (.ref a) 1 b)) Q E s1:=fun {s1 head hadNext} I1 q=>by
  have fn:s1.heap.FunFrames X.base (e0::o0):=hs▸I1.stack
  refine V5 (base:=X.base) fr fn h0 hf q h3 fun h' L=>?_
  rw [<- hs] at L
  have I':=I1.call (h':=h') (g':=s1.gens) (t':=s1.toks) (d':=s1.drawn) (ch:=[]) (ak7 I1 h1 L) (ak6 I1 h1 L) I1.bare (fun b z=>absurd z (by simp))
  obtain⟨vs',T,oT,ts',a1,a2,a3,a4,a5,a6,a7,a8,_⟩:=L.exc
  exact h _ _ I' ⟨C,dx,vs',T,oT,ts',h1,a1,a2,a3,a5,a6,a7,fC a8,I1.fpOk a4 (I1.hok.fresh a4)⟩
 unfold iI
 simp only [hf]
 rcases h4 with c|⟨T,oT,ts,c,ne,hT,hd,⟨z,hz⟩,fp⟩
 ·refine ag (cb h2 rfl c ?_)
  rw [if_neg (by decide)]
  exact new I h2
 ·refine ag (cb h2 rfl c ?_)
  rw [if_pos (by simp)]
  refine ag (cb hT hd hz ?_)
  by_cases e:(z==jf L)=true
  ·rw [if_pos e]
   exact am (h s z I ⟨C,dx,vs,T,oT,ts,h1,h2,h3,c,ne,hT,hd,hz,fp⟩)
  ·rw [if_neg e]
   obtain⟨I',_,ha⟩:=b53 I h1 h2 h3 c ne hT hd hz fp .none
   exact ag (fO hT hd (Array.getElem?_eq_some_iff.mp hz).1 (new I' ha))
theorem Ui (I:Inv X pins σ H s) (hs:X.stack=X.env::X.outer) (hf:X.env.frame=some X.env.locals) (F:E8 X pins H a s) (h:∀ s',Inv X pins σ H s'->FlyT X pins H a s' .none->Q () s') :
  aI (model X.prog X.w) X.A (iI (.ref a) X.env) (fun _ s1=>aI (model X.prog X.w) X.A (hG (.ref a) none) Q E s1) E s:=
 aa5 I hs hf hf F fun s1 z I1 F1=>Uz I1 F1 h
theorem Gn {A:aT} (I:Inv X pins σ H s) (F:E8 X pins H a s) (h:∀ s',Inv X pins σ H s'->E8 X pins H a s'->Q () s'):aI (model X.prog X.w) A (hG (.ref a) none) Q E s:=by
 obtain⟨C,dx,vs,h1,h2,h3,h4⟩:=F
 rcases h4 with h4|⟨T,oT,ts,q1,q2,q3,q4,⟨z,q5⟩,q6⟩
 ·unfold hG
  refine ag (cb h2 rfl h4 ?_)
  rw [if_neg (by decide)]
  exact am (h s I ⟨C,dx,vs,h1,h2,h3,.inl h4⟩)
 ·exact Uz I ⟨C,dx,vs,T,oT,ts,h1,h2,h3,q1,q2,q3,q4,q5,q6⟩ fun s' I' F'=>h s' I' F'.at
end
section
variable {prog:aE} {w:bq} {A:aT} {E:Value->ah->Prop} {s:ah} {K:aa} {a C D:Addr} {dx:Option Addr} {vs:Array Value} {b:Bool} {Q:Bool->ah->Prop}
open PySem.W in
theorem Iu (X:K.In s.heap) (c:ECls K C) (d:ECls K D) (ha:s.heap.get? a=some (Aq C dx vs)) (m:mroIn K C (.ref D)=some b) (h:Q b s) :
  aI (model prog w) A (excMatches (.ref a) (.ref D)) Q E s:=by
 obtain⟨nm,qn,N,bs,bm,hdct,sn,sub,ab,col,dd,k0,k1,k2,k3,k5,hl,ht,hd⟩:=c.obj
 obtain⟨nm',qn',N',bs',bm',hdct',sn',sub',ab',col',dd',k0',k1',k2',k3',k5',hl',ht',hd'⟩:=d.obj
 have hC:=X _ _ hl
 have hD:=X _ _ hl'
 have hcB:(aC D::bm').contains (.type "BaseException")=true:=by rw [a_,Bh ht' (show valTail.contains (.type "BaseException")=true by decide +kernel),dQ]
 have hcD:(aC C::bm).contains (.ref D)=b:=by
  unfold mroIn at m
  obtain⟨cd,e,em⟩:∃ cd,clsIn K C=some cd/\cd.mro=.ref C::bm:=⟨_,by unfold clsIn;rw [hl],rfl⟩
  rw [e,bQ,em] at m
  exact aM m
 have f:=tc_notTuple
 obtain⟨hp,g,dr,tk,os⟩:=s
 unfold excMatches
 repeat (first|with_reducible refine aP ha ?_|with_reducible refine aP hD ?_|(with_reducible refine bL hD ?_;rw [hcB])|(with_reducible refine bL hC ?_;rw [hcD])|wp_step)
 cases b <;> (wp_walk;exact h)
end
end L2
namespace L2
open PySem PySem.Spec PyProof.Rows
section
variable {X:Cx} {G:Sg} {elt tg iter:Expr} {ifs:List Expr} {sc:Scope} {wi:DI} {g:DG} {tc:DT} {de:DE} {pos:Pos}
theorem bu0 {pins pins':List (Addr×Obj)} {σ:St} {H2 H':Hp} {s2:ah} {N':List Str} {cl:List (Str×Addr)} {fp:List Addr} {C T:Addr} {xe:Value->ah->Prop} (I2:Inv X pins σ H2 s2) (f2:∀ b∈fp,Df X pins H2 b)
  (F:Df (X.comp N' sc cl fp C s2 H2 xe) pins' H' T):Df X pins H' T:=by
 obtain⟨r1,r2,r3,r4,r5,r6⟩:=F
 rcases r4 with r4|r4
 ·exact⟨r1,(f2 T r4).2⟩
 ·exact I2.fpOk r4 r1
theorem Iv {Ex:St->EK} (m:Meets X Ex) (fr:FrH X) {pins:List (Addr×Obj)} {σ:St} {H2:Hp} {s2:ah} {N':List Str} {cl:List (Str×Addr)} {fp:List Addr} {C D:Addr} {us:Option (Value->Sem Unit)} {Q2:Value->ah->Prop} (I2:Inv X pins σ H2 s2) (f2:∀ b∈fp,Df X pins H2 b)
  (hC:s2.heap.objs.size<=C):Meets (X.comp N' sc cl fp C s2 H2 (Bc X sc cl us Q2 D C)) (fun _ a H'=>Ex σ a H'):=by
 intro pins' σ' H' s' a I' F' hE
 obtain⟨e0,o0,L,f1,f3,f4⟩:=fr
 refine aa5 (X:=X.comp N' sc cl fp C s2 H2 (Bc X sc cl us Q2 D C)) (env:=jo sc cl C X.env) I' f1 f3 f4 F' fun s3 z I3 F3=>?_
 obtain⟨mm,hn,_⟩:=id I3.loc
 refine⟨mm,hn,fun h' sb cenv hce=>?_⟩
 have I4:Inv X pins σ H' s3:=I2.call' (ch:=fp) I3.os I3.base I3.hok I3.bare fun b hb=>⟨(f2 b hb).2.2.2.1,(f2 b hb).2.1,(f2 b hb).2.2.2.2.1,(f2 b hb).2.2.2.2.2⟩
 have fo:=I2.fpOk hC I3.free
 obtain⟨g0,g1,g2,g3,g4,g5⟩:=id fo
 have I5:Inv X pins σ H' { s3 with heap:=h' }:=I4.turned (t':=s3.toks) (fun b o hb e=>(sb.2 b hb).trans e) g0 g1 g3 g4 g5
 obtain⟨C0,dx,vs,T,oT,ts,h1,h2,h3,q1,q2,q3,q4,q5,q6⟩:=F3
 have na:a≠C:=fun z=>by rcases h1 with h1|h1 <;> (rw [z,g0] at h1;cases h1)
 have nT:T≠C:=q6.2.1
 have F5:FlyT X pins H' a { s3 with heap:=h' } z:=⟨C0,dx,vs,T,oT,ts,h1,(sb.2 a na).trans h2,h3,q1,q2,(sb.2 T nT).trans q3,q4,q5,bu0 I2 f2 q6⟩
 unfold PySem.passOn
 refine ag (cb (s:={ s3 with heap:=h' }) ((sb.2 a na).trans h2) rfl q1 ?_)
 rw [if_neg (by simp)]
 refine ag (Uz I5 F5 fun s6 I6 F6=>?_)
 exact wpAny_throw (m pins σ H' s6 a I6 F6.at hE)
noncomputable def ai8 (X:Cx) (ifs:List Expr) (t:DT):Prop:=∀ Ex,Meets X Ex->Vd X ifs (fun σ H Q=>t σ H Q (Ex σ))
theorem Pw:ai8 X [] G9:=fun _ _=>ab7
theorem Px {c:Expr} {t:DT} (h:QT X c t):ai8 X [c] t:=fun Ex m=>ab8 (h Ex m)
theorem Uo (O:GOk X G) (hc:X.calm=true) (hk:Eb G sc=true) (hs:Ix iter=true) (hi:QI X tg iter wi) (hg:∀ X',GOk X' (Cc G sc.names)->PG X' tg g) (ht:∀ X',GOk X' (Cc G sc.names)->ai8 X' ifs tc) (he:∀ X',GOk X' (Cc G sc.names)->QE X' elt de) :
  QE X (.ListComp elt [⟨tg,iter,ifs,0⟩] sc pos) (Ef (Ey G sc.names) wi g tc de):=by
 intro Ex m pins s σ H Q I h
 exact Yx hc (Mf O hk) (hi Ex m) (fun Q2 fp C D s2 H2 I2 f2 hC=>
  have M:=Iv (N':=(Cc G sc.names).N) (cl:=Ca X.env.cells sc.names []) (us:=none) (Q2:=Q2) (D:=D) m O.fr I2 f2 hC
  have K:=Tn O hk fp C s2 H2 (Bc X sc (Ca X.env.cells sc.names []) none Q2 D C)
  ⟨hg _ K,ht _ K _ M,he _ K _ M⟩) I h (fun x=>Iy hs X.env x)
end
noncomputable def Tl (K:aa) (op:BoolOp):List DE->DE
 | []=>dNo
 | [a]=>a
 | a::r=>match op with
  | .And=>Cm K a (Tl K op r)
  | .Or=>aj5 K a (Tl K op r)
noncomputable def Tk (op:BoolOp):List DT->DT
 | []=>fun _ _ _ _=>False
 | [a]=>a
 | a::r=>match op with
  | .And=>Y0 a (Tk op r)
  | .Or=>dOr a (Tk op r)
noncomputable def Cl:List DE->DA
 | []=>Ag
 | a::r=>Ab a (Cl r)
noncomputable def tNo:DT:=fun _ _ _ _=>False
noncomputable def Ws (G:Sg) (ops:List jk) (bs:List Expr) (a:DE) (ds:List DE):DE:=match ops,bs,ds with
 | [op],[b],[d]=>if gf op b=false then Ae (Ky G.K op) a d else dNo
 | [op,op'],[b,c],[d,d']=>if lastMarks [op,op'] [b,c]=false then Cy (Ky G.K op) (Ky G.K op') a d d' else dNo
 | _,_,_=>dNo
noncomputable def ai1 (G:Sg) (x:Str) (es:List Expr) (ds:List DE):DE:=
 if Ik G x=true/\(Bv G.N x 0)=none/\es.all noStar=true then (match G.gb.lookup x with
  | some (.fn i)=>if es.length<=i.ps.length/\i.ps.length<=es.length+i.dfs.length then dFn (spE i.sp (i.dfs.drop (es.length+i.dfs.length - i.ps.length))) (Cl ds) else dNo
  | some (.exc C oi)=>(match oi with
   | none=>if es.isEmpty=true then dFn (mkX C none 0) (Cl ds) else dFn (fun vs H Q E=>vs.length<=1000/\mkX C none 0 vs H Q E) (Cl ds)
   | some i=>if es.length+1<=i.ps.length/\i.ps.length<=es.length+1+i.dfs.length then (if es.isEmpty=true then dFn (mkX C (some i) (es.length+1+i.dfs.length - i.ps.length)) (Cl ds)
    else dFn (fun vs H Q E=>vs.length<=1000/\mkX C (some i) (es.length+1+i.dfs.length - i.ps.length) vs H Q E) (Cl ds)) else dNo)
  | some (.cls C oi)=>(match oi with
   | none=>if es.isEmpty=true then dFn (mkC C none 0) (Cl ds) else dNo
   | some i=>if es.length+1<=i.ps.length/\i.ps.length<=es.length+1+i.dfs.length then dFn (mkC C (some i) (es.length+1+i.dfs.length - i.ps.length)) (Cl ds) else dNo)
  | some _=>dNo
  | none=>if G.bl.contains x=true then (match a05 G.K G.calm x with
   | some (_,r)=>if es.isEmpty=true then dNo else dFn (fun vs H Q _=>r vs H Q) (Cl ds)
   | none=>dNo) else dNo) else dNo
noncomputable def ai3 (G:Sg) (o:Expr) (m:Str) (es:List Expr) (ap cp:Pos) (d:DE) (ds:List DE):DE:=
 if Bw o=true/\es.all noStar=true/\es.length<30/\(ap.endLine==cp.line)=true then (match B6 G.gb m with
  | none=>dMt (rMt G.K (mtR G.K m)) d (Cl ds)
  | some l=>Bm m es.length l d (Cl ds)) else dNo
noncomputable def aw1 (G:Sg) (o:Expr) (m:Str) (es:List Expr) (ap cp:Pos):Option FI:=match o with
 | .Name c _=>if m = "__init__" /\ Ik G c=true/\Bv G.N c 0=none/\es.isEmpty=false/\Bw o=true/\es.all noStar=true/\es.length<30/\(ap.endLine==cp.line)=true then (match G.gb.lookup c with
  | some (.ini _ i)=>if es.length<=i.ps.length/\i.ps.length<=es.length+i.dfs.length then some i else none
  | _=>none) else none
 | _=>none
noncomputable def cc9 (G:Sg) (tg o:Expr) (m:Str) (ap cp:Pos) (d dv:DE):DI:=match tg with
 | .Tuple _ _ _=>if m = "items" /\ Bw o=true/\(ap.endLine==cp.line)=true then a21 d else Go G.K dv
 | _=>Go G.K dv
noncomputable def Tc (G:Sg) (o:Expr) (m:Str) (es:List Expr) (ap cp:Pos) (d:DE) (ds:List DE):DE:=match aw1 G o m es ap cp with
 | some i=>dFn (spE i.sp (i.dfs.drop (es.length+i.dfs.length - i.ps.length))) (Cl ds)
 | none=>ai3 G o m es ap cp d ds
mutual
noncomputable def wE:Nat->Sg->Expr->DE
 | 0,_,_=>dNo
 | n+1,G,e=>match e with
  | .Constant c _ _=>ai2 c
  | .Name x _=>Vb G x
  | .BinOp a op b _=>Ae (rOp G.K op) (wE n G a) (wE n G b)
  | .UnaryOp .USub a _=>dUn Uu (wE n G a)
  | .UnaryOp .Not a _=>Y3 G.K (wE n G a)
  | .UnaryOp .Invert a _=>dUn ae0 (wE n G a)
  | .BoolOp op es _=>Tl G.K op (es.map (wE n G))
  | .Compare a ops bs _=>Ws G ops bs (wE n G a) (bs.map (wE n G))
  | .IfExp t a b _=>bt4 (wT n G t) (wE n G a) (wE n G b)
  | .List es _=>if es.all noStar=true then Dg (Cl (es.map (wE n G))) else dNo
  | .Tuple es _ _=>if es.all noStar=true then Bq (Cl (es.map (wE n G))) else dNo
  | .Subscript a (.Slice lo hi none _) _=>dSl G.K (wE n G a) (match lo with|none=>Bi|some l=>Ch (wE n G l)) (match hi with|none=>Bi|some h=>Ch (wE n G h))
  | .Subscript a b _=>if F7 b=true then Ae (Am G.K) (wE n G a) (wE n G b) else dNo
  | .Attribute o f _=>if Bw o=true then dUn (Ao G.K f) (wE n G o) else dNo
  | .Call (.Name x _) es [] _=>ai1 G x es (es.map (wE n G))
  | .Dict ks vs _=>if ks.isEmpty=true/\vs.isEmpty=true then Y1 else if (ks.all (·.isSome))=true/\ks.length=vs.length/\ks.length<=15/\ks.isEmpty=false then Y2 (((ks.filterMap id).zip vs).map fun p=>(wE n G p.1,wE n G p.2)) else dNo
  | .Call (.Attribute o m ap) es [] cp=>Tc G o m es ap cp (wE n G o) (es.map (wE n G))
  | .ListComp elt [⟨tg,iter,ifs,0⟩] sc _=>if G.calm=true/\Eb G sc=true/\Ix iter=true then
    Ef (Ey G sc.names) (wI n G tg iter) (wG n (Cc G sc.names) tg) (match ifs with | []=>G9 | [c]=>wT n (Cc G sc.names) c|_=>tNo) (wE n (Cc G sc.names) elt) else dNo
  | _=>dNo
noncomputable def wT:Nat->Sg->Expr->DT
 | 0,_,_=>tNo
 | n+1,G,e=>match e with
  | .UnaryOp .Not a _=>O6 (wT n G a)
  | .BoolOp op es _=>Tk op (es.map (wT n G))
  | .Compare a ops bs _=>A5 (Ws G ops bs (wE n G a) (bs.map (wE n G)))
  | .IfExp _ _ _ _=>tNo
  | e=>Ku G.K (wE n G e)
noncomputable def wI:Nat->Sg->Expr->Expr->DI
 | 0,_,_,_=>iNo
 | n+1,G,tg,e=>match e with
  | .Call (.Name x _) (a::es) [] _=>
   if x = "range" /\ Ik G x=true/\G.gb.lookup x=none/\G.bl.contains x=true/\(a::es).all noStar=true then Vu (Cl ((a::es).map (wE n G)))
   else Go G.K (wE n G e)
  | .Call (.Attribute o m ap) [] [] cp=>cc9 G tg o m ap cp (wE n G o) (wE n G e)
  | e=>Go G.K (wE n G e)
end
theorem at5 {X:Cx} {e:Expr}:QT X e tNo:=fun _ _ _ _ _ _ _ _ h=>h.elim
theorem Bx {X:Cx} {w:Expr->DE} (h:∀ e,QE X e (w e)):∀ {es:List Expr},es.all noStar=true->QA X es (Cl (es.map w))
 | [],_=>ac7
 | e::es,hs=>by
  rw [bj,au] at hs
  exact Um (h e) (Bx h hs.2) hs.1
theorem M7 {X:Cx} {w:Expr->DE} {op:BoolOp} {pos:Pos} (h:∀ e,QE X e (w e)):∀ {es:List Expr},QE X (.BoolOp op es pos) (Tl X.K op (es.map w))
 | []=>Be
 | [e]=>bc4 (h e)
 | e::e'::es=>by
  cases op with
  | And=>exact bb3 (h e) (M7 h)
  | Or=>exact bz2 (h e) (M7 h)
theorem M8 {X:Cx} {w:Expr->DT} {op:BoolOp} {pos:Pos} (h:∀ e,QT X e (w e)):∀ {es:List Expr},QW X (.BoolOp op es pos) (Tk op (es.map w))
 | []=>fun _ _ _ _ _ _ _ _ _ h=>h.elim
 | [e]=>by
  cases op with
  | And=>exact ao3 (h e)
  | Or=>exact be1 (h e)
 | e::e'::es=>by
  cases op with
  | And=>exact be0 (h e) (M8 h)
  | Or=>exact bz5 (h e) (M8 h)
section
variable {X:Cx} {G:Sg}
theorem an4 (O:GOk X G) {w:Expr->DE} (h:∀ e,QE X e (w e)) (a:Expr) (ops:List jk) (bs:List Expr) (pos:Pos):QE X (.Compare a ops bs pos) (Ws G ops bs (w a) (bs.map w)):=by
 unfold Ws
 rw [<- O.K]
 split
 ·rename_i op b d e
  have:d=w b:=by simpa using e.symm
  subst this
  split
  ·exact bb6 O.units op (h a) (h b) ‹_›
  ·exact Be
 ·rename_i op op' b c d d' e
  have:w b=d/\w c=d':=by simpa using e
  obtain⟨rfl,rfl⟩:=this
  split
  ·exact ad0 O.units op op' (h a) (h b) (h c) ‹_›
  ·exact Be
 ·exact Be
theorem ao2 (O:GOk X G) {w:Expr->DE} (h:∀ e,QE X e (w e)) (a:Expr) (ops:List jk) (bs:List Expr) (pos:Pos):QT X (.Compare a ops bs pos) (A5 (Ws G ops bs (w a) (bs.map w))):=by
 unfold Ws
 rw [<- O.K]
 split
 ·rename_i op b d e
  have:d=w b:=by simpa using e.symm
  subst this
  split
  ·exact bd7 O.units op (h a) (h b) ‹_›
  ·exact fun _ _ _ _ _ _ _ _ h=>h.elim
 ·rename_i op op' b c d d' e
  have:w b=d/\w c=d':=by simpa using e
  obtain⟨rfl,rfl⟩:=this
  split
  ·exact ad9 O.units op op' (h a) (h b) (h c) ‹_›
  ·exact fun _ _ _ _ _ _ _ _ h=>h.elim
 ·exact fun _ _ _ _ _ _ _ _ h=>h.elim
theorem ac9 (O:GOk X G) {w:Expr->DE} (h:∀ e,QE X e (w e)) (x:Str) (es:List Expr) (p pos:Pos):QE X (.Call (.Name x p) es [] pos) (ai1 G x es (es.map w)):=by
 unfold ai1
 split
 ·rename_i hh
  obtain⟨hg,_,hs⟩:=hh
  have dd:=Il hg
  split
  ·rename_i i e
   obtain⟨hm,F⟩:=O.at_ x _ e
   split
   ·rename_i hl
    cases es with
    | nil=>exact ac8 F (by have:=hl.1;omega) (O.gl hg) hm dd.1
    | cons e es=>exact an3 F (by have:=hl.1;omega) (O.gl hg) hm (Bx h hs) hs dd.1
   ·exact Be
  ·rename_i C oi e
   obtain⟨hm,kp,c,hi⟩:=O.at_ x _ e
   split
   ·cases es with
    | nil=>exact Uq (j:=0) c hi (fun i z=>nomatch z) kp (O.gl hg) hm dd.1
    | cons e es=>exact Rg (j:=0) c hi (fun i z=>nomatch z) kp (O.gl hg) hm (Bx h hs) hs dd.1
   ·rename_i i
    split
    ·rename_i hl
     cases es with
     | nil=>exact Uq c hi (fun i z=>by cases z;have:=hl.1;omega) kp (O.gl hg) hm dd.1
     | cons e es=>exact Rg c hi (fun i z=>by cases z;have:=hl.1;omega) kp (O.gl hg) hm (Bx h hs) hs dd.1
    ·exact Be
  ·rename_i C oi e
   obtain⟨hm,kp,hi⟩:=O.at_ x _ e
   split
   ·cases es with
    | nil=>exact Up (j:=0) hi (fun i z=>nomatch z) kp (O.gl hg) hm dd.1
    | cons e es=>exact Be
   ·rename_i i
    split
    ·rename_i hl
     cases es with
     | nil=>exact Up hi (fun i z=>by cases z;have:=hl.1;omega) kp (O.gl hg) hm dd.1
     | cons e es=>exact bc0 hi (fun i z=>by cases z;have:=hl.1;omega) kp (O.gl hg) hm (Bx h hs) hs dd.1
    ·exact Be
  ·exact Be
  ·rename_i e
   split
   ·rename_i hb
    split
    ·rename_i f r er
     split
     ·exact Be
     ·rename_i hne
      cases es with
      | nil=>exact absurd rfl hne
      | cons e es=>
       rw [<- O.K] at er
       obtain⟨b1,b2⟩:=aj1 O.units er O.calm
       exact bb5 b2 (O.gl hg) (O.bl x hb) b1 (Bx h hs) hs dd.2.2 dd.1
    ·exact Be
   ·exact Be
 ·exact Be
theorem ad2 (O:GOk X G) {w:Expr->DE} (h:∀ e,QE X e (w e)) (o:Expr) (m:Str) (es:List Expr) (ap cp:Pos):QE X (.Call (.Attribute o m ap) es [] cp) (ai3 G o m es ap cp (w o) (es.map w)):=by
 unfold ai3
 rw [<- O.K]
 split
 ·rename_i hh
  obtain⟨h1,h2,h3,h4⟩:=hh
  split
  ·cases es with
   | nil=>exact bc1 (fun b hb=>Z5 O.units hb) (h o) h1 h4
   | cons e es=>exact bz1 (fun b hb=>Z5 O.units hb) (h o) (Bx h h2) h1 h2 h3 h4
  ·rename_i l e
   cases es with
   | nil=>exact an7 (O.met m l e) (h o) h1 h4
   | cons e es=>exact bc5 (O.met m l ‹_›) (h o) (Bx h h2) h1 h2 h3 h4
 ·exact Be
end
theorem ad1 {X:Cx} {G:Sg} (O:GOk X G) {w:Expr->DE} (h:∀ e,QE X e (w e)) (o:Expr) (m:Str) (es:List Expr) (ap cp:Pos):QE X (.Call (.Attribute o m ap) es [] cp) (Tc G o m es ap cp (w o) (es.map w)):=by
 unfold Tc
 split
 ·rename_i i e
  unfold aw1 at e
  split at e
  ·rename_i c p
   split at e
   ·rename_i hh
    obtain⟨rfl,h1,h2,h3,h4,h5,h6,h7⟩:=hh
    split at e
    ·rename_i C i' eg
     split at e
     ·rename_i hl
      cases e
      obtain⟨g1,g2,g3⟩:=O.at_ c _ eg
      have hn:QE X (.Name c p) (dC (.ref C)):=by
       have q:=Ur O c p
       unfold Vb at q
       rw [h2] at q
       simp only [h1,if_true,eg] at q
       exact q
      cases es with
      | nil=>cases h3
      | cons e es=>exact bb7 hn g2 g3 hl (Bx h h5) h4 h5 h6 h7
     ·cases e
    ·cases e
   ·cases e
  ·cases e
 ·exact ad2 O h o m es ap cp
theorem Ow {α:Type}:∀ {ks:List (Option α)},ks.all (·.isSome)=true->(ks.filterMap id).map some=ks
 | [],_=>rfl
 | none::_,h=>by simp at h
 | some k::ks,h=>by
  rw [bj,au] at h
  show some k::(ks.filterMap id).map some=_
  rw [Ow h.2]
theorem bs0:∀ (n:Nat) (X:Cx) (G:Sg),GOk X G->(∀ e,QE X e (wE n G e))/\(∀ e,QT X e (wT n G e))/\(∀ tg e,QI X tg e (wI n G tg e)):=by
 intro n
 induction n with
 | zero=>
  intro X G O
  refine⟨fun e=>?_,fun e=>?_,fun tg e=>?_⟩
  ·unfold wE;exact Be
  ·unfold wT;exact at5
  ·unfold wI;exact bz3
 | succ n ih=>
  intro X G O
  obtain⟨hE,hT,hI⟩:=ih X G O
  have hv:∀ tg e,QI X tg e (Go G.K (wE n G e)):=fun tg e=>by rw [<- O.K];exact bc8 (hE e)
  refine⟨fun e=>?_,fun e=>?_,fun tg e=>?_⟩
  ·unfold wE
   split
   ·exact Pu _ _ _
   ·exact Ur O _ _
   ·rw [<- O.K];exact bb4 _ (hE _) (hE _)
   ·exact bc2 (hE _)
   ·rw [<- O.K];exact bc3 (hE _)
   ·exact bb8 (hE _)
   ·rw [<- O.K];exact M7 hE
   ·exact an4 O hE _ _ _ _
   ·exact by9 (hT _) (hE _) (hE _)
   ·split
    ·exact bb9 (Bx hE ‹_›)
    ·exact Be
   ·split
    ·exact bc6 (Bx hE ‹_›)
    ·exact Be
   ·rw [<- O.K]
    refine ad3 (hE _) ?_ ?_
    ·split
     ·exact Us
     ·exact Ut (hE _)
    ·split
     ·exact Us
     ·exact Ut (hE _)
   ·split
    ·rw [<- O.K];exact bz0 O.units (hE _) (hE _) ‹_›
    ·exact Be
   ·split
    ·rw [<- O.K];exact an2 (hE _) (C6 ‹_› _ X.env _)
    ·exact Be
   ·exact ac9 O hE _ _ _ _
   ·rename_i ks vs p0
    split
    ·rename_i hh
     have e1:ks=[]:=by simpa using hh.1
     have e2:vs=[]:=by simpa using hh.2
     subst e1 e2
     exact an6
    ·split
     ·rename_i hh
      obtain⟨h1,h2,h3,h4⟩:=hh
      have e:=Ow h1
      have hl:(ks.filterMap id).length=ks.length:=by rw [<- aw (f:=some),e]
      have q:=an5 (X:=X) (pos:=p0) hE (ks:=ks.filterMap id) (vs:=vs) (by rw [hl];exact h2) (fun z=>by rw [z] at e;rw [<- e] at h4;simp at h4) (by rw [hl];exact h3)
      rw [e] at q
      exact q
     ·exact Be
   ·exact ad1 O hE _ _ _ _ _
   ·split
    ·rename_i hh
     obtain⟨h1,h2,h3⟩:=hh
     refine Uo O (O.calm▸h1) h2 h3 (hI _ _) (fun X' O'=>Qc n X' _ O' _) (fun X' O'=>?_) (fun X' O'=>(ih X' _ O').1 _)
     split
     ·exact Pw
     ·exact Px ((ih X' _ O').2.1 _)
     ·exact fun _ _ _ _ _ _ _ _ h=>h.elim
    ·exact Be
   ·exact Be
  ·unfold wT
   split
   ·exact bd8 (hT _)
   ·exact fun Ex m=>PW.pt (M8 hT Ex m)
   ·exact ao2 O hE _ _ _ _
   ·exact at5
   ·rename_i h1 h2 h3 h4
    rw [<- O.K]
    refine bd9 (hE _) ?_
    cases e with
    | UnaryOp op a p=>cases op <;> first|rfl|exact absurd rfl (h1 _ _)
    | BoolOp op es p=>exact absurd rfl (h2 _ _ _)
    | Compare a b c p=>exact absurd rfl (h3 _ _ _ _)
    | IfExp a b c p=>exact absurd rfl (h4 _ _ _ _)
    | _=>rfl
  ·unfold wI
   split
   ·split
    ·rename_i hh
     obtain⟨rfl,h1,_,h2,h3⟩:=hh
     exact ad5 (O.gl h1) (O.bl _ h2) (Bx hE h3) h3
    ·exact hv _ _
   ·unfold cc9
    split
    ·split
     ·rename_i hh
      obtain⟨rfl,h1,h2⟩:=hh
      exact ad4 (hE _) h1 h2
     ·exact hv _ _
    ·exact hv _ _
   ·exact hv _ _
noncomputable def Cx.tr (X:Cx) (pn:List (Addr×Obj)) (xe:Value->ah->Prop):Cx:={ X with pn:=pn,xe:=xe }
noncomputable def Cx.hd (X:Cx) (a:Addr):Cx:={ X with A:=X.A.mark (some (.ref a)),calm:=false,xe:=fun _ _=>False }
section
variable {X:Cx} {pins pins':List (Addr×Obj)} {σ:St} {H:Hp} {s:ah} {a C:Addr} {dx:Option Addr} {xe:Value->ah->Prop}
theorem bv4 {pn:List (Addr×Obj)} (o:X.Ok):(X.tr pn xe).Ok:=⟨o.mod,o.kind,o.glob,o.blt,o.above,o.inj,o.has,o.cab,o.hd,o.frames,o.stk,o.exf,o.bs,o.bsz,o.noex,o.exfs,o.funs,o.frf,o.tk⟩
theorem al3 {pn:List (Addr×Obj)} (o:(X.tr pn xe).Ok):X.Ok:=⟨o.mod,o.kind,o.glob,o.blt,o.above,o.inj,o.has,o.cab,o.hd,o.frames,o.stk,o.exf,o.bs,o.bsz,o.noex,o.exfs,o.funs,o.frf,o.tk⟩
theorem a38 (I:Inv X pins σ H s):Inv (X.tr (X.pn++pins) xe) [] σ H s:=
 ⟨bv4 I.ok,I.os,I.bare,I.base,I.loc,I.cell,I.free,I.freeC,fun p hp=>I.pin p (by rw [eY] at hp;exact hp),I.hok,I.len⟩
theorem Ek (I:Inv (X.tr (X.pn++pins) xe) pins' σ H s):Inv X pins σ H s:=
 ⟨al3 I.ok,I.os,I.bare,I.base,I.loc,I.cell,I.free,I.freeC,fun p hp=>I.pin p (dD _ hp),I.hok,I.len⟩
theorem Zf (F:E8 (X.tr (X.pn++pins) xe) pins' H a s):E8 X pins H a s:=by
 obtain⟨C,dx,vs,h1,h2,h3,h4⟩:=F
 refine⟨C,dx,vs,h1,h2,h3,h4.imp id fun⟨T,oT,ts,q1,q2,q3,q4,q5,q6⟩=>⟨T,oT,ts,q1,q2,q3,q4,q5,?_⟩⟩
 obtain⟨r1,r2,r3,r4,r5,r6⟩:=q6
 exact⟨r1,r2,r3,r4,r5,fun p hp=>r6 p (dD _ hp)⟩
theorem ap2 {D:Kr} {f:Flow} (h:SP (X.tr (X.pn++pins) xe) pins' D f s):SP X pins D f s:=by
 cases f with
 | next=>obtain⟨σ',H',I,q⟩:=h;exact⟨σ',H',Ek I,q⟩
 | brk=>obtain⟨σ',H',I,q⟩:=h;exact⟨σ',H',Ek I,q⟩
 | cont=>obtain⟨σ',H',I,q⟩:=h;exact⟨σ',H',Ek I,q⟩
 | ret u=>obtain⟨v,σ',H',I,r,q⟩:=h;exact⟨v,σ',H',Ek I,r,q⟩
theorem Gr (I:Inv X pins σ H s):Inv (X.hd a) pins σ H s:=
 ⟨⟨I.ok.mod,I.ok.kind,I.ok.glob,I.ok.blt,I.ok.above,I.ok.inj,I.ok.has,I.ok.cab,(fun z=>by cases z),I.ok.frames,I.ok.stk,I.ok.exf,I.ok.bs,I.ok.bsz,I.ok.noex,I.ok.exfs,I.ok.funs,I.ok.frf,I.ok.tk⟩,I.os,I.bare,I.base,I.loc,I.cell,I.free,I.freeC,I.pin,I.hok,I.len⟩
theorem Dj (o:X.Ok) (I:Inv (X.hd a) pins σ H s):Inv X pins σ H s:=⟨o,I.os,I.bare,I.base,I.loc,I.cell,I.free,I.freeC,I.pin,I.hok,I.len⟩
theorem U2 {D:Kr} {f:Flow} (o:X.Ok) (h:SP (X.hd a) pins D f s):SP X pins D f s:=by
 cases f with
 | next=>obtain⟨σ',H',I,q⟩:=h;exact⟨σ',H',Dj o I,q⟩
 | brk=>obtain⟨σ',H',I,q⟩:=h;exact⟨σ',H',Dj o I,q⟩
 | cont=>obtain⟨σ',H',I,q⟩:=h;exact⟨σ',H',Dj o I,q⟩
 | ret u=>obtain⟨v,σ',H',I,r,q⟩:=h;exact⟨v,σ',H',Dj o I,r,q⟩
end
inductive HK where
 | no
 | as (i:Nat)
 | up (T:Addr)
noncomputable def asD (a:Addr) (u:DS):HK->DS
 | .no=>fun D σ H=>u { D with ex:=fun _ _ _=>False } σ H
 | .up T=>fun D σ H=>(∃ C dx,H a=some (flO a C dx)) /\ ∀ b,H b=none->D.ex σ b (upd H b (fcO b T none))
 | .as i=>fun D σ H=>u ⟨fun σ' H'=>D.nx (σ'.set i none) H',D.rt,fun σ' H'=>D.bk (σ'.set i none) H',fun σ' H'=>D.ct (σ'.set i none) H',fun _ _ _=>False⟩ (σ.set i (some (.ref a))) H
noncomputable def Md (K:aa) (C a:Addr):List (Addr×HK×DS)->Hs->St->Hp->Prop
 | [],_,_,_=>False
 | (T,oi,u)::r,D,σ,H=>∃ b,aV K C (.ref T)=some b/\(if b=true then asD a u oi D σ H else Md K C a r D σ H)
noncomputable def a09 (K:aa) (tb:DS) (us:List (Addr×HK×DS)):DS:=fun D σ H=>tb { D with ex:=fun σ' a H'=>∃ C dx,FlO H' a C dx/\ECls K C/\Md K C a us D σ' H' } σ H
inductive Wt (X:Cx):Option Str->HK->Prop where
 | no:Wt X none .no
 | as {n:Str} {i:Nat} (hN:X.N.Nodup) (hi:X.N[i]? = some n) (hl:X.env.scope.names.lookup n=some .local):Wt X (some n) (.as i)
inductive Nn (X:Cx):List ExceptHandler->List (Addr×HK×DS)->Prop where
 | nil:Nn X [] []
 | cons {x:Str} {p pos:Pos} {nm:Option Str} {oi:HK} {b:Stmt} {suite:List Stmt} {rest:List ExceptHandler} {T:Addr} {u:DS} {us:List (Addr×HK×DS)} (hg:Gl X x) (hm:X.mg x=some (.ref T)) (hd:(x==("__debug__" : Str))=false) (ec:ECls X.K T) (ha:Wt X nm oi) (hs:∀ a,QSs (X.hd a) (b::suite) u) (r:Nn X rest us) :
   Nn X (.ExceptHandler (some (.Name x p)) nm (b::suite) pos::rest) ((T,oi,u)::us)
 | up {x y z:Str} {p p1 p2 p3 p4 p5 pos:Pos} {k k2:Nat} {rest:List ExceptHandler} {T T':Addr} {u:DS} {us:List (Addr×HK×DS)} (hg:Gl X x) (hm:X.mg x=some (.ref T)) (hd:(x==("__debug__" : Str))=false) (ec:ECls X.K T)
   (hgy:Gl X y) (hmy:X.mg y=some (.ref T')) (hdy:(y==("__debug__" : Str))=false) (ecy:ECls X.K T') (kpy:ak X.K (.ref T')=true) (iny:Fd X T' none) (r:Nn X rest us) :
   Nn X (.ExceptHandler (some (.Name x p)) none [.Raise (some (.Call (.Name y p1) [.Constant (.str z) k p2] [] p3)) (some (.Constant .none k2 p4)) p5] pos::rest) ((T,.up T',u)::us)
theorem Kv:entryFor table "proto.unchain" = some bi.«proto.unchain»:=entryFor_of_fast (by kernel_rfl)
theorem P3 {prog:aE} {w:bq} {A:aT} {E:Value->ah->Prop} {s:ah} {Q:Flow->ah->Prop} {e a:Addr} {oa oe:Obj} {va ve:Array Value} (hh:A.handled=some (.ref a)) (ne:a≠e) (ha:s.heap.get? a=some oa) (hda:oa.data=.fields va) (h2:va[2]? = some .none)
  (he:s.heap.get? e=some oe) (hde:oe.data=.fields ve) (hz:2<ve.size) (h:E (.ref e) { s with heap:=s.heap.update e (bu (·.setIfInBounds 2 (.ref a))) }):aI (model prog w) A (raiseNew (.ref e):Sem Flow) Q E s:=by
 unfold raiseNew
 refine ag (wpAny_handled ?_)
 rw [hh]
 have hne:(aC a != aC e)=true:=by simpa using ne
 simp only [hne,if_true]
 refine ag (bv (wpAny_runValue (g8 Kv ?_)))
 unfold bi.«proto.unchain»
 refine ag (cb ha hda h2 ?_)
 rw [if_pos (by rfl)]
 refine am ?_
 show aI (model prog w) A (setField (.ref e) 2 (.ref a) >>= fun _=>throw (.ref e)) Q E s
 refine ag (fO he hde hz ?_)
 exact wpAny_throw h
section
variable {X:Cx} {pins:List (Addr×Obj)}
theorem ae6 {σ:St} {H:Hp} {s1:ah} {a C1 T':Addr} {dx1:Option Addr} {y z:Str} {p1 p2 p3 p4 p5:Pos} {k k2:Nat} {Qf:Flow->ah->Prop} {Ee:Value->ah->Prop} (I1:Inv X pins σ H s1) (ea:H a=some (flO a C1 dx1))
  (hgy:Gl X y) (hmy:X.mg y=some (.ref T')) (hdy:(y==("__debug__" : Str))=false) (ecy:ECls X.K T') (kpy:ak X.K (.ref T')=true) (iny:Fd X T' none)
  (hE:∀ b s',H b=none->Inv X pins σ (upd H b (fcO b T' none)) s'->E8 X pins (upd H b (fcO b T' none)) b s'->Ee (.ref b) s') :
  aI (model X.prog X.w) (X.A.mark (some (.ref a))) (exec (.Raise (some (.Call (.Name y p1) [.Constant (.str z) k p2] [] p3)) (some (.Constant .none k2 p4)) p5) X.env) Qf Ee s1:=by
 have he:QE (X.hd a) (.Call (.Name y p1) [.Constant (.str z) k p2] [] p3) _:=Rg (X:=X.hd a) (oi:=none) (j:=0) (r:=Ab (dC (.str z)) Ag) ecy iny (fun i h=>by cases h) kpy hgy hmy (Um (Pu (.str z) k p2) ac7 rfl) rfl hdy
 rw [arm_exec_Raise]
 show aI _ _ (do iW p5;je X.env (some (do let v <- eval (.Call (.Name y p1) [.Constant (.str z) k p2] [] p3) X.env;iW p5;pure v)) (some (do let v <- eval (.Constant .none k2 p4) X.env;iW p5;pure v))) _ _ _
 refine ag (cZ ?_)
 unfold je
 refine ag (ag (bP (he _ Eo pins s1 σ H (fun x H1=>∃ b,x=.ref b/\H b=none/\H1=upd H b (D6 b T' none)) (Gr I1) ⟨by simp,fun b hb=>⟨b,rfl,hb,rfl⟩⟩) (fun v s2 ⟨x,H1,I2,r1,b,e1,hb,e2⟩=>ag (cZ (am ?_))) fun _ _ z=>z.elim))
 subst e1 e2
 cases r1
 have I2:=Dj I1.ok I2
 obtain⟨vs,g1,g2,g3,g4⟩:=Ic I2 Ad
 obtain⟨nm,qn,N,bs,bm,hdct,sn,sub,ab,col,dd,k0,k1,k2',k3,k5,hl,ht,hd⟩:=ecy.obj
 have hC:=I2.kIn _ _ hl
 have hb0:bm.contains (.type "BaseException")=true:=Bh ht (by decide +kernel)
 have hcB:(aC T'::bm).contains (.type "BaseException")=true:=by rw [a_,hb0,dQ]
 have nab:a≠b:=fun z=>by rw [z,hb] at ea;cases ea
 obtain⟨va,ga1,ga2,ga3⟩:=Ze I2 (a:=a) (C:=C1) (dx:=dx1) (by rw [Ak nab];exact ea)
 obtain⟨hp,g,d,tk,os⟩:=s2
 repeat (first|with_reducible refine cb g1 rfl g3 ?_|with_reducible refine aP g1 ?_|with_reducible refine aP hC ?_|(with_reducible refine bL hC ?_;rw [hcB])|wp_step)
 have nTb:T'≠b:=fun z=>by
  rw [z] at hC
  rw [hC] at g1
  have:=congrArg (fun o=>o.map Obj.data) g1
  simp [cY] at this
 have q3:(hp.update b (bu fun x=>x.setIfInBounds 3 bh)).get? b=some (Aq T' none (vs.setIfInBounds 3 .none)):=bH _ g1 (cE (vs:=vs.setIfInBounds 3 .none) rfl)
 have q4:((hp.update b (bu fun x=>x.setIfInBounds 3 bh)).update b (bu fun x=>x.setIfInBounds 4 (eW true))).get? b=some (Aq T' none ((vs.setIfInBounds 3 .none).setIfInBounds 4 (.bool true))):=bH _ q3 (cE (vs:=(vs.setIfInBounds 3 .none).setIfInBounds 4 (.bool true)) rfl)
 have keep:∀ c u,c≠b->hp.get? c=some u->((hp.update b (bu fun x=>x.setIfInBounds 3 bh)).update b (bu fun x=>x.setIfInBounds 4 (eW true))).get? c=some u:=fun c u ne e=>(aQ _ _ ne.symm).trans ((aQ _ _ ne.symm).trans e)
 have hC2:=keep _ _ nTb hC
 have ga':=keep _ _ nab ga1
 have w1:((vs.setIfInBounds 3 .none).setIfInBounds 4 (.bool true))[1]? = some bh:=by rw [b9 (by decide),b9 (by decide)];exact g3
 have wz:((vs.setIfInBounds 3 .none).setIfInBounds 4 (.bool true)).size=6:=by rw [cM,cM];exact g2
 generalize ((vs.setIfInBounds 3 .none).setIfInBounds 4 (.bool true))=v2 at q4 w1 wz
 generalize (hp.update b (bu fun x=>x.setIfInBounds 3 bh)).update b (bu fun x=>x.setIfInBounds 4 (eW true))=hp2 at q4 keep hC2 ga' ⊢
 repeat (first|with_reducible refine cb q4 rfl w1 ?_|with_reducible refine aP q4 ?_|with_reducible refine aP hC2 ?_|wp_step)
 have q5:(hp2.update b (bu fun x=>x.setIfInBounds 2 (.ref a))).get? b=some (Aq T' none (v2.setIfInBounds 2 (.ref a))):=bH _ q4 (cE (vs:=v2.setIfInBounds 2 (.ref a)) rfl)
 have wz5:(v2.setIfInBounds 2 (.ref a)).size=6:=by rw [cM];exact wz
 have w5:(v2.setIfInBounds 2 (.ref a))[1]? = some bh:=by rw [b9 (by decide)];exact w1
 refine P3 rfl nab ga' rfl ga3 q4 rfl (by rw [wz];decide) ?_
 have I3:Inv X pins σ (upd H b (fcO b T' none)) { heap:=hp2.update b (bu fun x=>x.setIfInBounds 2 (.ref a)),gens:=g,drawn:=d,toks:=tk,os:=os }:=by
  have:=I2.write (x:=b) (e:=b) (h':=hp2.update b (bu fun x=>x.setIfInBounds 2 (.ref a))) (t':=tk) (o:=fcO b T' none) (by rw [Ad];exact aX) (.inl rfl) (fun c u ne z=>(aQ _ _ ne.symm).trans (keep c u ne z)) ⟨_,q5⟩ (Zc q5 wz5)
  rw [Nl] at this
  exact this
 exact hE b _ hb I3 ⟨T',none,_,.inr Ad,q5,wz5,.inl w5⟩
theorem E1 {M:Model} {A:aT} {E:Value->ah->Prop} {σ:St} {H:Hp} {s:ah} {i:Nat} {x:Str} {pos:Pos} {Q:Unit->ah->Prop} (I:Inv X pins σ H s) (hN:X.N.Nodup) (hi:X.N[i]? = some x) (hk:X.env.scope.names.lookup x=some .local)
  (h:∀ s',Inv X pins (σ.set i none) H s'->Q () s'):aI M A (do bindName X.env x .none;unbindBehindTheSuite X.env x pos) Q E s:=by
 obtain⟨m,hn,hl⟩:=id I.loc
 refine wpAny_nameGoes_keeps hk hn (by rw [I.ok.kind];rfl) fun h' v hn' sb=>h _ ?_
 have old:∀ {b o},X.s₀.heap.get? b=some o->h'.get? b=s.heap.get? b:=fun {b o} e=>sb.2 b (aL (av (aA e) I.ok.above))
 exact {
  ok:=I.ok
  os:=⟨I.os.1,Nat.le_succ_of_le I.os.2⟩
  bare:=I.bare
  base:={ I.base with
   keep:=fun b o e n hb hx=>by show h'.get? b=_;rw [old e];exact I.base.keep b o e n hb hx
   slot:=fun b o e n hb hx=>by show ∃ sl,h'.get? b=_;rw [old e];exact I.base.slot b o e n hb hx
   there:=fun b o e hx=>by show ∃ o',h'.get? b=_;rw [old e];exact I.base.there b o e hx }
  loc:=⟨_,hn',fun j y w e1 e2 e3=>by
   have hj:j≠i:=fun z=>by
    have lt:i<σ.length:=by rw [I.len];exact (List.getElem?_eq_some_iff.mp hi).1
    rw [z,eF lt] at e2
    cases e2
   rw [eT (cK hj)] at e2
   obtain⟨u,r,q⟩:=hl j y w e1 e2 e3
   have ny:y≠x:=fun z=>hj (Iz hN e1 (z▸hi))
   refine⟨u,r,q.imp (fun⟨k,e⟩=>⟨k,(if_neg ny).trans e⟩) fun⟨k,c,e,z⟩=>⟨k,c,e,z.sameBut sb (I.cne y c e)⟩⟩⟩
  cell:=fun y c e=>let ⟨w,z⟩:=I.cell y c e;⟨w,z.sameBut sb (I.cne y c e)⟩
  free:=I.free
  freeC:=I.freeC
  pin:=fun p hp=>let ⟨e,n,ne,nf,d⟩:=I.pin p hp;⟨(sb.2 p.1 ne).trans e,n,ne,nf,d⟩
  hok:=fun b ob e=>(I.hok b ob e).stay (fun c w hc q=>(sb.2 c (by
   rintro rfl
   have f:=I.free
   rcases hc with rfl|hc
   ·rw [f] at e;cases e
   ·rw [f] at hc;cases hc)).trans q) (fun _ q=>q) fun _ _ q=>q
  len:=by rw [cQ];exact I.len }
theorem Vs (hst:X.stack=X.env::X.outer) (hfr:X.env.frame=some X.env.locals) {Ex:St->EK} (mt:Meets X Ex) {D:Kr} {hl:List ExceptHandler} {us:List (Addr×HK×DS)} (K:Nn X hl us):∀ {σ:St} {H:Hp} {s:ah} {a C:Addr} {dx:Option Addr},Inv X pins σ H s->E8 X pins H a s->FlO H a C dx->ECls X.K C->Md X.K C a us (al8 Ex D) σ H ->
  aI (model X.prog X.w) X.A (handleBy (.ref a) X.env hl) (SP X pins D) X.xe s:=by
 induction K with
 | nil=>intro σ H s a C dx I F e ec h;exact h.elim
 | @cons x p pos nm oi b suite rest T u us hg hm hd ecT ha hs r ih=>
  intro σ H s a C dx I F e ec h
  obtain⟨m,hm2,h⟩:=h
  have hx:∃ vs:Array Value,s.heap.get? a=some (Aq C dx vs):=by
   obtain⟨vs,z,_⟩:=Ts I (.inr e)
   exact⟨vs,z⟩
  obtain⟨vs,hx⟩:=hx
  refine ir (g9 (Co (X:=X.hd a) (Gr I) hg hm ?_ hd)) (by intro q;cases q)
  refine Iu (A:=(X.hd a).A) I.kIn ec ecT hx hm2 ?_
  cases m with
  | false=>exact ih I F e ec h
  | true=>
   cases ha with
   | no=>
    refine gK (Gn (A:=(X.hd a).A) I F fun s1 I1 F1=>?_)
    exact bP (hs a (fun _ _ _=>False) Eo pins s1 σ H D (Gr I1) h) (fun f s2 q=>U2 I.ok q) fun _ _ z=>z.elim
   | @as n i hN hi hlo=>
    refine codeAny_handlers_suite_as (Gn (A:=(X.hd a).A) I F fun s1 I1 F1=>?_)
    refine Gd (i:=i) (v:=.ref a) I1 hN hi (.inl hlo) rfl (fun s2 I2=>?_) (.inr hlo)
    refine bP (hs a (fun _ _ _=>False) Eo pins s2 (σ.set i (some (.ref a))) H ⟨fun σ' H'=>D.nx (σ'.set i none) H',D.rt,fun σ' H'=>D.bk (σ'.set i none) H',fun σ' H'=>D.ct (σ'.set i none) H'⟩ (Gr I2) h) (fun f s3 q=>?_) fun _ _ z=>z.elim
    have q:=U2 I.ok q
    cases f with
    | next=>obtain⟨σ',H',I',q⟩:=q;exact E1 I' hN hi hlo fun s4 I4=>⟨_,H',I4,q⟩
    | brk=>obtain⟨σ',H',I',q⟩:=q;exact E1 I' hN hi hlo fun s4 I4=>⟨_,H',I4,q⟩
    | cont=>obtain⟨σ',H',I',q⟩:=q;exact E1 I' hN hi hlo fun s4 I4=>⟨_,H',I4,q⟩
    | ret w=>obtain⟨v,σ',H',I',r,q⟩:=q;exact E1 I' hN hi hlo fun s4 I4=>⟨v,_,H',I4,r,q⟩
 | @up x y z p p1 p2 p3 p4 p5 pos k k2 rest T T' u us hg hm hd ecT hgy hmy hdy ecy kpy iny r ih=>
  intro σ H s a C dx I F e ec h
  obtain⟨m,hm2,h⟩:=h
  obtain⟨vs,hx,_⟩:=Ts I (.inr e)
  refine ir (g9 (Co (X:=X.hd a) (Gr I) hg hm ?_ hd)) (by intro q;cases q)
  refine Iu (A:=(X.hd a).A) I.kIn ec ecT hx hm2 ?_
  cases m with
  | false=>exact ih I F e ec h
  | true=>
   refine gK (Gn (A:=(X.hd a).A) I F fun s1 I1 F1=>?_)
   obtain⟨⟨C1,dx1,ea⟩,hE⟩:=h
   refine wpAny_execs_cons (ae6 I1 ea hgy hmy hdy ecy kpy iny fun b s2 hb I2 F2=>?_)
   refine aa5 (X:=X.hd a) (Gr I2) hst hfr hfr F2 fun s3 z I3 F3=>?_
   have I3:=Dj I.ok I3
   have F3:FlyT X pins (upd H b (fcO b T' none)) b s3 z:=F3
   obtain⟨Cb,dxb,vb,Tb,oT,ts,h1,h2,h3,q1,q2,q3,q4,q5,q6⟩:=id F3
   refine ag (cb h2 rfl q1 ?_)
   rw [if_neg (by simp)]
   refine Uz I3 F3 fun s4 I4 F4=>?_
   exact mt pins σ _ s4 b I4 F4.at (hE b hb)
theorem bd6 {Y:Cx} {body:List Stmt} {h0:ExceptHandler} {hs:List ExceptHandler} {pos:Pos} {tb:DS} {us:List (Addr×HK×DS)} (hst:Y.stack=Y.env::Y.outer) (hfr:Y.env.frame=some Y.env.locals)
  (hb:∀ pn xe,e8 (model Y.prog Y.w) Y.A Y.env xe->QSs (Y.tr pn xe) body tb) (hh:Nn Y (h0::hs) us):QS Y (.Try body (h0::hs) [] [] pos) (a09 Y.K tb us):=by
 intro Ex m pins s σ H D I hw
 refine wpAny_Try_except ?_
 refine bP (hb (Y.pn++pins) (fun e s1=>aI (model Y.prog Y.w) Y.A (iI e Y.env) (fun _ s2=>aI (model Y.prog Y.w) Y.A (hG e none) (fun _ s3=>aI (model Y.prog Y.w) Y.A (handleBy e Y.env (h0::hs)) (SP Y pins D) Y.xe s3) Y.xe s2) Y.xe s1) PassesOwn.looking
  (fun σ' a H'=>∃ C dx,FlO H' a C dx/\ECls Y.K C/\Md Y.K C a us (al8 Ex D) σ' H') ?_ [] s σ H D (a38 I) hw) (fun f s1 q=>?_) fun _ _ z=>z
 ·intro pins' σ' H' s' a I' F' ⟨C,dx,e,ec,h⟩
  exact Ui (Ek I') hst hfr (Zf F') fun s2 I2 F2=>Vs hst hfr m hh I2 F2.at e ec h
 ·have q:=ap2 q
  cases f with
  | next=>exact hJ q
  | _=>exact q
end
noncomputable def Gu:Expr->Bool
 | .ListComp _ _ _ _=>false
 | .SetComp _ _ _ _=>false
 | .DictComp _ _ _ _ _=>false
 | _=>true
theorem Gv {e:Expr} (h:Gu e=true) (t:Option Expr) (l:Nat) (env:Env):fX e t l env=pure false:=by
 cases e with
 | ListComp _ _ _ _=>cases h
 | SetComp _ _ _ _=>cases h
 | DictComp _ _ _ _ _=>cases h
 | _=>rfl
section
variable {X:Cx} {G:Sg} {st:Stmt} {rest:List Stmt} {t u:DS} {e:Expr} {de:DE} {pos p':Pos}
theorem Bk:QS X st B4:=fun _ _ _ _ _ _ _ _ h=>h.elim
theorem ao1:QSs X [] Af:=fun _ _=>an0
theorem ad8 (h1:QS X st t) (h2:QSs X rest u):QSs X (st::rest) (Ah t u):=fun Ex m=>ac6 (h1 Ex m) (h2 Ex m)
theorem an9:QS X (.Pass pos) Af:=fun _ _=>am8
theorem bd0:QS X (.Break pos) bt2:=fun _ _=>ac4
theorem bd1:QS X (.Continue pos) bt3:=fun _ _=>Pt
theorem bd4 (h:QE X e de):QS X (.Return (some e) pos) (As de):=fun Ex m=>ba7 (h Ex m)
theorem ao0:QS X (.Return none pos) aq2:=fun _ _=>am9
theorem an8 (h:QE X e de) (hn:Gu e=true):QS X (.Expr e pos) (A9 de):=fun Ex m=>am7 (h Ex m) (Gv hn _ _ _)
theorem bz4 {c:Expr} {a b:List Stmt} {tc:DT} (hc:QT X c tc) (ha:QSs X a t) (hb:QSs X b u):QS X (.If c a b pos) (dIf tc t u):=fun Ex m=>by7 (hc Ex m) (ha Ex m) (hb Ex m)
theorem ad7 {i:Nat} {x:Str} (O:GOk X G) (hi:Bv G.N x 0=some i) (hx:Q8 G x=true) (h:QE X e de) (hn:fX e (some (.Name x p')) pos.line X.env=pure false):QS X (.Assign [.Name x p'] e pos) (A2 i de):=by
 obtain⟨h1,h2⟩:=M4 O hx
 exact fun Ex m=>ba8 (by rw [O.N];exact O.nd) (by rw [O.N];exact Dq hi) h1 (h Ex m) hn h2
variable {tg iter elt:Expr} {ifs:List Expr} {sc:Scope} {wi:DI} {g:DG} {tc:DT}
theorem Rh {i:Nat} {x:Str} {cp:Pos} (O:GOk X G) (hi:Bv G.N x 0=some i) (hx:Q8 G x=true) (hc:X.calm=true) (hk:Eb G sc=true) (hs:Ix iter=true) (hq:QI X tg iter wi) (hg:∀ X',GOk X' (Cc G sc.names)->PG X' tg g)
  (ht:∀ X',GOk X' (Cc G sc.names)->ai8 X' ifs tc) (he:∀ X',GOk X' (Cc G sc.names)->QE X' elt de) :
  QS X (.Assign [.Name x p'] (.ListComp elt [⟨tg,iter,ifs,0⟩] sc cp) pos) (A2 i (Ef (Ey G sc.names) wi g tc de)):=by
 obtain⟨h1,h2⟩:=M4 O hx
 have sw:fX (.ListComp elt [⟨tg,iter,ifs,0⟩] sc cp) (some (.Name x p')) pos.line X.env=pure (X.env.blockKind==.function&&X.env.kindOf x==some .local&&p'.line==(Expr.ListComp elt [⟨tg,iter,ifs,0⟩] sc cp).pos.line
   && !(sc.names.any fun (n,k)=>n==x&&(k==.local||k==.cell))):=rfl
 cases hb:(X.env.blockKind==.function&&X.env.kindOf x==some .local&&p'.line==(Expr.ListComp elt [⟨tg,iter,ifs,0⟩] sc cp).pos.line
   && !(sc.names.any fun (n,k)=>n==x&&(k==.local||k==.cell))) with
 | false=>
  rw [hb] at sw
  exact ad7 O hi hx (Uo O hc hk hs hq hg ht he) sw
 | true=>
  rw [hb] at sw
  simp only [au] at hb
  have hl:X.env.scope.names.lookup x=some .local:=bG hb.1.1.2
  intro Ex m pins s σ H D I h
  exact Yw hc (by rw [O.N];exact O.nd) (by rw [O.N];exact Dq hi) hl (Mf O hk) (hq Ex m) (fun us Q2 fp C D s2 H2 I2 f2 hC=>
   have M:=Iv (N':=(Cc G sc.names).N) (cl:=Ca X.env.cells sc.names []) (us:=us) (Q2:=Q2) (D:=D) m O.fr I2 f2 hC
   have K:=Tn O hk fp C s2 H2 (Bc X sc (Ca X.env.cells sc.names []) us Q2 D C)
   ⟨hg _ K,ht _ K _ M,he _ K _ M⟩) I h sw (fun x=>Iy hs X.env x)
theorem bd3 {body:List Stmt} (O:GOk X G) (ht:G.top=true) (hc:X.calm=true) (hi:QI X tg iter wi) (hg:PG X tg g) (hb:QSs X body t) (hs:Ix iter=true):QS X (.For tg iter body [] pos) (Qk wi g t):=by
 intro Ex m pins s σ H D I h
 refine bP (ba6 (O.own ht) hc (hi Ex m) hg (hb Ex m) (fun x=>Iy hs X.env x) pins s σ H { D with nx:=fun σ' H'=>Thaw H H' (D.nx σ') } I h) (fun f s' q=>?_) fun _ _ z=>z
 cases f with
 | next=>
  obtain⟨σ',H',I',q⟩:=q
  obtain⟨H2,I2,q2⟩:=Thaw.inv I I' q
  exact⟨σ',H2,I2,q2⟩
 | _=>exact q
noncomputable def Cd (K:aa) (e:DE):DS:=fun D σ H=>e σ H (Rj K (D.ex σ)) (D.ex σ)
theorem ad6 (O:GOk X G) (hc:X.A.handled=none) (h:QE X e de):QS X (.Raise (some e) none pos) (Cd X.K de):=fun Ex m=>ac5 m hc (h Ex m)
noncomputable def aa2:Expr->Bool
 | .Tuple _ _ _=>false
 | _=>true
theorem aa3 {e:Expr} (h:aa2 e=true) (tg:Expr) (env:Env):swappedStores [tg] e env=pure none:=by
 cases e with
 | Tuple _ _ _=>cases h
 | _=>cases tg <;> rfl
theorem bc9 {ts:List Expr} {kt:Nat} {pt:Pos} {g:DG} (h:QE X e de) (hg:PG X (.Tuple ts kt pt) g) (hn:Gu e=true) (ht:aa2 e=true):QS X (.Assign [.Tuple ts kt pt] e pos) (G8 de g):=
 fun Ex m=>ac3 (h Ex m) hg (show iM [.Tuple ts kt pt] e pos.line X.env=pure false from Gv hn (some (.Tuple ts kt pt)) pos.line X.env) (aa3 ht _ _)
noncomputable def Fw (K:aa) (o i:DE):DG:=fun v σ H Q=>o σ H (fun x H1=>i σ H1 (fun y H2=>at9 x y v H2 (Q σ)) fun _ _=>False) fun _ _=>False
theorem bd5 {o i:Expr} {do' di:DE} (hu:X.A.units+64<cLine) (ho:QE X o do') (hi:QE X i di) (h:QE X e de) (hsl:F7 i=true):QS X (.Assign [.Subscript o i p'] e pos) (G8 de (Fw X.K do' di)):=by
 intro Ex m
 have hg:PG X (.Subscript o i p') (Fw X.K do' di):=ba4 (ho _ Eo) (hi _ Eo) (b55 hu) (by
  intro v
  cases i with
  | Slice _ _ _ _=>cases hsl
  | _=>rfl)
 exact ac3 (h Ex m) hg (show iM [.Subscript o i p'] e pos.line X.env=pure false from by show fX e (some (.Subscript o i p')) pos.line X.env=pure false;cases e <;> rfl) (by cases e <;> rfl)
noncomputable def E7 (K:aa) (f:Str) (o e:DE):DS:=fun D σ H=>e σ H (fun y H1=>o σ H1 (fun x H2=>at8 K f x y H2 (D.nx σ)) (D.ex σ)) (D.ex σ)
theorem bd2 {o:Expr} {f:Str} {do':DE} (ho:QE X o do') (h:QE X e de):QS X (.Assign [.Attribute o f p'] e pos) (E7 X.K f do' de):=by
 intro Ex m pins s σ H D I hw
 refine plainObj_wpAny_Assign_Attribute (thn (h Ex m pins s σ H _ I hw) fun u s1 ⟨y,H1,I1,ry,q⟩=>thn (ho Ex m pins s1 σ H1 _ I1 q) fun ov s2 ⟨x,H2,I2,rx,q2⟩=>?_) (by cases e <;> rfl)
 exact b54 I2 rx ry q2 fun H' s' I' hN=>⟨σ,H',I',hN⟩
end
noncomputable def ca2:GB->GB
 | .val v u=>.val v u
 | .exc C _=>.val (.ref C) (.ref C)
 | .cls C _=>.val (.ref C) (.ref C)
 | .ini C _=>.val (.ref C) (.ref C)
 | _=>.met "" []
noncomputable def bn9 (gb:List (Str×GB)):List (Str×GB):=gb.map fun p=>(p.1,ca2 p.2)
noncomputable def hdG (G:Sg):Sg:={ G with gb:=bn9 G.gb,calm:=false }
noncomputable def Pe (gb:List (Str×GB)) (x:Str):Option Addr:=match gb.lookup x with
 | some (.exc T _)=>some T
 | _=>none
noncomputable def okH (G:Sg):ExceptHandler->Bool
 | .ExceptHandler (some (.Name x _)) nm (_::_) _=>Ik G x&&(Pe G.gb x).isSome&&(match nm with
  | none=>true
  | some n=>(Bv G.N n 0).isSome&&(G.sc.lookup n==some .local))
 | _=>false
noncomputable def bv0 (G:Sg):ExceptHandler->Option Nat
 | .ExceptHandler _ (some n) _ _=>Bv G.N n 0
 | _=>none
noncomputable def aq4 (G:Sg) (y:Str):Option Addr:=match G.gb.lookup y with
 | some (.exc T none)=>if Ik G y=true then some T else none
 | _=>none
noncomputable def aa4:Expr->Bool
 | .Constant .none _ _=>true
 | _=>false
noncomputable def bn0:Expr->Bool
 | .Constant (.str _) _ _=>true
 | _=>false
theorem Q7 {e:Expr} (h:aa4 e=true):∃ k p,e=.Constant .none k p:=by
 unfold aa4 at h
 split at h
 ·exact⟨_,_,rfl⟩
 ·cases h
theorem Wn {e:Expr} (h:bn0 e=true):∃ z k p,e=.Constant (.str z) k p:=by
 unfold bn0 at h
 split at h
 ·exact⟨_,_,_,rfl⟩
 ·cases h
noncomputable def aq1 (G:Sg):Expr->Option Addr
 | .Call (.Name y _) [a] [] _=>if bn0 a=true then aq4 G y else none
 | _=>none
noncomputable def bn8 (G:Sg):ExceptHandler->Option Addr
 | .ExceptHandler _ none [.Raise (some e) (some c) _] _=>if aa4 c=true then aq1 G e else none
 | _=>none
noncomputable def Lp (G:Sg) (h:ExceptHandler):HK:=match bn8 G h with
 | some T=>.up T
 | none=>match bv0 G h with
  | some i=>.as i
  | none=>.no
noncomputable def a06 (G:Sg):ExceptHandler->Addr
 | .ExceptHandler (some (.Name x _)) _ _ _=>(Pe G.gb x).getD 0
 | _=>0
noncomputable def aq0:ExceptHandler->List Stmt
 | .ExceptHandler _ _ b _=>b
theorem a20 {X:Cx} {G:Sg} (O:GOk X G) (a:Addr):GOk (X.hd a) (hdG G) where
 K:=O.K
 kind:=O.kind
 own:=fun _=>PassesOwn.never
 N:=O.N
 nd:=O.nd
 sc:=O.sc
 vis:=O.vis
 top:=O.top
 calm:=rfl
 hd:=fun z=>by cases z
 units:=O.units
 cel:=O.cel
 gb:=fun x g e=>by
  obtain⟨⟨y,g'⟩,hg,z⟩:=List.mem_map.mp (show (x,g)∈G.gb.map fun p=>(p.1,ca2 p.2) from e)
  cases z
  have h:=O.gb _ g' hg
  cases g' with
  | val v u=>exact h
  | exc C i=>exact⟨h.1,rfl⟩
  | cls C i=>exact⟨h.1,rfl⟩
  | ini C i=>exact⟨h.1,rfl⟩
  | fn i=>exact fun mi hm=>by cases hm
  | met m l=>exact fun mi hm=>by cases hm
 bl:=O.bl
 frm:=O.frm
 fr:=O.fr
theorem ca1 {X:Cx} {pn:List (Addr×Obj)} {xe:Value->ah->Prop} {i:FI} (F:E6 X i):E6 (X.tr pn xe) i:=⟨F.kp,F.ok,F.room,F.binds,F.vals⟩
theorem bn5 {X:Cx} {G:Sg} (O:GOk X G) {pn:List (Addr×Obj)} {xe:Value->ah->Prop} (ho:e8 (model X.prog X.w) X.A X.env xe):GOk (X.tr pn xe) G where
 K:=O.K
 kind:=O.kind
 own:=fun _=>ho
 N:=O.N
 nd:=O.nd
 sc:=O.sc
 vis:=O.vis
 top:=O.top
 calm:=O.calm
 hd:=O.hd
 units:=O.units
 cel:=O.cel
 gb:=fun x g e=>by
  refine GBOk.to (X:=X) ?_ ?_ ?_ ?_ (O.gb x g e)
  ·rfl
  ·rfl
  ·exact fun _ r=>r
  ·exact fun i F=>ca1 F
 bl:=O.bl
 frm:=O.frm
 fr:=O.fr
theorem aa6 {G:Sg} {h:ExceptHandler} (hh:okH G h=true):∃ x p nm b suite pos,h=.ExceptHandler (some (.Name x p)) nm (b::suite) pos/\Ik G x=true/\(Pe G.gb x).isSome=true /\ ∀ n,nm=some n->(Bv G.N n 0).isSome=true/\G.sc.lookup n=some .local:=by
 unfold okH at hh
 split at hh
 ·rw [au,au] at hh
  refine⟨_,_,_,_,_,_,rfl,hh.1.1,hh.1.2,fun n e=>?_⟩
  have h2:=hh.2
  rw [e] at h2
  have h2:((Bv G.N n 0).isSome&&(G.sc.lookup n==some .local))=true:=h2
  rw [au] at h2
  exact⟨h2.1,bG h2.2⟩
 ·cases hh
theorem Zl {X:Cx} {G:Sg} (O:GOk X G) {w:List Stmt->DS} (h:∀ a ss,QSs (X.hd a) ss (w ss)):∀ {hl:List ExceptHandler},hl.all (okH G)=true->Nn X hl (hl.map fun h=>(a06 G h,Lp G h,w (aq0 h)))
 | [],_=>.nil
 | e0::r,hh=>by
  rw [bj,au] at hh
  obtain⟨h1,h2⟩:=hh
  obtain⟨x,p,nm,b,suite,pos,rfl,hg,hs,hnm⟩:=aa6 h1
  obtain⟨T,hT⟩:=Option.isSome_iff_exists.mp hs
  have hl:∃ oi,G.gb.lookup x=some (.exc T oi):=by
   unfold Pe at hT
   split at hT
   ·rename_i T' oi e;cases hT;exact⟨oi,e⟩
   ·cases hT
  obtain⟨oi,hl⟩:=hl
  obtain⟨m,kp,ec,_⟩:=O.at_ x _ hl
  have e:a06 G (.ExceptHandler (some (.Name x p)) nm (b::suite) pos)=T:=by show (Pe G.gb x).getD 0=T;rw [hT];rfl
  rw [ba,e]
  cases hu:bn8 G (.ExceptHandler (some (.Name x p)) nm (b::suite) pos) with
  | some T'=>
   have ek:Lp G (.ExceptHandler (some (.Name x p)) nm (b::suite) pos)=.up T':=by unfold Lp;rw [hu]
   rw [ek]
   unfold bn8 at hu
   split at hu
   ·rename_i heq
    cases heq
    split at hu
    ·rename_i hc
     obtain⟨k2,p4,rfl⟩:=Q7 hc
     unfold aq1 at hu
     split at hu
     ·split at hu
      ·rename_i hs'
       obtain⟨z,k,p2,rfl⟩:=Wn hs'
       unfold aq4 at hu
       split at hu
       ·rename_i T'' hy
        split at hu
        ·rename_i hgy
         cases hu
         obtain⟨my,kpy,ecy,iny⟩:=O.at_ _ _ hy
         exact .up (O.gl hg) m (Il hg).1 ec (O.gl hgy) my (Il hgy).1 ecy kpy iny (Zl O h h2)
        ·cases hu
       ·cases hu
      ·cases hu
     ·cases hu
    ·cases hu
   ·cases hu
  | none=>
  have ao:Wt X nm (Lp G (.ExceptHandler (some (.Name x p)) nm (b::suite) pos)):=by
   unfold Lp
   rw [hu]
   cases nm with
   | none=>exact .no
   | some n=>
    obtain⟨z1,z2⟩:=hnm n rfl
    obtain⟨i,hi⟩:=Option.isSome_iff_exists.mp z1
    show Wt X (some n) (match Bv G.N n 0 with|some i=>HK.as i|none=>HK.no)
    rw [hi]
    exact .as (by rw [O.N];exact O.nd) (by rw [O.N];exact Dq hi) (by rw [O.sc];exact z2)
  exact .cons (O.gl hg) m (Il hg).1 ec ao (fun a=>h a _) (Zl O h h2)
mutual
noncomputable def wS:Nat->Sg->Stmt->DS
 | 0,_,_=>B4
 | n+1,G,st=>match st with
  | .Pass _=>Af
  | .Break _=>bt2
  | .Continue _=>bt3
  | .Return (some e) _=>As (wE n G e)
  | .Return none _=>aq2
  | .Expr e _=>if Gu e=true then A9 (wE n G e) else B4
  | .If c a b _=>dIf (wT n G c) (wSs n G a) (wSs n G b)
  | .Assign [.Name x _] (.ListComp elt [⟨tg,iter,ifs,0⟩] sc _) _=>match Bv G.N x 0 with
   | some i=>if Q8 G x=true/\G.calm=true/\Eb G sc=true/\Ix iter=true then
     A2 i (Ef (Ey G sc.names) (wI n G tg iter) (wG n (Cc G sc.names) tg) (match ifs with | []=>G9 | [c]=>wT n (Cc G sc.names) c|_=>tNo) (wE n (Cc G sc.names) elt)) else B4
   | none=>B4
  | .Assign [.Name x _] e _=>match Bv G.N x 0 with
   | some i=>if Q8 G x=true/\Gu e=true then A2 i (wE n G e) else B4
   | none=>B4
  | .Assign [.Tuple ts kt pt] e _=>if Gu e=true/\aa2 e=true then G8 (wE n G e) (wG n G (.Tuple ts kt pt)) else B4
  | .Assign [.Attribute o f _] e _=>E7 G.K f (wE n G o) (wE n G e)
  | .Assign [.Subscript o i _] e _=>if F7 i=true then G8 (wE n G e) (Fw G.K (wE n G o) (wE n G i)) else B4
  | .Raise (some e) none _=>if G.calm=true then Cd G.K (wE n G e) else B4
  | .For tg iter body [] _=>if G.calm=true/\Ix iter=true/\G.top=true then Qk (wI n G tg iter) (wG n G tg) (wSs n G body) else B4
  | .Try body (h::hs) [] [] _=>if G.top=true/\(h::hs).all (okH G)=true then a09 G.K (wSs n G body) ((h::hs).map fun h=>(a06 G h,Lp G h,wSs n (hdG G) (aq0 h))) else B4
  | _=>B4
noncomputable def wSs:Nat->Sg->List Stmt->DS
 | 0,_,_=>B4
 | _+1,_,[]=>Af
 | n+1,G,s::r=>Ah (wS n G s) (wSs n G r)
end
theorem aw6:∀ (n:Nat) (X:Cx) (G:Sg),GOk X G->(∀ s,QS X s (wS n G s))/\(∀ ss,QSs X ss (wSs n G ss)):=by
 intro n
 induction n with
 | zero=>
  intro X G O
  refine⟨fun s=>?_,fun s=>?_⟩
  ·unfold wS;exact Bk
  ·unfold wSs;exact fun _ _ _ _ _ _ _ _ h=>h.elim
 | succ n ih=>
  intro X G O
  obtain⟨hS,hSs⟩:=ih X G O
  obtain⟨hE,hT,hI⟩:=bs0 n X G O
  refine⟨fun s=>?_,fun s=>?_⟩
  ·unfold wS
   split
   ·exact an9
   ·exact bd0
   ·exact bd1
   ·exact bd4 (hE _)
   ·exact ao0
   ·split
    ·exact an8 (hE _) ‹_›
    ·exact Bk
   ·exact bz4 (hT _) (hSs _) (hSs _)
   ·split
    ·rename_i i e
     split
     ·rename_i hh
      obtain⟨h1,h2,h3,h4⟩:=hh
      refine Rh O e h1 (O.calm▸h2) h3 h4 (hI _ _) (fun X' O'=>Qc n X' _ O' _) (fun X' O'=>?_) (fun X' O'=>(bs0 n X' _ O').1 _)
      split
      ·exact Pw
      ·exact Px ((bs0 n X' _ O').2.1 _)
      ·exact fun _ _ _ _ _ _ _ _ h=>h.elim
     ·exact Bk
    ·exact Bk
   ·split
    ·rename_i i e
     split
     ·rename_i hh
      exact ad7 O e hh.1 (hE _) (Gv hh.2 _ _ _)
     ·exact Bk
    ·exact Bk
   ·split
    ·rename_i hh
     exact bc9 (hE _) (Qc n X G O _) hh.1 hh.2
    ·exact Bk
   ·rw [<- O.K];exact bd2 (hE _) (hE _)
   ·split
    ·rename_i hh
     rw [<- O.K];exact bd5 O.units (hE _) (hE _) (hE _) hh
    ·exact Bk
   ·split
    ·rename_i hcm
     rw [<- O.K];exact ad6 O (O.hd (O.calm▸hcm)) (hE _)
    ·exact Bk
   ·split
    ·rename_i hh
     exact bd3 O hh.2.2 (O.calm▸hh.1) (hI _ _) (Qc n X G O _) (hSs _) hh.2.1
    ·exact Bk
   ·split
    ·rename_i hh
     rw [<- O.K]
     exact bd6 (O.frm hh.1).1 (O.frm hh.1).2 (fun pn xe ho=>(ih _ _ (bn5 O ho)).2 _) (Zl O (fun a ss=>(ih _ _ (a20 O a)).2 ss) hh.2)
    ·exact Bk
   ·exact Bk
  ·cases s with
   | nil=>unfold wSs;exact ao1
   | cons a r=>unfold wSs;exact ad8 (hS a) (hSs r)
section
variable {P:aE} {w:bq} {K:aa} {mg:Str->Option Value} {base:Heap}
structure FnIn (P:aE) (w:bq) (K:aa) (mg:Str->Option Value) (base:Heap) (k:Nat) (x:Str) (i:FI):Prop where
 at_:mg x=some (.ref i.f)
 kp:ak K (.ref i.f)=true
 ok:∃ CX,(∀ X':Cx,X'.prog=P->X'.w=w->K2 CX X')/\FnOk P w K mg base CX i.k i.f i.fd i.ps i.sp
 le:i.k<=k
 binds:∀ j,j<=i.dfs.length->Binds K i.fd i.ps (i.ds.drop j)
 vals:Vals i.dfs i.ds
noncomputable def ax1 (P:aE) (w:bq) (K:aa) (mg:Str->Option Value) (base:Heap) (k:Nat) (C:Addr):Option FI->Prop
 | none=>ac K (.ref C) "__init__" = some (some (.builtin "ValueError.__init__"))
 | some i=>ac K (.ref C) "__init__" = some (some (.ref i.f))/\bK K (.ref i.f)=true/\ak K (.ref i.f)=true/\(∃ CX,(∀ X':Cx,X'.prog=P->X'.w=w->K2 CX X')/\FnOk P w K mg base CX i.k i.f i.fd i.ps i.sp) /\
   i.k+1<=k/\(∀ j,j<=i.dfs.length->Binds K i.fd i.ps (i.ds.drop j))/\Vals i.dfs i.ds
structure ExcIn (P:aE) (w:bq) (K:aa) (mg:Str->Option Value) (base:Heap) (k:Nat) (x:Str) (C:Addr) (oi:Option FI):Prop where
 at_:mg x=some (.ref C)
 kp:ak K (.ref C)=true
 cls:ECls K C
 init:ax1 P w K mg base k C oi
structure FiIn (P:aE) (w:bq) (K:aa) (mg:Str->Option Value) (base:Heap) (k:Nat) (i:FI):Prop where
 kp:ak K (.ref i.f)=true
 ok:∃ CX,(∀ X':Cx,X'.prog=P->X'.w=w->K2 CX X')/\FnOk P w K mg base CX i.k i.f i.fd i.ps i.sp
 le:i.k<=k
 binds:∀ j,j<=i.dfs.length->Binds K i.fd i.ps (i.ds.drop j)
 vals:Vals i.dfs i.ds
theorem FiIn.mono {k k':Nat} {i:FI} (F:FiIn P w K mg base k i) (h:k<=k'):FiIn P w K mg base k' i:=⟨F.kp,F.ok,aD F.le h,F.binds,F.vals⟩
noncomputable def cd2 (P:aE) (w:bq) (K:aa) (mg:Str->Option Value) (base:Heap) (k:Nat) (C:Addr):Option FI->Prop
 | none=>aU K C=true/\ac K (.ref C) "__init__" = some (some (.builtin "object.__init__"))
 | some i=>aU K C=true/\ac K (.ref C) "__init__" = some (some (.ref i.f))/\bK K (.ref i.f)=true/\FiIn P w K mg base k i/\i.k+1<=k
structure ClsIn (P:aE) (w:bq) (K:aa) (mg:Str->Option Value) (base:Heap) (k:Nat) (x:Str) (C:Addr) (oi:Option FI):Prop where
 at_:mg x=some (.ref C)
 kp:ak K (.ref C)=true
 made:cd2 P w K mg base k C oi
theorem ClsIn.mono {k k':Nat} {x:Str} {C:Addr} {oi:Option FI} (F:ClsIn P w K mg base k x C oi) (h:k<=k'):ClsIn P w K mg base k' x C oi:=by
 refine⟨F.at_,F.kp,?_⟩
 cases oi with
 | none=>exact F.made
 | some i=>obtain⟨a,b,c,d,e⟩:=F.made;exact⟨a,b,c,d.mono h,aD e h⟩
structure MetIn (P:aE) (w:bq) (K:aa) (mg:Str->Option Value) (base:Heap) (k:Nat) (m:Str) (mi:MI):Prop where
 cls:Cls K mi.C
 at_:A0 K mi.C m mi.i.f
 fi:FiIn P w K mg base k mi.i
theorem MetIn.mono {k k':Nat} {m:Str} {mi:MI} (F:MetIn P w K mg base k m mi) (h:k<=k'):MetIn P w K mg base k' m mi:=⟨F.cls,F.at_,F.fi.mono h⟩
theorem ExcIn.mono {P:aE} {w:bq} {K:aa} {mg:Str->Option Value} {base:Heap} {k k':Nat} {x:Str} {C:Addr} {oi:Option FI} (F:ExcIn P w K mg base k x C oi) (h:k<=k'):ExcIn P w K mg base k' x C oi:=by
 refine⟨F.at_,F.kp,F.cls,?_⟩
 cases oi with
 | none=>exact F.init
 | some i=>obtain⟨a,b,c,d,e,f⟩:=F.init;exact⟨a,b,c,d,aD e h,f⟩
structure ap9 (P:aE) (w:bq) (K:aa) (mg:Str->Option Value) (base:Heap) (k:Nat) (x:Str) (C:Addr) (i:FI):Prop where
 at_:mg x=some (.ref C)
 sup:K3 K C i.f
 fi:FiIn P w K mg base k i
noncomputable def GBIn (P:aE) (w:bq) (K:aa) (mg:Str->Option Value) (base:Heap) (k:Nat) (x:Str):GB->Prop
 | .fn i=>FnIn P w K mg base k x i
 | .val v u=>mg x=some u/\RelV v u
 | .exc C oi=>ExcIn P w K mg base k x C oi
 | .cls C oi=>ClsIn P w K mg base k x C oi
 | .met m l=>∀ mi∈l,MetIn P w K mg base k m mi
 | .ini C i=>ap9 P w K mg base k x C i
structure Tab (P:aE) (w:bq) (K:aa) (mg:Str->Option Value) (base:Heap) (k:Nat) (gb:List (Str×GB)) (bl:List Str):Prop where
 all:∀ x g,(x,g)∈gb->GBIn P w K mg base k x g
 bl:∀ x∈bl,mg x=none
theorem FnIn.mono {k k':Nat} {x:Str} {i:FI} (F:FnIn P w K mg base k x i) (h:k<=k'):FnIn P w K mg base k' x i:=⟨F.at_,F.kp,F.ok,aD F.le h,F.binds,F.vals⟩
theorem GBIn.mono {k k':Nat} {x:Str} {g:GB} (F:GBIn P w K mg base k x g) (h:k<=k'):GBIn P w K mg base k' x g:=by
 cases g with
 | fn i=>exact FnIn.mono F h
 | val v u=>exact F
 | exc C oi=>exact ExcIn.mono F h
 | cls C oi=>exact ClsIn.mono F h
 | met m l=>exact fun mi hm=>(F mi hm).mono h
 | ini C i=>exact⟨F.at_,F.sup,F.fi.mono h⟩
theorem Tab.nil {bl:List Str} (h:∀ x∈bl,mg x=none):Tab P w K mg base 0 [] bl:=⟨fun _ _ h=>(by cases h),h⟩
theorem Tab.mono {k k':Nat} {gb:List (Str×GB)} {bl:List Str} (T:Tab P w K mg base k gb bl) (h:k<=k'):Tab P w K mg base k' gb bl:=⟨fun x g hx=>(T.all x g hx).mono h,T.bl⟩
theorem Tab.put {k:Nat} {gb:List (Str×GB)} {bl:List Str} {x:Str} {g:GB} (T:Tab P w K mg base k gb bl) (F:GBIn P w K mg base k x g):Tab P w K mg base k ((x,g)::gb) bl:=
 ⟨fun y j hy=>by
  rcases List.mem_cons.mp hy with e|e
  ·cases e;exact F
  ·exact T.all y j e,T.bl⟩
theorem Tab.cons {k:Nat} {gb:List (Str×GB)} {bl:List Str} {x:Str} {i:FI} (T:Tab P w K mg base k gb bl) (F:FnIn P w K mg base k x i):Tab P w K mg base k ((x,.fn i)::gb) bl:=T.put F
theorem Tab.consX {k:Nat} {gb:List (Str×GB)} {bl:List Str} {x:Str} {C:Addr} {oi:Option FI} (T:Tab P w K mg base k gb bl) (F:ExcIn P w K mg base k x C oi):Tab P w K mg base k ((x,.exc C oi)::gb) bl:=T.put F
theorem Tab.consV {k:Nat} {gb:List (Str×GB)} {bl:List Str} {x:Str} {v:V} {u:Value} (T:Tab P w K mg base k gb bl) (F:mg x=some u) (r:RelV v u):Tab P w K mg base k ((x,.val v u)::gb) bl:=T.put ⟨F,r⟩
theorem Tab.consC {k:Nat} {gb:List (Str×GB)} {bl:List Str} {x:Str} {C:Addr} {oi:Option FI} (T:Tab P w K mg base k gb bl) (F:ClsIn P w K mg base k x C oi):Tab P w K mg base k ((x,.cls C oi)::gb) bl:=T.put F
theorem Tab.consM {k:Nat} {gb:List (Str×GB)} {bl:List Str} {x:Str} {m:Str} {l:List MI} (T:Tab P w K mg base k gb bl) (F:∀ mi∈l,MetIn P w K mg base k m mi):Tab P w K mg base k ((x,.met m l)::gb) bl:=T.put F
theorem Tab.consI {k:Nat} {gb:List (Str×GB)} {bl:List Str} {x:Str} {C:Addr} {i:FI} (T:Tab P w K mg base k gb bl) (F:ap9 P w K mg base k x C i):Tab P w K mg base k ((x,.ini C i)::gb) bl:=T.put F
theorem GBIn.there {X:Cx} {k:Nat} {x:Str} {g:GB} (F:GBIn X.prog X.w X.K X.mg X.base k x g) (hr:Room k X.A):GBOk X x g:=by
 cases g with
 | fn i=>exact⟨F.at_,F.kp,F.ok,hr.mono F.le,F.binds,F.vals⟩
 | val v u=>exact F
 | exc C oi=>
  refine⟨F.at_,F.kp,F.cls,?_⟩
  cases oi with
  | none=>exact F.init
  | some i=>obtain⟨a,b,c,d,e,f,g⟩:=F.init;exact⟨a,b,⟨c,d,hr.mono (by omega),f,g⟩,hr.mono e⟩
 | cls C oi=>
  refine⟨F.at_,F.kp,?_⟩
  cases oi with
  | none=>exact F.made
  | some i=>obtain⟨a,b,c,d,e⟩:=F.made;exact⟨a,b,c,⟨d.kp,d.ok,hr.mono d.le,d.binds,d.vals⟩,hr.mono e⟩
 | met m l=>exact fun mi hm=>⟨(F mi hm).cls,(F mi hm).at_,⟨(F mi hm).fi.kp,(F mi hm).fi.ok,hr.mono (F mi hm).fi.le,(F mi hm).fi.binds,(F mi hm).fi.vals⟩⟩
 | ini C i=>exact⟨F.at_,F.sup,⟨F.fi.kp,F.fi.ok,hr.mono F.fi.le,F.fi.binds,F.fi.vals⟩⟩
theorem C7 (X:Cx):K2 CX0 X:=fun _ _ _ _ _ _ _ _ _ h=>h.elim
noncomputable def Au (K:aa) (N:List Str) (sc:Scope) (gb:List (Str×GB)) (bl:List Str):Sg:=⟨K,N,sc.names,gb,bl,true,true⟩
noncomputable def Ap (N:List Str) (sc:Scope):Bool:=N.all fun x=>(sc.names.lookup x==some .local)||(sc.names.lookup x==some .cell)
noncomputable def a16 (Q:VK) (E:EK):Hs:=⟨fun _ H'=>Q .non H',Q,fun _ _=>False,fun _ _=>False,fun _=>E⟩
structure FunD (K:aa) (x qual:Str) (st:Stmt) (f:Addr) (fd:ai) (dV:Value):Prop where
 ex:∃ (oc:Value) (od:Option Addr) (kV doc pm:Value) (an:Option Addr) (cdv ct:Value) (osl:Array (Option Value)),
  fd=bp x qual (A7 st) (Ai st) (Aa st) dV kV doc pm an cdv ct/\K.lookup f=some ⟨oc,od,.func fd,osl⟩/\bW K cdv qual=true
 kp:ak K (.ref f)=true
theorem Fun.toD {x qual:Str} {st:Stmt} {f:Addr} {fd:ai} (F:Fun K x qual st f fd):FunD K x qual st f fd .none:=⟨F.ex,F.kp⟩
theorem Mq {x qual:Str} {st:Stmt} {f:Addr} {oc:Value} {od an:Option Addr} {osl:Array (Option Value)} {dV kV doc pm cdv ct:Value} (l:K.lookup f=some ⟨oc,od,.func (bp x qual (A7 st) (Ai st) (Aa st) dV kV doc pm an cdv ct),osl⟩)
  (c:bW K cdv qual=true) (k:ak K (.ref f)=true):FunD K x qual st f (bp x qual (A7 st) (Ai st) (Aa st) dV kV doc pm an cdv ct) dV:=⟨⟨oc,od,kV,doc,pm,an,cdv,ct,osl,rfl,l,c⟩,k⟩
theorem FunD.ok {x qual:Str} {st:Stmt} {f:Addr} {fd:ai} {dV:Value} {N ps:List Str} {k:Nat} {sp:Sp} (F:FunD K x qual st f fd dV) (S:Aj N ps (Aa st)) (len:∀ vs H Q E,sp vs H Q E->vs.length=ps.length)
  (hbody:∀ (cdv:Value) (A:aT) (outer:List Env) (s:ah) (H:Hp) (vs:List V) (Q:VK) (E:XK),Room k (A.deeper (i7 qual (Aa st) s.heap.objs.size f cdv))->sp vs H Q E ->
   ∃ t,PSs (Hx CX0 P w K mg base N qual (Aa st) f cdv A outer s H E).nox (Ai st) t/\t { nx:=fun _ H'=>Q .non H',rt:=Q } (Fb N vs) H):FnOk P w K mg base CX0 (k+1) f fd ps sp:=by
 obtain⟨oc,od,kV,doc,pm,an,cdv,ct,osl,rfl,lk,hcd⟩:=F.ex
 refine aq6 lk hcd S len fun A outer s H vs Q E hr hsp=>?_
 obtain⟨t,h,q⟩:=hbody cdv A outer s H vs Q E hr hsp
 exact⟨t,h.nox,q⟩
theorem Qe {fd:ai} {ps:List Str} {T:Addr} {o:Obj} {items:Array Value} {n:Nat} {ds:List Value} (hd:fd.defaults=.ref T) (ho:K.lookup T=some o) (hs:o.data=.seq items n)
  (h:∀ us:List Value,(us++ds).length=ps.length -> ∃ k:Option (Array Value)->Sem (List (Str×Value)),iG fd ⟨us,[]⟩=seqItems? fd.defaults >>= k/\k (some items)=pure (ps.zip (us++ds))):Binds K fd ps ds:=fun s us X hl=>by
 obtain⟨k,h1,h2⟩:=h us hl
 exact PySem.W.binds_K X hd ho hs h1 h2
theorem FunD.okW0 {x qual:Str} {st:Stmt} {f:Addr} {fd:ai} {N ps:List Str} {k n:Nat} {sp:Sp} {gb:List (Str×GB)} {bl:List Str} {t:DS} {dV:Value} (F:FunD K x qual st f fd dV) (S:Aj N ps (Aa st)) (hv:Ap N (Aa st)=true)
  (T:Tab P w K mg base k gb bl) (rd:wSs n (Au K N (Aa st) gb bl) (Ai st)=t) (len:∀ vs H Q E,sp vs H Q E->vs.length=ps.length)
  (hbody:∀ (vs:List V) (H:Hp) (Q:VK) (E:XK),sp vs H Q E->t (a16 Q fun _ _=>False) (Fb N vs) H):FnOk P w K mg base CX0 (k+1) f fd ps sp:=by
 refine F.ok S len fun cdv A outer s H vs Q E hr h=>?_
 have O:GOk (Hx CX0 P w K mg base N qual (Aa st) f cdv A outer s H E).nox (Au K N (Aa st) gb bl):=by
  refine⟨rfl,S.kind,(fun _=>PassesOwn.never),rfl,S.nd,fun x=>rfl,fun x hx=>?_,fun _ _=>rfl,rfl,(fun _=>hr.hd),hr.units,fun x hx=>?_,fun x g e=>?_,fun x hx=>?_,(fun _=>⟨rfl,rfl⟩),⟨_,_,_,rfl,rfl,rfl⟩⟩
  ·have:=List.all_eq_true.mp hv x hx
   rw [cv] at this
   exact this.elim (fun z=>.inl (bG z)) fun z=>.inr (.inl (bG z))
  ·rcases hx with hx|hx
   ·exact Fr hx
   ·exact absurd rfl (S.nofree _ (bA hx))
  ·exact (T.all x g e).there hr
  ·exact T.bl x (by have hx':bl.contains x=true:=hx;simpa using hx')
 refine⟨_,(aw6 n _ _ O).2 (Ai st) (fun _ _ _=>False) (fun _ _ _ _ _ _ _ h=>h.elim),?_⟩
 rw [rd]
 exact hbody vs H Q E h
end
theorem Same.upd {H:Hp} {a:Addr} {o:HO} (h:H a=none):Same H (upd H a o):=fun b u e=>by rw [Ak (A6 e h)];exact e
theorem Same.set {H H':Hp} {a:Addr} {o:HO} (s:Same H H') (h:H a=none):Same H (L2.upd H' a o):=fun b u e=>by rw [Ak (A6 e h)];exact s b u e
theorem Same.seqT {K:aa} {H H':Hp} {a:Addr} {xs:List V} (e:Same H H') (h:SqT K H a xs):SqT K H' a xs:=by
 rcases h with (h|⟨o,h⟩)|h
 ·exact .inl (.inl (e _ _ h))
 ·exact .inl (.inr ⟨o,e _ _ h⟩)
 ·exact .inr h
structure D9 (J:It) (its:List V) (ok:Hp->Prop):Prop where
 go:∀ i H,ok H->i<its.length->J.go i H
 stop:∀ H,ok H->J.stop its.length H
 yld:∀ i H x H',ok H->i<its.length->J.yld i H x H'->H'=H/\its[i]? = some x
structure Tf (J:It) (its:List (V×V)) (ok:Hp->Prop):Prop where
 go:∀ i H,ok H->i<its.length->J.go i H
 stop:∀ H,ok H->J.stop its.length H
 yld:∀ i H v H',ok H->i<its.length->J.yld i H v H' -> ∃ T x y,H T=none/\v=.ref T/\its[i]? = some (x,y)/\H'=upd H T (.tup [x,y])
noncomputable def Fk (z:Str):List V:=z.cps.toList.map fun c=>V.str ⟨#[c]⟩
theorem bs1 (z:Str):D9 (Its z) (Fk z) (fun _=>True):=by
 have e:(Fk z).length=z.cps.size:=by unfold Fk;simp
 refine⟨fun i H _ h=>?_,fun H _=>?_,fun i H x H' _ _ h=>?_⟩
 ·show i<z.cps.size;omega
 ·show (Fk z).length=z.cps.size;exact e
 ·obtain⟨h1,c,h2,h3⟩:=h
  refine⟨h1,?_⟩
  unfold Fk
  rw [aY,bU,h2,h3]
  rfl
theorem Hq {K:aa} {a:Addr} (xs:List V):D9 (Itl K a) xs (fun H=>SqL K H a xs):=by
 refine⟨fun i H q h=>⟨xs,xs[i],q,by simp [h]⟩,fun H q=>⟨xs,q,ae _⟩,fun i H x H' q _ h=>?_⟩
 obtain⟨h1,h2⟩:=h
 exact⟨h1,h2 xs q⟩
theorem bs2 {K:aa} {a:Addr} (xs:List V):D9 (Itt K a) xs (fun H=>SqT K H a xs):=by
 refine⟨fun i H q h=>⟨xs,xs[i],q,by simp [h]⟩,fun H q=>⟨xs,q,ae _⟩,fun i H x H' q _ h=>?_⟩
 obtain⟨h1,h2⟩:=h
 exact⟨h1,h2 xs q⟩
noncomputable def Rm (lo:Int) (n:Nat):List V:=(cB n).map fun (i:Nat)=>V.int (lo+(i:Int))
theorem Cj (lo:Int) (n:Nat):(Rm lo n).length=n:=by unfold Rm;simp
theorem P7 {lo:Int} {n i:Nat} (h:i<n):(Rm lo n)[i]? = some (.int (lo+(i:Int))):=by unfold Rm;simp [h]
theorem Gg (lo:Int) (n:Nat):D9 (Itr lo n) (Rm lo n) (fun _=>True):=by
 refine⟨fun i H _ h=>?_,fun H _=>?_,fun i H x H' _ hi h=>?_⟩
 ·rw [Cj] at h;exact h
 ·show n<=(Rm lo n).length;rw [Cj];exact ae _
 ·obtain⟨h1,h2⟩:=h
  rw [Cj] at hi
  exact⟨h1,by rw [P7 hi,h2]⟩
theorem ai6 {p:Addr} {o:Obj} (kvs:List (Key×V)):Tf (ax2 p o kvs) (kvs.map fun q=>(kV q.1,q.2)) (fun H=>H p=some (.frz o (.dK kvs))):=by
 refine⟨fun i H q h=>⟨q,by simpa using h⟩,fun H q=>⟨q,by simp⟩,fun i H v H' q _ h=>?_⟩
 obtain⟨T,k,x,hT,h1,h2,h4⟩:=h
 exact⟨T,kV k,x,hT,h1,by rw [aY,h2];rfl,h4⟩
section
variable {J:It} {its:List V} {ok:Hp->Prop} {g:DG} {tb:DS} {D:Hs} {σ:St} {H:Hp}
theorem Mp (Y:D9 J its ok) (Pv:Nat->St->Hp->Prop) (h0:Pv 0 σ H) (hok:∀ i σ H,i<=its.length->Pv i σ H->ok H)
  (hs:∀ i x σ H,its[i]? = some x->Pv i σ H->g x σ H fun σ2 H2=>tb { D with nx:=Pv (i+1),ct:=Pv (i+1),bk:=D.nx } σ2 H2) (hd:∀ σ H,Pv its.length σ H->D.nx σ H):ax0 J g tb D σ H:=by
 refine⟨fun i m σ H=>m=its.length - i/\i<=its.length/\Pv i σ H,⟨its.length,by simp,bT _,h0⟩,?_⟩
 rintro i m σ H ⟨rfl,hi,p⟩
 by_cases hlt:i<its.length
 ·refine .inr ⟨Y.go i H (hok i σ H hi p) hlt,Pv (i+1),fun σ' H' p'=>⟨its.length - (i+1),by omega,rfl,hlt,p'⟩,fun x H' y=>?_⟩
  obtain⟨e,y2⟩:=Y.yld i H x H' (hok i σ H hi p) hlt y
  subst e
  exact hs i x σ _ y2 p
 ·have e:i=its.length:=by omega
  subst e
  exact .inl ⟨Y.stop H (hok _ σ H hi p),hd σ H p⟩
theorem aj8 {its:List (V×V)} (Y:Tf J its ok) (Pv:Nat->St->Hp->Prop) (h0:Pv 0 σ H) (hok:∀ i σ H,i<=its.length->Pv i σ H->ok H)
  (hs:∀ i x y T σ H,its[i]? = some (x,y)->H T=none->Pv i σ H->g (.ref T) σ (upd H T (.tup [x,y])) fun σ2 H2=>tb { D with nx:=Pv (i+1),ct:=Pv (i+1),bk:=D.nx } σ2 H2) (hd:∀ σ H,Pv its.length σ H->D.nx σ H):ax0 J g tb D σ H:=by
 refine⟨fun i m σ H=>m=its.length - i/\i<=its.length/\Pv i σ H,⟨its.length,by simp,bT _,h0⟩,?_⟩
 rintro i m σ H ⟨rfl,hi,p⟩
 by_cases hlt:i<its.length
 ·refine .inr ⟨Y.go i H (hok i σ H hi p) hlt,Pv (i+1),fun σ' H' p'=>⟨its.length - (i+1),by omega,rfl,hlt,p'⟩,fun x H' y=>?_⟩
  obtain⟨T,u,v,hT,e1,e2,e3⟩:=Y.yld i H x H' (hok i σ H hi p) hlt y
  subst e1 e3
  exact hs i u v T σ _ e2 hT p
 ·have e:i=its.length:=by omega
  subst e
  exact .inl ⟨Y.stop H (hok _ σ H hi p),hd σ H p⟩
variable {tc:DT} {te:DE} {L:Addr} {R:Hp->Prop} {E:EK}
theorem Hw (Y:D9 J its ok) (Pv:Nat->St->Hp->Prop) (h0:Pv 0 σ H) (hok:∀ i σ H,i<=its.length->Pv i σ H->ok H)
  (hs:∀ i x σ H,its[i]? = some x->Pv i σ H->g x σ H fun σ3 H3=>tc σ3 H3 (fun b H4=>if b=true then te σ3 H4 (fun v H5=>∃ ys,H5 L=some (.lst ys)/\ys.length<sizeLine/\Pv (i+1) σ3 (upd H5 L (.lst (ys++[v])))) E else Pv (i+1) σ3 H4) E)
  (hd:∀ σ H,Pv its.length σ H->R H):Wu J g tc te L R σ H E:=by
 refine⟨fun i m σ H=>m=its.length - i/\i<=its.length/\Pv i σ H,⟨its.length,by simp,bT _,h0⟩,?_⟩
 rintro i m σ H ⟨rfl,hi,p⟩
 by_cases hlt:i<its.length
 ·refine .inr ⟨Y.go i H (hok i σ H hi p) hlt,Pv (i+1),fun σ' H' p'=>⟨its.length - (i+1),by omega,rfl,hlt,p'⟩,fun x H' y=>?_⟩
  obtain⟨e,y2⟩:=Y.yld i H x H' (hok i σ H hi p) hlt y
  subst e
  exact hs i x σ _ y2 p
 ·have e:i=its.length:=by omega
  subst e
  exact .inl ⟨Y.stop H (hok _ σ H hi p),hd σ H p⟩
theorem D5 {α β:Type} {its:List α} {i:Nat} {x:α} (h:its[i]? = some x) (p:α->Bool) (f:α->β):((its.take (i+1)).filter p).map f=((its.take i).filter p).map f++(if p x=true then [f x] else []):=by
 rw [fQ,h]
 simp only [Option.toList_some,List.filter_append,bn]
 congr 1
 cases e:p x <;> simp [e]
theorem aj3 (Y:D9 J its ok) (Sg:St->Prop) (p:V->Bool) (f:V->V) (h0:H L=none) (hok:∀ H1,Same H H1->ok H1) (hn:its.length<sizeLine) (hσ:Sg σ)
  (hs:∀ x σ H1,x∈its->Sg σ->Same H H1 -> ∀ (Fin:V->St->Hp->Prop) (Skip:St->Hp->Prop),(∀ v σ3 H5,Sg σ3->Same H1 H5->p x=true->v=f x->Fin v σ3 H5)->(∀ σ3 H4,Sg σ3->Same H1 H4->p x=false->Skip σ3 H4) ->
   g x σ H1 fun σ3 H3=>tc σ3 H3 (fun b H4=>if b=true then te σ3 H4 (fun v H5=>Fin v σ3 H5) E else Skip σ3 H4) E)
  (hd:∀ H',Same H H'->H' L=some (.lst ((its.filter p).map f))->R H'):Wu J g tc te L R σ (upd H L (.lst [])) E:=by
 refine Hw Y (fun i σ' H'=>Sg σ'/\Same H H'/\H' L=some (.lst (((its.take i).filter p).map f))) ⟨hσ,Same.upd h0,Ad⟩ (fun i σ' H' _ q=>hok H' q.2.1) ?_ ?_
 ·rintro i x σ' H' hx ⟨q1,q2,q3⟩
  have hi:i<its.length:=(List.getElem?_eq_some_iff.mp hx).1
  refine hs x σ' H' (bC hx) q1 q2 (fun v σ3 H5=>∃ ys,H5 L=some (.lst ys)/\ys.length<sizeLine/\Sg σ3/\Same H (upd H5 L (.lst (ys++[v])))/\upd H5 L (.lst (ys++[v])) L=some (.lst (((its.take (i+1)).filter p).map f)))
   (fun σ3 H4=>Sg σ3/\Same H H4/\H4 L=some (.lst (((its.take (i+1)).filter p).map f))) (fun v σ3 H5 s1 s2 hp hv=>?_) (fun σ3 H4 s1 s2 hp=>?_)
  ·refine⟨_,s2 _ _ q3,?_,s1,(q2.trans s2).set h0,?_⟩
   ·rw [aw]
    have h1:=List.length_filter_le p (its.take i)
    have h2:(its.take i).length<=i:=by rw [aZ];omega
    omega
   ·rw [Ad,D5 hx,if_pos hp,hv]
  ·refine⟨s1,q2.trans s2,?_⟩
   rw [s2 _ _ q3,D5 hx,if_neg (by rw [hp];exact aj),eY]
 ·rintro σ' H' ⟨_,q2,q3⟩
  rw [List.take_length] at q3
  exact hd H' q2 q3
end
section
variable {K:aa} {H H':Hp}
theorem Same.seqL {a:Addr} {xs:List V} (e:Same H H') (h:SqL K H a xs):SqL K H' a xs:=by
 rcases h with (h|⟨o,h⟩)|h
 ·exact .inl (.inl (e _ _ h))
 ·exact .inl (.inr ⟨o,e _ _ h⟩)
 ·exact .inr h
mutual
theorem D1 (S:Same H H'):∀ {d:Dt} {x:V},At K H d x->At K H' d x
 | .at_ v,x,h=>by unfold At at h ⊢;exact h
 | .lst l,x,h=>by unfold At at h ⊢;obtain⟨a,xs,e,q,h⟩:=h;exact⟨a,xs,e,S.seqL q,Bz S h⟩
 | .tup l,x,h=>by unfold At at h ⊢;obtain⟨a,xs,e,q,h⟩:=h;exact⟨a,xs,e,S.seqT q,Bz S h⟩
theorem Bz (S:Same H H'):∀ {ds:List Dt} {xs:List V},AtL K H ds xs->AtL K H' ds xs
 | [],xs,h=>by unfold AtL at h ⊢;exact h
 | d::ds,xs,h=>by unfold AtL at h ⊢;obtain⟨y,ys,e,h1,h2⟩:=h;exact⟨y,ys,e,D1 S h1,Bz S h2⟩
end
theorem Dr:∀ {ds:List Dt} {xs:List V} {i:Nat} {d:Dt},AtL K H ds xs->ds[i]? = some d -> ∃ y,xs[i]? = some y/\At K H d y
 | [],_,_,_,_,e=>by simp at e
 | c::ds,xs,0,d,h,e=>by
  unfold AtL at h
  obtain⟨y,ys,rfl,h1,h2⟩:=h
  rw [dZ] at e
  cases e
  exact⟨y,rfl,h1⟩
 | c::ds,xs,i+1,d,h,e=>by
  unfold AtL at h
  obtain⟨y,ys,rfl,h1,h2⟩:=h
  rw [cj] at e
  obtain⟨z,e1,e2⟩:=Dr h2 e
  exact⟨z,by rw [cj];exact e1,e2⟩
theorem Aw:AtL K H [] []:=by unfold AtL;rfl
theorem Al {d:Dt} {ds:List Dt} {x:V} {xs:List V} (h:At K H d x) (t:AtL K H ds xs):AtL K H (d::ds) (x::xs):=by unfold AtL;exact⟨x,xs,rfl,h,t⟩
theorem Bp:∀ {ds:List Dt} {xs:List V} {es:List Dt} {ys:List V},AtL K H ds xs->AtL K H es ys->AtL K H (ds++es) (xs++ys)
 | [],_,_,_,h,g=>by unfold AtL at h;rw [h];exact g
 | c::ds,xs,es,ys,h,g=>by
  unfold AtL at h
  obtain⟨y,zs,rfl,h1,h2⟩:=h
  exact Al h1 (Bp h2 g)
theorem Cv:∀ {n:Nat} {ds:List Dt} {xs:List V},AtL K H ds xs->AtL K H (ds.drop n) (xs.drop n)
 | 0,_,_,h=>h
 | n+1,[],_,h=>by unfold AtL at h;rw [h];exact Aw
 | n+1,c::ds,xs,h=>by
  unfold AtL at h
  obtain⟨y,zs,rfl,h1,h2⟩:=h
  show AtL K H (ds.drop n) (zs.drop n)
  exact Cv h2
noncomputable def B0 (z:Str):Dt:=.at_ (.str z)
theorem Bf {z:Str}:At K H (B0 z) (.str z):=by unfold B0 At;exact⟨rfl,rfl⟩
theorem Oy:∀ {r:List Str},AtL K H (r.map B0) (r.map V.str)
 | []=>Aw
 | _::_=>Al Bf Oy
theorem K5:∀ {r:List Str} {xs:List V},AtL K H (r.map B0) xs->xs=r.map V.str
 | [],xs,h=>by unfold ix AtL at h;exact h
 | z::r,xs,h=>by
  rw [ba] at h
  unfold AtL at h
  obtain⟨y,ys,rfl,h1,h2⟩:=h
  unfold B0 At at h1
  rw [h1.1,K5 h2]
  rfl
theorem Fq {a:Addr} {r:List Str} (h:SqT K H a (r.map V.str)):At K H (.tup (r.map B0)) (.ref a):=by unfold At;exact⟨a,_,rfl,h,Oy⟩
theorem Ea {x:V} {r:List Str} (h:At K H (.tup (r.map B0)) x):∃ a,x=.ref a/\SqT K H a (r.map V.str):=by
 unfold At at h
 obtain⟨a,xs,e,q,h⟩:=h
 rw [K5 h] at q
 exact⟨a,e,q⟩
theorem Ck {a:Addr} {ds:List Dt} {xs:List V} (h:SqT K H a xs) (g:AtL K H ds xs):At K H (.tup ds) (.ref a):=by unfold At;exact⟨a,xs,rfl,h,g⟩
theorem L9 {x:V} {ds:List Dt} (h:At K H (.tup ds) x):∃ a xs,x=.ref a/\SqT K H a xs/\AtL K H ds xs:=by unfold At at h;exact h
end
theorem Eh {α:Type} {f:α->Dt} {n:Nat} (h:∀ a,dep (f a)<=n):∀ (l:List α),B3 (l.map f)<=n
 | []=>by unfold ix B3;exact bT _
 | a::l=>by
  rw [ba]
  unfold B3
  exact Nat.max_le.mpr ⟨h a,Eh h l⟩
theorem Eg (z:Str):dep (B0 z)<=0:=by unfold B0 dep;exact ae _
noncomputable def TKeep (K:aa) (H H':Hp):Prop:=∀ a xs,SqT K H a xs->SqT K H' a xs
section
variable {K:aa} {H H':Hp}
theorem TKeep.of (S:Same H H'):TKeep K H H':=fun _ _ h=>S.seqT h
theorem TKeep.trans {H2:Hp} (h:TKeep K H H') (g:TKeep K H' H2):TKeep K H H2:=fun a xs q=>g a xs (h a xs q)
theorem TKeep.lst {l:Addr} {ys zs:List V} (h:H l=some (.lst ys)):TKeep K H (upd H l (.lst zs)):=fun a xs q=>by
 rcases q with (q|⟨o,q⟩)|q
 ·have ne:a≠l:=fun e=>by subst e;rw [h] at q;cases q
  exact .inl (.inl (by rw [Ak ne];exact q))
 ·have ne:a≠l:=fun e=>by subst e;rw [h] at q;cases q
  exact .inl (.inr ⟨o,by rw [Ak ne];exact q⟩)
 ·exact .inr q
theorem E3 {x:V} {r:List Str} (h:At K H (.tup (r.map B0)) x) (k:TKeep K H H'):At K H' (.tup (r.map B0)) x:=by
 obtain⟨a,rfl,q⟩:=Ea h
 exact Fq (k _ _ q)
theorem Fj (k:TKeep K H H'):∀ {rs:List (List Str)} {xs:List V},AtL K H (rs.map fun r=>.tup (r.map B0)) xs->AtL K H' (rs.map fun r=>.tup (r.map B0)) xs
 | [],xs,h=>by rw [fz] at h ⊢;unfold AtL at h ⊢;exact h
 | r::rs,xs,h=>by
  rw [ba] at h ⊢
  unfold AtL at h
  obtain⟨y,ys,rfl,h1,h2⟩:=h
  exact Al (E3 h1 k) (Fj k h2)
theorem Ox {J:It} {its:List V} {ok:Hp->Prop} {te:DE} {σ:St} {D:Addr} {R:Hp->Prop} {E:EK} (Y:D9 J its ok) (Sg:St->Prop) (hD:H D=none) (hok:∀ H1,Same H H1->ok H1) (hn:its.length<sizeLine) (hσ:Sg σ) (hS:∀ σ x,Sg σ->Sg (σ.set 0 (some x)))
  (he:∀ x σ H1 Q1,x∈its->Sg σ->Same H H1->(∀ H2,Same H1 H2->Q1 (.bl true) H2)->te (σ.set 0 (some x)) H1 Q1 E) (k:∀ H',Same H H'->SqL K H' D ((its.map fun _=>true).map V.bl)->R H') :
  Wu J (gdN 0) G9 te D R σ (upd H D (.lst [])) E:=by
 refine aj3 Y Sg (fun _=>true) (fun _=>.bl true) hD hok hn hσ ?_ ?_
 ·intro x σ H1 hx hs S Fin Skip hF hK
  exact he x σ H1 _ hx hs S fun H2 S2=>hF _ _ _ (hS _ _ hs) S2 rfl rfl
 ·intro H' S hD'
  exact k H' S (SqL.of (hD'.trans (by rw [List.filter_eq_self.mpr (fun _ _=>rfl),gS];rfl)))
theorem Ti (its:List V):((its.map fun _=>true).all fun b=>b)=true:=by rw [List.all_map,aR];exact fun _ _=>rfl
end
end L2
namespace L2
open PySem PySem.Spec PySem.W
structure XC (K:aa) (C:Addr) (bm:List Value):Prop where
 lk:∃ nm q N bs sn sub ab col dd k0 k1 k2 k3 k5,K.lookup C=some (cY nm q C N bs bm true sn sub ab col dd k0 k1 k2 k3 k5 "ValueError.__new__")
 ty:typeIn K (.ref C)=some (.type "type")
 sa:findIn K (.ref C) "__setattr__" = some (some (.builtin "object.__setattr__"))
 ga:findIn K (.ref C) "__getattribute__" = some (some (.builtin "BaseException.__getattribute__"))
 gt:findIn K (.ref C) "__getattr__" = some none
 ca:findIn K (.ref C) "__class__" = some (some (.builtin "object.__class__"))
 hn:specialIn K (.builtin "object.__class__") "__get__" = some (some (.builtin "getset_descriptor.__get__"))
 htk:takesIn K (.builtin "object.__class__")=some true
theorem xc_mk {K:aa} {C N:Addr} {bm bs:List Value} {nm q:Str} {sn:List Str} {sub:List Value} {ab:Bool} {col:Option Bool} {dd:Option Addr} {k0 k1 k2 k3 k5:Option Value}
  (lk:K.lookup C=some (cY nm q C N bs bm true sn sub ab col dd k0 k1 k2 k3 k5 "ValueError.__new__")) (ty:typeIn K (.ref C)=some (.type "type")) (sa:findIn K (.ref C) "__setattr__" = some (some (.builtin "object.__setattr__")))
  (ga:findIn K (.ref C) "__getattribute__" = some (some (.builtin "BaseException.__getattribute__"))) (gt:findIn K (.ref C) "__getattr__" = some none) (ca:findIn K (.ref C) "__class__" = some (some (.builtin "object.__class__")))
  (hn:specialIn K (.builtin "object.__class__") "__get__" = some (some (.builtin "getset_descriptor.__get__"))) (htk:takesIn K (.builtin "object.__class__")=some true):XC K C bm:=⟨⟨_,_,_,_,_,_,_,_,_,_,_,_,_,_,lk⟩,ty,sa,ga,gt,ca,hn,htk⟩
theorem XC.ecls {K:aa} {C:Addr} {bm:List Value} (x:XC K C bm) (h:Ax bm=true):ECls K C:=by
 obtain⟨nm,q,N,bs,sn,sub,ab,col,dd,k0,k1,k2,k3,k5,lk⟩:=x.lk
 exact⟨⟨_,_,_,_,bm,true,_,_,_,_,_,_,_,_,_,_,lk,h,rfl⟩,x.sa,x.ga,x.gt,x.ca,x.hn,x.htk⟩
theorem XC.cls {K:aa} {C:Addr} {bm:List Value} (x:XC K C bm):∃ cd,clsIn K C=some cd/\cd.mro=.ref C::bm:=by
 obtain⟨nm,q,N,bs,sn,sub,ab,col,dd,k0,k1,k2,k3,k5,lk⟩:=x.lk
 exact⟨_,by unfold clsIn;rw [lk],rfl⟩
theorem XC.kit {K:aa} {C D:Addr} {bm bd:List Value} (x:XC K C bm) (y:XC K D bd) {b:Bool} (h:(aC C::bm).contains (.ref D)=b):kitOne K (.ref C) (.ref D)=some b:=by
 obtain⟨cd,h1,h2⟩:=x.cls
 obtain⟨cd',h3,_⟩:=y.cls
 unfold kitOne
 by_cases e:(aC C==aC D)=true
 ·rw [if_pos e]
  have e':aC D=aC C:=(bG e).symm
  rw [<- h,a_,e']
  simp
 ·rw [if_neg e]
  unfold kitCls
  dsimp only
  rw [h3,y.ty,if_pos (by rfl)]
  show mroIn K C (.ref D)=_
  unfold mroIn
  rw [h1,bQ,h2,h]
  rfl
theorem B2 {K:aa} {fd:ai} {ps:List Str} {T:Addr} {o:Obj} {items:Array Value} {n:Nat} {ds:List Value} (m:Nat) (hd:fd.defaults=.ref T) (ho:K.lookup T=some o) (hs:o.data=.seq items n) (hm:m+ds.length=ps.length)
  (h:∀ us:List Value,us.length=m -> ∃ k:Option (Array Value)->Sem (List (Str×Value)),iG fd ⟨us,[]⟩=seqItems? fd.defaults >>= k/\k (some items)=pure (ps.zip (us++ds))):Binds K fd ps ds:=
 Qe hd ho hs fun us hl=>h us (by rw [aH] at hl;omega)
end L2
namespace L2
open PySem PySem.Spec PyProof.Rows
open Sem (wp)
section
variable {X:Cx} {pins:List (Addr×Obj)} {σ:St} {H:Hp} {s:ah} {a C:Addr} {dx:Option Addr} {h':Heap}
theorem Bo (X:Cx):K2 (CXE X.prog X.w) X:=by
 intro Ex m pins σ H s e s' I h
 obtain⟨a,H',rfl,os,bare,u,hok,F,a',e',hE⟩:=h
 cases e'
 have I':=I.call' os u hok bare (fun b z=>absurd z (by simp))
 obtain⟨C,dx,vs,T,oT,ts,h1,h2,h3,h4,h5,h6,h7,h8,h9,h10⟩:=F
 exact m pins σ H' s' a I' ⟨C,dx,vs,h1,h2,h3,.inr ⟨T,oT,ts,h4,h5,h6,h7,⟨_,h8⟩,I.fpOk h9 h10⟩⟩ hE
end
section
variable {P:aE} {w:bq} {K:aa} {mg:Str->Option Value} {base:Heap}
theorem V2 {N:List Str} {qual:Str} {scope:Scope} {f:Addr} {cdv:Value} {A:aT} {outer:List Env} {s:ah} {H:Hp} {E:XK} :
  Meets (Hx (CXE P w) P w K mg base N qual scope f cdv A outer s H E) (fun _ a H'=>E (.ref a) none H'):=by
 intro pins σ H1 s1 a I F hE
 refine ag (Ui (X:=Hx (CXE P w) P w K mg base N qual scope f cdv A outer s H E) I rfl rfl F fun s' I' F'=>?_)
 obtain⟨C,dx,vs,T,oT,ts,h1,h2,h3,q1,q2,q3,q4,q5,q6⟩:=F'
 exact⟨a,H1,rfl,I'.os,I'.bare,I'.base,I'.hok,⟨C,dx,vs,T,oT,ts,h1,h2,h3,q1,q2,q3,q4,q5,q6.2.2.2.1.elim (fun z=>absurd z (by simp [Hx])) id,q6.1⟩,hE⟩
noncomputable def bt8 (Q:VK) (E:XK):Hs:=⟨fun _ H'=>Q .non H',Q,fun _ _=>False,fun _ _=>False,fun _ a H'=>E (.ref a) none H'⟩
theorem FunD.okWX {x qual:Str} {st:Stmt} {f:Addr} {fd:ai} {N ps:List Str} {k n:Nat} {sp:Sp} {gb:List (Str×GB)} {bl:List Str} {t:DS} {dV:Value} (F:FunD K x qual st f fd dV) (S:Aj N ps (Aa st)) (hv:Ap N (Aa st)=true)
  (T:Tab P w K mg base k gb bl) (rd:wSs n (Au K N (Aa st) gb bl) (Ai st)=t) (len:∀ vs H Q E,sp vs H Q E->vs.length=ps.length)
  (hbody:∀ (vs:List V) (H:Hp) (Q:VK) (E:XK),sp vs H Q E->t (bt8 Q E) (Fb N vs) H):FnOk P w K mg base (CXE P w) (k+1) f fd ps sp:=by
 obtain⟨oc,od,kV,doc,pm,an,cdv,ct,osl,rfl,lk,hcd⟩:=F.ex
 refine aq6 lk hcd S len fun A outer s H vs Q E hr h=>?_
 have O:GOk (Hx (CXE P w) P w K mg base N qual (Aa st) f cdv A outer s H E) (Au K N (Aa st) gb bl):=by
  refine⟨rfl,S.kind,(fun _=>PassesOwn.leaving),rfl,S.nd,fun x=>rfl,fun x hx=>?_,fun _ _=>rfl,rfl,(fun _=>hr.hd),hr.units,fun x hx=>?_,fun x g e=>?_,fun x hx=>?_,(fun _=>⟨rfl,rfl⟩),⟨_,_,_,rfl,rfl,rfl⟩⟩
  ·have:=List.all_eq_true.mp hv x hx
   rw [cv] at this
   exact this.elim (fun z=>.inl (bG z)) fun z=>.inr (.inl (bG z))
  ·rcases hx with hx|hx
   ·exact Fr hx
   ·exact absurd rfl (S.nofree _ (bA hx))
  ·exact (T.all x g e).there hr
  ·exact T.bl x (by have hx':bl.contains x=true:=hx;simpa using hx')
 refine⟨_,(aw6 n _ _ O).2 (Ai st) (fun _ a H'=>E (.ref a) none H') V2,?_⟩
 rw [rd]
 exact hbody vs H Q E h
end
end L2
namespace L2
open PySem PySem.Spec PyProof.Rows
section
variable {P:aE} {w:bq} {K:aa} {mg:Str->Option Value} {base:Heap} {x q:Str} {st:Stmt} {f:Addr} {d:ai} {ps:List Str}
noncomputable def bs5 (K:aa) (x q:Str) (st:Stmt) (f:Addr):Prop:=∃ d,Fun K x q st f d
structure TopD (K:aa) (q:Str) (st:Stmt) (f:Addr):Prop where
 at_:aG K aB q=some (some (.ref f))
 d:bs5 K q q st f
structure MetD (K:aa) (x q:Str) (st:Stmt) (f:Addr):Prop where
 fn:bK K (.ref f)=true
 d:bs5 K x q st f
theorem top_mk {oc:Value} {od an:Option Addr} {osl:Array (Option Value)} {kV doc pm cdv ct:Value} (a:aG K aB q=some (some (.ref f))) (l:K.lookup f=some ⟨oc,od,.func (bp q q (A7 st) (Ai st) (Aa st) .none kV doc pm an cdv ct),osl⟩)
  (c:bW K cdv q=true) (k:ak K (.ref f)=true):TopD K q st f:=⟨a,_,Qt l c k⟩
theorem met_mk {oc:Value} {od an:Option Addr} {osl:Array (Option Value)} {kV doc pm cdv ct:Value} (l:K.lookup f=some ⟨oc,od,.func (bp x q (A7 st) (Ai st) (Aa st) .none kV doc pm an cdv ct),osl⟩)
  (c:bW K cdv q=true) (k:ak K (.ref f)=true) (i:bK K (.ref f)=true):MetD K x q st f:=⟨i,_,Qt l c k⟩
structure DOk (K:aa) (mg:Str->Option Value) (q:Str) (st:Stmt) (f:Addr) (d:ai) (ps:List Str):Prop where
 F:FunD K q q st f d .none
 b:Binds K d ps []
 m:mg q=some (.ref f)
structure MOk (K:aa) (x q:Str) (st:Stmt) (f:Addr) (d:ai) (ps:List Str):Prop where
 F:FunD K x q st f d .none
 b:Binds K d ps []
 i:bK K (.ref f)=true
theorem TopD.ok {h:Heap} (D:TopD K q st f) (X:K.In h) (G:h.Ns aB mg) (hb:∀ (kV doc pm:Value) (an:Option Addr) (cdv ct:Value) (us:List Value),us.length=ps.length->iG (bp q q (A7 st) (Ai st) (Aa st) .none kV doc pm an cdv ct) ⟨us,[]⟩=pure (ps.zip us)):∃ d,DOk K mg q st f d ps:=by
 obtain⟨a,d,F⟩:=D
 exact⟨d,F.toD,F.binds hb,aO X G a⟩
theorem MetD.ok (D:MetD K x q st f) (hb:∀ (kV doc pm:Value) (an:Option Addr) (cdv ct:Value) (us:List Value),us.length=ps.length->iG (bp x q (A7 st) (Ai st) (Aa st) .none kV doc pm an cdv ct) ⟨us,[]⟩=pure (ps.zip us)):∃ d,MOk K x q st f d ps:=by
 obtain⟨a,d,F⟩:=D
 exact⟨d,F.toD,F.binds hb,a⟩
theorem a50 {i:FI} (h2:i.ds=[]) (b:Binds K i.fd i.ps []):∀ j,j<=i.dfs.length->Binds K i.fd i.ps (i.ds.drop j):=fun j _=>by
 rw [h2,List.drop_nil];exact b
theorem Tab.con {k:Nat} {gb:List (Str×GB)} {bl:List Str} (T:Tab P w K mg base k gb bl) (i:FI) (g:DOk K mg q st i.f i.fd i.ps) (ok:FnOk P w K mg base CX0 i.k i.f i.fd i.ps i.sp) (hk:i.k<=k:=by exact ae _) (h1:i.dfs=[]:=by rfl) (h2:i.ds=[]:=by rfl):Tab P w K mg base k ((q,.fn i)::gb) bl:=
 T.cons ⟨g.m,g.F.kp,⟨CX0,fun X' _ _=>C7 X',ok⟩,hk,a50 h2 g.b,by rw [h1,h2];exact .nil⟩
theorem MOk.fi {k:Nat} (i:FI) (g:MOk K x q st i.f i.fd i.ps) (ok:FnOk P w K mg base CX0 i.k i.f i.fd i.ps i.sp) (hk:i.k<=k:=by exact eM rfl) (h1:i.dfs=[]:=by rfl) (h2:i.ds=[]:=by rfl):FiIn P w K mg base k i:=
 ⟨g.F.kp,⟨CX0,fun X' _ _=>C7 X',ok⟩,hk,a50 h2 g.b,by rw [h1,h2];exact .nil⟩
theorem MOk.fiE {k:Nat} (i:FI) (g:MOk K x q st i.f i.fd i.ps) (ok:FnOk P w K mg base (CXE P w) i.k i.f i.fd i.ps i.sp) (hk:i.k<=k:=by exact eM rfl) (h1:i.dfs=[]:=by rfl) (h2:i.ds=[]:=by rfl):FiIn P w K mg base k i:=
 ⟨g.F.kp,⟨CXE P w,fun X' e1 e2=>e1▸e2▸Bo X',ok⟩,hk,a50 h2 g.b,by rw [h1,h2];exact .nil⟩
theorem one {C:Addr} {i:FI} {m:Str} {k:Nat} (h:MetIn P w K mg base k m ⟨C,i⟩):∀ mi∈[(⟨C,i⟩:MI)],MetIn P w K mg base k m mi:=fun mi hm=>by
 rw [bF] at hm
 exact hm▸h
end
end L2
namespace Att
open PySem PySem.Spec PyProof.Rows PySem.W PySem.W.X
open L2 (K4 Room FnOk CXT Sp Hp V SqL ai7)
theorem Ul:∀ ns:List Int,ofPys (ns.map PyData.int)=ns.map jc
 | []=>by simp [ofPys]
 | m::ns=>by simp only [ba,ofPys,ofPy,Ul ns]
theorem bb2 (ns:List Int):WData.list (ns.map jc)=ofPy (PyData.list (ns.map PyData.int)):=by simp only [ofPy,Ul]
noncomputable def cj4 (n:Nat):Value->Bool
 | .str _ t=>decide (t<n)
 | _=>true
theorem tok_mk {K:aa} {n v:Nat} {c:Value} {d:Option Addr} {es:Array DictEntry} {sl:Array (Option Value)} (h:K.lookup aB=some ⟨c,d,.dict es v,sl⟩) (e:es.toList.all (fun x=>cj4 n x.val)=true):K4 K n:=by
 intro x y t q
 unfold nsIn at q
 rw [h] at q
 dsimp only at q
 split at q
 ·rename_i en hf
  have hm:=List.mem_of_find?_eq_some hf
  have:=List.all_eq_true.mp e en hm
  have hv:en.val=.str y t:=by injection q with q;injection q
  rw [hv] at this
  exact of_decide_eq_true this
 ·split at q
  ·cases q
  ·cases q
theorem walk_z {l:OpenLaw} {n k t:Nat} {q:aE} {loose:List Str} {XP:(Str->Option Value)->Heap->Prop} {d:DefRec} {K:aa} {w:bq} {s₀ s₁:ah} {mg mb:Str->Option Value} {CX:CXT} {sp:aa->Sp} {x:Str}
  {fa:Addr} {dV kV:Value} {args:List ju} {vals:List Value} {as:List Addr}
  (hn:l.most=some n) (hn2:n<=sizeLine) (hdf:d.params.defaults=[]) (hr:Room k iR)
  (G:Ground q loose [] XP w s₀ mg mb s₁.heap) (KX:K.In s₁.heap) (hD:Dflts mg s₁.heap d.params [] dV kV) (hmg:mg d.name=some (.ref fa)) (hg:s₁.gens = #[])
  (L:PySem.W.Laid l.row.toRowW.records w s₀ s₁ args vals as) (hpre:l.row.toRowW.claim.pre args=true) (hwl:WellAll w.params s₁.heap vals args) (ZT:s₀.toks=t) (tk:K4 K t)
  (F:∃ fd:ai,(∀ (s:ah) (u:Value),iP s fd ⟨[u],[]⟩ [(x,u)]) /\ ∀ base:Heap,K.In base->base.Ns aB mg->FnOk l.prog w K mg base CX k fa fd [x] (sp K))
  (hsp:∀ (H:Hp) (a:Addr) (ns:List Int),ns.length<=n->ai7 H->SqL K H a (ns.map V.int)->sp K [.ref a] H (fun v _=>v=.bl true) fun _ _ _=>False)
  (hCX:∀ (H:Hp) (s:ah) (e:Value) (s':ah),CX [] H s (fun _ _ _=>False) e s'->False) :
  aI (model l.row.toRowW.prog w) iR (PySem.call (.ref fa) vals) (fun v s'=>GoodWG l.row.toRowW.claim (classAt s₀.heap) (ExcName.means s₀.heap) args s₁ (.ok (.ret v)) s')
   (fun e s'=>GoodWG l.row.toRowW.claim (classAt s₀.heap) (ExcName.means s₀.heap) args s₁ (.error e) s') s₁:=by
 obtain⟨a,vs,ns,rfl,rfl,hobj,hints,hlen⟩:=Wj hn hpre hwl
 rw [bb2] at L
 have htk:t<=s₁.toks:=script_toks L ZT
 obtain⟨fd,hb,hF⟩:=F
 refine enter_call (eO (L2.law_call KX G.T.g G.T.b G.T.builtins (fun x y u e=>av (tk x y u e) htk) G.T.nolimit hg hobj hints (aD hlen hn2) hr hF hb (fun H hO hS=>hsp H a ns hlen hO hS) fun H e s'=>hCX H s₁ e s') fun r s' z=>?_)
 obtain⟨rfl,h2,h3,h4⟩:=z
 exact⟨.inl ⟨.bool true,.bool true,[],rfl,fun _=>rfl,.bool true,Wc l _,fun _=>⟨List.Pairwise.nil,fun _ hm=>(nomatch hm)⟩⟩,h2,h3,h4⟩
end Att
noncomputable def PySem.W.Fast.tw1023162058542328758:Unit:=()
noncomputable def PySem.W.Fast.tw10339211076149631312:Unit:=()
noncomputable def PySem.W.Fast.tw10450737779744194326:Unit:=()
noncomputable def PySem.W.Fast.tw10585306189798322810:Unit:=()
noncomputable def PySem.W.Fast.tw10606760723130238381:Unit:=()
noncomputable def PySem.W.Fast.tw10788780880107310492:Unit:=()
noncomputable def PySem.W.Fast.tw12370409750662449270:Unit:=()
noncomputable def PySem.W.Fast.tw12410243717369035983:Unit:=()
noncomputable def PySem.W.Fast.tw12746002488686571580:Unit:=()
noncomputable def PySem.W.Fast.tw1275120069821964800:Unit:=()
noncomputable def PySem.W.Fast.tw13000211348519506047:Unit:=()
noncomputable def PySem.W.Fast.tw13201726260716606750:Unit:=()
noncomputable def PySem.W.Fast.tw14012573289396883093:Unit:=()
noncomputable def PySem.W.Fast.tw14793587440857846221:Unit:=()
noncomputable def PySem.W.Fast.tw1495715485820285037:Unit:=()
noncomputable def PySem.W.Fast.tw15407411512504505843:Unit:=()
noncomputable def PySem.W.Fast.tw16185205964085314525:Unit:=()
noncomputable def PySem.W.Fast.tw17034111251233092547:Unit:=()
noncomputable def PySem.W.Fast.tw17157996782475110081:Unit:=()
noncomputable def PySem.W.Fast.tw18140995967602691145:Unit:=()
noncomputable def PySem.W.Fast.tw18161626033245487231:Unit:=()
noncomputable def PySem.W.Fast.tw2339055245408449013:Unit:=()
noncomputable def PySem.W.Fast.tw2500235235443557353:Unit:=()
noncomputable def PySem.W.Fast.tw2735364266034992489:Unit:=()
noncomputable def PySem.W.Fast.tw3640676980134764238:Unit:=()
noncomputable def PySem.W.Fast.tw3722776675596679395:Unit:=()
noncomputable def PySem.W.Fast.tw4744821389373340170:Unit:=()
noncomputable def PySem.W.Fast.tw5134666316158051831:Unit:=()
noncomputable def PySem.W.Fast.tw5824104838188101955:Unit:=()
noncomputable def PySem.W.Fast.tw6336588032174204514:Unit:=()
noncomputable def PySem.W.Fast.tw6405571778445442693:Unit:=()
noncomputable def PySem.W.Fast.tw7881583824502016189:Unit:=()
noncomputable def PySem.W.Fast.tw7925765756272707216:Unit:=()
noncomputable def PySem.W.Fast.tw8275773348227278728:Unit:=()
noncomputable def PySem.W.Fast.tw9744256222884386152:Unit:=()
noncomputable def PySem.W.Fast.tw9786005184293642962:Unit:=()
noncomputable def PySem.W.Fast.tw16211308532178635059 : Unit := ()
noncomputable def PySem.W.Fast.tw5683051144793533906 : Unit := ()
noncomputable def PySem.W.Fast.tw5675918648781838993 : Unit := ()
noncomputable def PySem.W.Fast.tw13424511889537174 : Unit := ()
noncomputable def PySem.W.Fast.tw12870042244781032121 : Unit := ()
noncomputable def PySem.W.Fast.tw7962153495113549131 : Unit := ()
noncomputable def PySem.W.Fast.tw1903730158430403893 : Unit := ()
noncomputable def PySem.W.Fast.tw17911446233778233085 : Unit := ()
noncomputable def PySem.W.Fast.tw4013497974643300222 : Unit := ()
noncomputable def PySem.W.Fast.tw1914189678417857521 : Unit := ()
noncomputable def PySem.W.Fast.tw10329132188396567221 : Unit := ()
noncomputable def PySem.W.Fast.tw6014978594914868805 : Unit := ()
noncomputable def PySem.W.Fast.tw6546684730252373501 : Unit := ()
noncomputable def PySem.W.Fast.tw13900700496061348910 : Unit := ()
noncomputable def PySem.W.Fast.tw16414584938750008005 : Unit := ()
noncomputable def PySem.W.Fast.tw2798737181369613453 : Unit := ()
noncomputable def PySem.W.Fast.tw9333734116290956069 : Unit := ()
noncomputable def PySem.W.Fast.tw3151324493695852016 : Unit := ()
noncomputable def PySem.W.Fast.tw10694066213030182497 : Unit := ()
noncomputable def PySem.W.Fast.tw3420104931648163873 : Unit := ()
noncomputable def PySem.W.Fast.tw7327388206226313495 : Unit := ()
noncomputable def PySem.W.Fast.tw9655692602405709394 : Unit := ()
noncomputable def PySem.W.Fast.tw2577545603616400743 : Unit := ()
noncomputable def PySem.W.Fast.tw4753603117782544513 : Unit := ()
noncomputable def PySem.W.Fast.tw2615248500513290162 : Unit := ()
noncomputable def PySem.W.Fast.tw5827630183493322340 : Unit := ()
noncomputable def PySem.W.Fast.tw3081144717597421892 : Unit := ()
noncomputable def PySem.W.Fast.tw12984606172068268852 : Unit := ()
noncomputable def PySem.W.Fast.tw11516197736030058892 : Unit := ()
noncomputable def PySem.W.Fast.tw17985324288629178219 : Unit := ()
noncomputable def PySem.W.Fast.tw1627989390440347216 : Unit := ()
noncomputable def PySem.W.Fast.tw11187643449723159109 : Unit := ()
noncomputable def PySem.W.Fast.tw7151755326793797858 : Unit := ()
noncomputable def PySem.W.Fast.tw431009041426520291 : Unit := ()
noncomputable def PySem.W.Fast.tw16919161497276799629 : Unit := ()
noncomputable def PySem.W.Fast.tw2502354480765876274 : Unit := ()
noncomputable def PySem.W.Fast.tw2151540597204531828 : Unit := ()
noncomputable def PySem.W.Fast.tw8443859035257009638 : Unit := ()
noncomputable def PySem.W.Fast.tw8751982138698947545 : Unit := ()
noncomputable def PySem.W.Fast.tw13684574008278549575 : Unit := ()
noncomputable def PySem.W.Fast.tw11938700739757733164 : Unit := ()
noncomputable def PySem.W.Fast.tw7025146843083792696 : Unit := ()
noncomputable def PySem.W.Fast.tw17152997371996330615 : Unit := ()
noncomputable def PySem.W.Fast.tw13752407925568862397 : Unit := ()
noncomputable def PySem.W.Fast.tw7047490103119355971 : Unit := ()
noncomputable def PySem.W.Fast.tw3266913052806730854 : Unit := ()
noncomputable def PySem.W.Fast.tw4044739547077412768 : Unit := ()
noncomputable def PySem.W.Fast.tw11184266827906655353 : Unit := ()
noncomputable def PySem.W.Fast.tw9382855622850414057 : Unit := ()
noncomputable def PySem.W.Fast.tw10950211305780652227 : Unit := ()
noncomputable def PySem.W.Fast.tw7380954588568516912 : Unit := ()
noncomputable def PySem.W.Fast.tw16568239266887544226 : Unit := ()
noncomputable def PySem.W.Fast.tw10319089701656948724 : Unit := ()
namespace K24
open PySem L2
set_option genInjectivity false in
set_option genSizeOfSpec false in
structure Adr where
 f_zaj:Addr
 d_zaj:ai
 f_zat:Addr
 d_zat:ai
 f_zaq:Addr
 d_zaq:ai
 f_zq:Addr
 d_zq:ai
 f_zal:Addr
 d_zal:ai
 f_zah:Addr
 d_zah:ai
 f_zap:Addr
 d_zap:ai
 f_zab:Addr
 d_zab:ai
 f_zad:Addr
 d_zad:ai
 f_zaz:Addr
 d_zaz:ai
 f_zan:Addr
 d_zan:ai
 f_zbc:Addr
 d_zbc:ai
 f_zax:Addr
 d_zax:ai
 f_zaw:Addr
 d_zaw:ai
 f_zba:Addr
 d_zba:ai
 f_zam:Addr
 d_zam:ai
 f_zy:Addr
 d_zy:ai
 f_zbh:Addr
 d_zbh:ai
 f_zav:Addr
 d_zav:ai
 f_zau:Addr
 d_zau:ai
 f_zx:Addr
 d_zx:ai
 f_zbf:Addr
 d_zbf:ai
 f_zbk:Addr
 d_zbk:ai
 f_zt:Addr
 d_zt:ai
 f_zw:Addr
 d_zw:ai
 f_zak:Addr
 d_zak:ai
 f_zay:Addr
 d_zay:ai
 f_zbg:Addr
 d_zbg:ai
 f_zag:Addr
 d_zag:ai
 f_zr:Addr
 d_zr:ai
 f_zao:Addr
 d_zao:ai
 f_zai:Addr
 d_zai:ai
 f_zbl:Addr
 d_zbl:ai
 f_zaa:Addr
 d_zaa:ai
 f_zac:Addr
 d_zac:ai
 f_zbb:Addr
 d_zbb:ai
 f_zz:Addr
 d_zz:ai
 f_zbi:Addr
 d_zbi:ai
 f_zp:Addr
 d_zp:ai
 f_zas:Addr
 d_zas:ai
 f_zaf:Addr
 d_zaf:ai
 f_zu:Addr
 d_zu:ai
 f_zg:Addr
 d_zg:ai
 f_zn:Addr
 d_zn:ai
 f_zh:Addr
 d_zh:ai
 f_zb:Addr
 d_zb:ai
 f_zj:Addr
 d_zj:ai
 f_zc:Addr
 d_zc:ai
 f_zd:Addr
 d_zd:ai
 f_za:Addr
 d_za:ai
 f_zar:Addr
 d_zar:ai
 f_zs:Addr
 d_zs:ai
 f_zl:Addr
 d_zl:ai
 f_zk:Addr
 d_zk:ai
 f_zv:Addr
 d_zv:ai
 f_zbj:Addr
 d_zbj:ai
 f_zm:Addr
 d_zm:ai
 f_zo:Addr
 d_zo:ai
 f_ze:Addr
 d_ze:ai
 f_zf:Addr
 d_zf:ai
 f_zi:Addr
 d_zi:ai
 f_zbe:Addr
 d_zbe:ai
 f_zbd:Addr
 d_zbd:ai
 f_zae:Addr
 d_zae:ai
 f_zbm:Addr
 d_zbm:ai
 f_zbn:Addr
 d_zbn:ai
 dv_zp:Value
 du_zp:List Value
 dv_zar:Value
 du_zar:List Value
 dv_zbe:Value
 du_zbe:List Value
 c_zbt:Addr
 c_zbw:Addr
 c_zbs:Addr
 c_zca:Addr
 c_zbv:Addr
 c_zcf:Addr
 c_zbx:Addr
 c_zcc:Addr
 c_zcd:Addr
 c_zcb:Addr
 c_zce:Addr
 c_zby:Addr
 c_zbz:Addr
 c_Edit:Addr
 c_PartEdit:Addr
 c_TextEdit:Addr
 c_TableEdit:Addr
 u_zbo:Value
 u_zbp:Value
 u_zbq:Value
 u_zbu:Value
 u_zbr:Value
 u_zcg:Value
end K24
set_option maxHeartbeats 4000000
namespace K24
open PySem L2
noncomputable def Ge (c:Nat):Bool:=(decide (32<=c)&&decide (c<=126))&&c != 37
noncomputable def Uh (c:Nat):Bool:=(decide (97<=c)&&decide (c<=122))||((decide (48<=c)&&decide (c<=57))||c==46)
noncomputable def wfS (z:Str):Prop:=z.length<=60/\z.cps.toList.all Ge=true
noncomputable abbrev Tb:=List (List Str)
noncomputable def wfR (m:Nat) (r:List Str):Prop:=r.length=m /\ ∀ z∈r,wfS z
noncomputable def wfT (t:Tb):Prop:=1<=t.length/\t.length<=6 /\ ∃ m,1<=m/\m<=6 /\ ∀ r∈t,wfR m r
inductive Ct where
 | txt (z:Str)
 | tab (t:Tb)
 deriving DecidableEq
noncomputable def Dz (r:List Str):Dt:=.tup (r.map B0)
noncomputable def Kl (t:Tb):Dt:=.tup (t.map Dz)
noncomputable def ctD:Ct->Dt
 | .txt z=>B0 z
 | .tab t=>Kl t
noncomputable def Ct.wf:Ct->Prop
 | .txt z=>wfS z
 | .tab t=>wfT t
noncomputable def D4:Ct->Bool
 | .txt _=>false
 | .tab _=>true
noncomputable def Gq (i:Int):Dt:=.at_ (.int i)
structure Rc where
 kd:Str
 pr:Str
 rk:Int
 ct:Ct
noncomputable def rcD (r:Rc):Dt:=.tup [B0 r.kd,B0 r.pr,Gq r.rk,ctD r.ct]
noncomputable def Rc.ok (r:Rc):Prop:=r.ct.wf/\decide (r.kd = "table")=D4 r.ct
noncomputable abbrev Rs:=List Rc
noncomputable def Ok (S:Rs):Prop:=S.length=3 /\ ∀ r∈S,r.ok
noncomputable def nms:List Str:=["a", "a.b", "t"]
noncomputable def nm (i:Nat):Str:=nms.getD i "ab"
noncomputable def kv3 (vs:List V):List (Key×V):=(nms.map fh).zip vs
noncomputable def RsAt (K:aa) (H:Hp) (d:Addr) (S:Rs):Prop:=∃ vs,H d=some (.dK (kv3 vs))/\AtL K H (S.map rcD) vs
noncomputable def PlAt (K:aa) (t:Adr) (H:Hp) (p d:Addr) (S:Rs):Prop:=(∃ dx,H p=some (.ins t.c_zcc dx [("records", .ref d)]))/\RsAt K H d S
noncomputable def But (d:Addr) (H H':Hp):Prop:=∀ b o,b≠d->H b=some o->H' b=some o
inductive Ed where
 | write (z:Str)
 | splice (p n:Nat) (z:Str)
 | cell (r c:Nat) (z:Str)
 | addrow (p:Nat) (r:List Str)
 | cutrow (p:Nat)
noncomputable def big:Nat:=1000000000
noncomputable def Ed.ok:Ed->Prop
 | .write z=>wfS z
 | .splice p n z=>p<=big/\n<=big/\wfS z
 | .cell r c z=>r<=big/\c<=big/\wfS z
 | .addrow p r=>p<=big/\1<=r.length/\r.length<=6 /\ ∀ z∈r,wfS z
 | .cutrow p=>p<=big
noncomputable def edK:Ed->Nat
 | .write _=>0
 | .splice _ _ _=>1
 | .cell _ _ _=>2
 | .addrow _ _=>3
 | .cutrow _=>4
noncomputable def Bs (e:Ed):Bool:=decide (2<=edK e)
noncomputable def edC (t:Adr):Ed->Addr
 | .write _=>t.c_zcd
 | .splice _ _ _=>t.c_zcb
 | .cell _ _ _=>t.c_zce
 | .addrow _ _=>t.c_zby
 | .cutrow _=>t.c_zbz
noncomputable def edW:Ed->Str
 | .write _ => "write"
 | .splice _ _ _ => "splice"
 | .cell _ _ _ => "cell"
 | .addrow _ _ => "addrow"
 | .cutrow _ => "cutrow"
noncomputable abbrev nI (n:Nat):V:=.int n
noncomputable def edA (x:V):Ed->List V
 | .write z=>[.str z]
 | .splice p n z=>[nI p,nI n,.str z]
 | .cell r c z=>[nI r,nI c,.str z]
 | .addrow p _=>[nI p,x]
 | .cutrow p=>[nI p]
noncomputable def edN:Ed->List Str
 | .write _=>["text"]
 | .splice _ _ _=>["at", "size", "text"]
 | .cell _ _ _=>["row", "column", "text"]
 | .addrow _ _=>["at", "cells"]
 | .cutrow _=>["at"]
noncomputable def edF (i:Nat) (x:V) (e:Ed):List (Str×V):=("part", .str (nm i))::(edN e).zip (edA x e)
noncomputable def edX (K:aa) (H:Hp) (x:V):Ed->Prop
 | .addrow _ r=>At K H (Dz r) x
 | _=>True
noncomputable def EdAt (K:aa) (t:Adr) (H:Hp) (i:Nat) (e:Ed) (a:Addr):Prop:=∃ dx x,H a=some (.ins (edC t e) dx (edF i x e))/\edX K H x e
noncomputable def TdAt (K:aa) (H:Hp) (i:Nat) (e:Ed) (p:Addr):Prop:=∃ x,SqT K H p (.str (edW e)::.str (nm i)::edA x e)/\edX K H x e
inductive Due where
 | noPart|wrong|far|long
 | good (c:Ct)
noncomputable def spl (p n:Nat) (z o:Str):Str:=d_ o none (some (p:Int))++z++d_ o (some ((p:Int)+(n:Int))) none
noncomputable def wid (t:Tb):Nat:=(t.headD []).length
noncomputable def Z9:Ed->Str->Option Str
 | .splice p n z,o=>if o.length<p+n then none else some (spl p n z o)
 | .write z,_=>some z
 | _,_=>none
noncomputable def Kx:Ed->Tb->Option Tb
 | .cell r c z,t=>if t.length<=r\/wid t<=c then none else some (t.set r ((t.getD r []).set c z))
 | .addrow p r,t=>if t.length<p\/r.length≠wid t then none else some (t.take p++r::t.drop p)
 | .cutrow p,t=>if t.length<=p\/t.length=1 then none else some (t.take p++t.drop (p+1))
 | _,_=>none
noncomputable def Qp:Option Str->Due
 | none=>.far
 | some z=>if 60<z.length then .long else .good (.txt z)
noncomputable def Mo:Option Tb->Due
 | none=>.far
 | some t=>if 6<t.length then .long else .good (.tab t)
noncomputable def De (e:Ed):Ct->Due
 | .txt o=>if Bs e=true then .wrong else Qp (Z9 e o)
 | .tab t=>if Bs e=true then Mo (Kx e t) else .wrong
noncomputable def A3 (S:Rs) (i:Nat) (e:Ed):Due:=match S[i]? with
 | none=>.noPart
 | some r=>De e r.ct
noncomputable def upS (S:Rs) (i:Nat):Due->Rs
 | .good c=>S.modify i fun r=>{ r with ct:=c }
 | _=>S
noncomputable def D8:Due->Str
 | .noPart => "no part"
 | .wrong => "wrong kind"
 | .far => "far"
 | .long => "long"
 | .good _ => "good"
noncomputable def D3:Due->Option Nat
 | .noPart=>some 0
 | .wrong=>some 1
 | .far=>some 2
 | .long=>some 3
 | .good _=>none
noncomputable def Y7 (t:Adr):List Addr:=[t.c_zcd,t.c_zcb,t.c_zce,t.c_zby,t.c_zbz]
noncomputable def O0 (t:Adr):List Addr:=[t.c_zca,t.c_zbv,t.c_zcf,t.c_zbx]
noncomputable def Qr:List Str:=["part", "text", "at", "size", "row", "column", "cells"]
structure Facts (K:aa) (t:Adr):Prop where
 pl:Cls K t.c_zcc
 plr:NoAttr K t.c_zcc "records"
 ed:∀ C∈Y7 t,Cls K C/\(ac K (.ref C) "__class__" = some (some (.builtin "object.__class__"))/\aV K C (.type "object")=some true/\aV K C (.ref t.c_Edit)=some true) /\ ∀ f∈Qr,NoAttr K C f
 hn:cr K (.builtin "object.__class__") "__get__" = some (some (.builtin "getset_descriptor.__get__"))
 htk:gZ K (.builtin "object.__class__")=some true
 ty:h_ K (.ref t.c_Edit)=some (.type "type")
 mr:aV K t.c_Edit (.ref t.c_Edit)=some true
 bx:∀ (i:Nat) C,(O0 t)[i]? = some C->ECls K C/\NoAttr K C "part" /\ NoAttr K C "choice" /\ aV K C (.ref t.c_zbs)=some true /\ ∀ (j:Nat) D,(O0 t)[j]? = some D->ce K (.ref C) (.ref D)=some (decide (j=i))
noncomputable def bs7 (H:Hp) (a C:Addr) (i:Nat) (ch:V):Prop:=∃ dx,dx≠a/\H a=some (flO a C (some dx))/\H dx=some (xdO dx [("part", .str (nm i)),("choice", ch)])
noncomputable def Bad (t:Adr) (H:Hp) (d:Due) (i:Nat) (ch:V) (E:XK):Prop:=∀ (n:Nat) C,D3 d=some n->(O0 t)[n]? = some C -> ∀ H' a,Same H H'->bs7 H' a C i ch->E (.ref a) none H'
noncomputable def NeedO (t:Adr) (H:Hp) (d:Due) (i:Nat) (ch:V) (Q:VK) (E:XK):Prop:=(D3 d=none -> ∀ H',Same H H'->Q .non H')/\Bad t H d i ch E
noncomputable def He (d:Due) (i:Nat) (ch:V):List V:=match D3 d with
 | none=>[.str "good", .non,.non]
 | some _=>[.str (D8 d),.str (nm i),ch]
noncomputable def aw9 (K:aa) (H:Hp) (d:Due) (q:Addr):Prop:=∃ x,SqT K H q [.str (D8 d),x]/\match d with
 | .good c=>At K H (ctD c) x
 | _=>x=.str ""
section
noncomputable def Ng (K:aa) (t:Adr):Sp:=fun vs H Q _=>∃ (z:Str) (a b:Nat),vs=[.str z,.int a,.int b]/\a<=z.length/\z.length<=b/\b<=60/\Q (.bl true) H
noncomputable def ah3 (K:aa) (t:Adr):Sp:=fun vs H Q _=>∃ c,vs=[.str ⟨#[c]⟩]/\Ge c=true/\Q (.bl true) H
noncomputable def G0 (K:aa) (t:Adr):Sp:=fun vs H Q _=>∃ z,vs=[.str z]/\wfS z /\ ∀ H',Same H H'->Q (.bl true) H'
noncomputable def Sm (K:aa) (t:Adr):Sp:=fun vs H Q _=>∃ c,vs=[.str ⟨#[c]⟩]/\Q (.bl (decide (97<=c)&&decide (c<=122))) H
noncomputable def Sl (K:aa) (t:Adr):Sp:=fun vs H Q _=>∃ c,vs=[.str ⟨#[c]⟩]/\Q (.bl (decide (48<=c)&&decide (c<=57))) H
noncomputable def ah2 (K:aa) (t:Adr):Sp:=fun vs H Q _=>∃ c,vs=[.str ⟨#[c]⟩]/\Uh c=true/\Q (.bl true) H
noncomputable def Ss (K:aa) (t:Adr):Sp:=fun vs H Q _=>∃ i,vs=[.str (nm i)] /\ ∀ H',Same H H'->Q (.bl true) H'
noncomputable def Ew (K:aa) (t:Adr):Sp:=fun vs H Q _=>vs=[.bl true]/\Q .non H
noncomputable def So (K:aa) (t:Adr):Sp:=fun vs H Q _=>∃ n:Nat,vs=[nI n]/\Q (.bl true) H
noncomputable def Ev (K:aa) (t:Adr):Sp:=fun vs H Q _=>∃ n:Nat,vs=[nI n]/\n<=big/\Q (.bl true) H
noncomputable def Sk (K:aa) (t:Adr):Sp:=fun vs H Q _=>∃ a xs,vs=[.ref a,.int 6]/\SqT K H a xs/\1<=xs.length/\xs.length<=6/\Q (.bl true) H
noncomputable def Sv (K:aa) (t:Adr):Sp:=fun vs H Q _=>∃ x r,vs=[x]/\At K H (Dz r) x/\1<=r.length/\r.length<=6/\(∀ z∈r,wfS z) /\ ∀ H',Same H H'->Q (.bl true) H'
noncomputable def Kk (K:aa) (t:Adr):Sp:=fun vs H Q _=>∃ (a C dx:Addr) (i:Nat),vs=[.ref a,.str (nm i)]/\H a=some (.ins C dx [])/\C∈Y7 t /\ ∀ H',Same H H'->Q .non (upd H' a (.ins C dx [("part", .str (nm i))]))
noncomputable def U3 (K:aa) (t:Adr):Sp:=Kk K t
noncomputable def U4 (K:aa) (t:Adr):Sp:=Kk K t
noncomputable def P8 (K:aa) (t:Adr):Sp:=Kk K t
noncomputable def Es (k:Nat) (K:aa) (t:Adr):Sp:=fun vs H Q _=>∃ (a dx:Addr) (i:Nat) (e:Ed) (x:V),edK e=k/\vs=.ref a::.str (nm i)::edA x e/\H a=some (.ins (edC t e) dx [])/\e.ok/\edX K H x e /\ ∀ H',Same H H'->Q .non (upd H' a (.ins (edC t e) dx (edF i x e)))
noncomputable def ag3 (K:aa) (t:Adr):Sp:=Es 0 K t
noncomputable def ag0 (K:aa) (t:Adr):Sp:=Es 1 K t
noncomputable def ag5 (K:aa) (t:Adr):Sp:=Es 2 K t
noncomputable def af4 (K:aa) (t:Adr):Sp:=Es 3 K t
noncomputable def af6 (K:aa) (t:Adr):Sp:=Es 4 K t
noncomputable def Sr (K:aa) (t:Adr):Sp:=fun vs H Q _=>∃ (p:Addr) (i:Nat) (e:Ed),vs=[.ref p]/\TdAt K H i e p/\e.ok /\ ∀ H' a,Same H H'->EdAt K t H' i e a->Q (.ref a) H'
noncomputable def Gc (k:Nat) (K:aa) (t:Adr):Sp:=fun vs H Q _=>∃ (a:Addr) (i:Nat) (e:Ed),vs=[.ref a]/\edK e=k/\EdAt K t H i e a /\ ∀ H' p,Same H H'->TdAt K H' i e p->Q (.ref p) H'
noncomputable def ag4 (K:aa) (t:Adr):Sp:=Gc 0 K t
noncomputable def ag1 (K:aa) (t:Adr):Sp:=Gc 1 K t
noncomputable def ag6 (K:aa) (t:Adr):Sp:=Gc 2 K t
noncomputable def af5 (K:aa) (t:Adr):Sp:=Gc 3 K t
noncomputable def af7 (K:aa) (t:Adr):Sp:=Gc 4 K t
noncomputable def av7 (K:aa) (t:Adr):Sp:=fun vs H Q _=>∃ (a:Addr) (i:Nat) (e:Ed),vs=[.ref a]/\EdAt K t H i e a/\Q (.str (nm i)) H
noncomputable def ag7 (K:aa) (t:Adr):Sp:=fun vs H Q _=>∃ s,vs=[s]/\Q .non H
noncomputable def av6 (K:aa) (t:Adr):Sp:=fun vs H Q _=>∃ (H0:Hp) (a C:Addr) (x y:V),vs=[.ref a,x,y]/\H0 a=none/\H=upd H0 a (D6 a C none)/\ECls K C/\NoAttr K C "part" /\ NoAttr K C "choice" /\ ∀ H' dx,Same H0 H'->dx≠a->H' a=some (D6 a C (some dx))->H' dx=some (xdO dx [("part", x),("choice", y)])->Q .non H'
noncomputable def ag2 (K:aa) (t:Adr):Sp:=fun vs H Q _=>∃ (a dx:Addr),vs=[.ref a]/\H a=some (.ins t.c_zcc dx []) /\ ∀ d,H d=none->Q .non (upd (upd H d (.dK [])) a (.ins t.c_zcc dx [("records", .ref d)]))
noncomputable def ag9 (K:aa) (t:Adr):Sp:=fun vs H Q _=>∃ (p d:Addr) (S:Rs) (i:Nat),vs=[.ref p,.str (nm i)]/\PlAt K t H p d S/\Ok S/\Q (.bl (decide (i<3))) H
noncomputable def af9 (K:aa) (t:Adr):Sp:=fun vs H Q _=>∃ (p d:Addr) (S:Rs) (i:Nat) (r:Rc),vs=[.ref p,.str (nm i)]/\PlAt K t H p d S/\Ok S/\S[i]? = some r /\ ∀ x,At K H (rcD r) x->Q x H
noncomputable def af3 (f:Rc->V) (K:aa) (t:Adr):Sp:=fun vs H Q _=>∃ (p d:Addr) (S:Rs) (i:Nat) (r:Rc),vs=[.ref p,.str (nm i)]/\PlAt K t H p d S/\Ok S/\S[i]? = some r/\Q (f r) H
noncomputable def av9 (K:aa) (t:Adr):Sp:=af3 (fun r=>.str r.kd) K t
noncomputable def av1 (K:aa) (t:Adr):Sp:=af3 (fun r=>.str r.pr) K t
noncomputable def aw0 (K:aa) (t:Adr):Sp:=af3 (fun r=>.int r.rk) K t
noncomputable def au7 (K:aa) (t:Adr):Sp:=fun vs H Q _=>∃ (p d:Addr) (S:Rs) (i:Nat) (r:Rc),vs=[.ref p,.str (nm i)]/\PlAt K t H p d S/\Ok S/\S[i]? = some r /\ ∀ x,At K H (ctD r.ct) x->Q x H
noncomputable def af8 (K:aa) (t:Adr):Sp:=fun vs H Q _=>∃ (p d:Addr) (S:Rs),vs=[.ref p]/\PlAt K t H p d S/\Ok S /\ ∀ l,H l=none->Q (.ref l) (upd H l (.lst (nms.map V.str)))
noncomputable def ah0 (K:aa) (t:Adr):Sp:=fun vs H Q _=>∃ (p dx d:Addr) (kvs:List (Key×V)) (z:Str) (a b c x:V),vs=[.ref p,.str z,a,b,c,x]/\H p=some (.ins t.c_zcc dx [("records", .ref d)])/\H d=some (.dK kvs)/\kvs.length<100 /\
 ∀ q,H q=none->Q .non (upd (upd H q (.tup [a,b,c,x])) d (.dK (B8 kvs (.inr z) (.ref q))))
noncomputable def Et (k:Nat) (K:aa) (t:Adr):Sp:=fun vs H Q E=>∃ (a:Addr) (i:Nat) (e:Ed) (c:Ct) (x ch:V),vs=[.ref a,x,ch]/\edK e=k/\EdAt K t H i e a/\e.ok/\At K H (ctD c) x/\c.wf/\D4 c=Bs e/\NeedO t H (De e c) i ch Q E
noncomputable def av4 (K:aa) (t:Adr):Sp:=Et 0 K t
noncomputable def au8 (K:aa) (t:Adr):Sp:=Et 1 K t
noncomputable def av0 (K:aa) (t:Adr):Sp:=Et 2 K t
noncomputable def au3 (K:aa) (t:Adr):Sp:=Et 3 K t
noncomputable def au4 (K:aa) (t:Adr):Sp:=Et 4 K t
noncomputable def U1 (tab:Bool) (K:aa) (t:Adr):Sp:=fun vs H Q E=>∃ (a p d:Addr) (S:Rs) (i:Nat) (e:Ed) (r:Rc) (ch:V),vs=[.ref a,.ref p,ch]/\Bs e=tab/\EdAt K t H i e a/\e.ok/\PlAt K t H p d S/\Ok S/\S[i]? = some r/\NeedO t H (De e r.ct) i ch Q E
noncomputable def au2 (K:aa) (t:Adr):Sp:=U1 false K t
noncomputable def au1 (K:aa) (t:Adr):Sp:=U1 true K t
noncomputable def ag8 (K:aa) (t:Adr):Sp:=fun vs H Q E=>∃ (a p d:Addr) (S:Rs) (i:Nat) (e:Ed) (ch:V),vs=[.ref a,.ref p,ch]/\EdAt K t H i e a/\e.ok/\PlAt K t H p d S/\Ok S/\NeedO t H (A3 S i e) i ch Q E
noncomputable def Gb (k:Nat) (K:aa) (t:Adr):Sp:=fun vs H Q _=>∃ (a:Addr) (i:Nat) (e:Ed) (c c':Ct) (x:V),vs=[.ref a,x]/\edK e=k/\EdAt K t H i e a/\e.ok/\At K H (ctD c) x/\c.wf/\De e c=.good c' /\ ∀ H' y,Same H H'->At K H' (ctD c') y->Q y H'
noncomputable def av8 (K:aa) (t:Adr):Sp:=Gb 0 K t
noncomputable def av2 (K:aa) (t:Adr):Sp:=Gb 1 K t
noncomputable def av5 (K:aa) (t:Adr):Sp:=Gb 2 K t
noncomputable def au5 (K:aa) (t:Adr):Sp:=Gb 3 K t
noncomputable def au6 (K:aa) (t:Adr):Sp:=Gb 4 K t
noncomputable def G1 (K:aa) (t:Adr):Sp:=fun vs H Q _=>∃ (p d:Addr) (S:Rs) (i:Nat) (c:Ct) (x:V),vs=[.ref p,.str (nm i),x]/\PlAt K t H p d S/\Ok S/\i<3/\At K H (ctD c) x /\ ∀ H',But d H H'->RsAt K H' d (upS S i (.good c))->Q .non H'
noncomputable def Lw (tab:Bool) (K:aa) (t:Adr):Sp:=fun vs H Q _=>∃ (a p d:Addr) (S:Rs) (i:Nat) (e:Ed) (r:Rc) (c:Ct),vs=[.ref a,.ref p]/\Bs e=tab/\EdAt K t H i e a/\e.ok/\PlAt K t H p d S/\Ok S/\S[i]? = some r/\De e r.ct=.good c /\ ∀ H',But d H H'->RsAt K H' d (upS S i (.good c))->Q .non H'
noncomputable def av3 (K:aa) (t:Adr):Sp:=Lw false K t
noncomputable def au9 (K:aa) (t:Adr):Sp:=Lw true K t
noncomputable def ah1 (K:aa) (t:Adr):Sp:=fun vs H Q E=>∃ (a p d:Addr) (S:Rs) (i:Nat) (e:Ed) (ch:V),vs=[.ref a,.ref p,ch]/\EdAt K t H i e a/\e.ok/\PlAt K t H p d S/\Ok S /\
 (D3 (A3 S i e)=none -> ∀ H',But d H H'->RsAt K H' d (upS S i (A3 S i e))->Q .non H')/\Bad t H (A3 S i e) i ch E
noncomputable def Eu (K:aa) (t:Adr):Sp:=fun vs H Q _=>∃ (a:Addr) (ns:List Int) (k:Nat),vs=[.ref a,.int k]/\SqL K H a (ns.map V.int) /\ ∀ r:Int,Q (.int r) H
noncomputable def Gz (K:aa) (t:Adr):Sp:=fun vs H Q _=>∃ (c:Int) (n:Nat),vs=[.int c,.int n]/\n<=100 /\ ∀ H' l (ns:List Int),Same H H'->H l=none->H' l=some (.lst (ns.map V.int))->ns.length=n->(∀ i∈ns,0<=i/\i<2147483648)->Q (.ref l) H'
noncomputable def Fm (K:aa) (t:Adr):Sp:=fun vs H Q _=>∃ c:Int,vs=[.int c] /\ ∀ z H',Same H H'->wfS z->Q (.str z) H'
noncomputable def Sn (K:aa) (t:Adr):Sp:=fun vs H Q _=>∃ c:Int,vs=[.int c] /\ ∀ c H' x,Same H H'->wfT c->At K H' (Kl c) x->Q x H'
noncomputable def Fl (K:aa) (t:Adr):Sp:=fun vs H Q _=>∃ (x:Int) (s:Nat),vs=[.int x,.int s]/\0<=x/\s<=100 /\ ∀ (n:Nat) H',Same H H'->n<=big->Q (nI n) H'
noncomputable def Sq (K:aa) (t:Adr):Sp:=fun vs H Q _=>∃ (d:Addr) (S:Rs) (c:Int),vs=[.ref d,.int c]/\RsAt K H d S/\Ok S /\ ∀ H' i e p,Same H H'->i<=3->e.ok->TdAt K H' i e p->Q (.ref p) H'
noncomputable def ah4 (K:aa) (t:Adr):Sp:=fun vs H Q _=>∃ (x:V) (p:Addr) (tb:Tb) (i:Nat) (e:Ed),vs=[x,.ref p]/\At K H (Kl tb) x/\wfT tb/\TdAt K H i e p/\e.ok/\Bs e=true/\(Kx e tb=none -> ∀ H',Same H H'->Q (.str "far") H') /\ ∀ tb',Kx e tb=some tb' -> ∀ H' y,Same H H'->At K H' (Kl tb') y->Q y H'
noncomputable def Su (K:aa) (t:Adr):Sp:=fun vs H Q _=>∃ (d p:Addr) (S:Rs) (i:Nat) (e:Ed),vs=[.ref d,.ref p]/\RsAt K H d S/\Ok S/\TdAt K H i e p/\e.ok /\ ∀ H' q,Same H H'->aw9 K H' (A3 S i e) q->Q (.ref q) H'
noncomputable def Nh (K:aa) (t:Adr):Sp:=fun vs H Q _=>∃ (a p d:Addr) (S:Rs) (i:Nat) (e:Ed) (n:Int) (b:Bool),vs=[.ref a,.ref p,.int n,.bl b]/\EdAt K t H i e a/\e.ok/\PlAt K t H p d S/\Ok S /\
 ∀ H' q,(if b=true then Same H H' else But d H H'/\RsAt K H' d (upS S i (A3 S i e)))->SqT K H' q (He (A3 S i e) i (.int n))->Q (.ref q) H'
noncomputable def Ni (K:aa) (t:Adr):Sp:=fun vs H Q _=>∃ (p d d0:Addr) (S:Rs),vs=[.ref p,.ref d0]/\PlAt K t H p d S/\RsAt K H d0 S/\Ok S /\ ∀ H',Same H H'->Q (.bl true) H'
noncomputable def Nj (K:aa) (t:Adr):Sp:=fun vs H Q _=>∃ (a:Addr) (ns:List Int),vs=[.ref a]/\SqL K H a (ns.map V.int)/\ns.length<=63 /\ ∀ H',Q (.bl true) H'
end
noncomputable def top (i:Nat):Stmt:=PySem.Challenge.pw_manyleaf_k24_contents_edited.main.body.getD i (.Pass ⟨0,0,0,0⟩)
noncomputable def bl:List Str:=["all", "bool", "int", "isinstance", "len", "list", "max", "ord", "range", "sorted", "str", "tuple"]
section
variable (K:aa) (t:Adr)
noncomputable abbrev Jq:Stmt:=An (top 29) 0
noncomputable abbrev W5:List Str:=["self"]
noncomputable abbrev Ny:List Str:=["self"]
noncomputable def Ty:FI:=⟨t.f_zaj,t.d_zaj,Ny,1,ag2 K t,[],[]⟩
noncomputable abbrev Jz:Stmt:=An (top 29) 17
noncomputable abbrev Xf:List Str:=["self", "name", "kind", "parent", "rank", "content"]
noncomputable abbrev N8:List Str:=["self", "name", "kind", "parent", "rank", "content"]
noncomputable def Ub:FI:=⟨t.f_zat,t.d_zat,N8,1,ah0 K t,[],[]⟩
noncomputable abbrev Jx:Stmt:=An (top 31) 0
noncomputable abbrev Xc:List Str:=["self"]
noncomputable abbrev N5:List Str:=["self"]
noncomputable def Ej:FI:=⟨t.f_zaq,t.d_zaq,N5,1,ag7 K t,[],[]⟩
noncomputable abbrev R7:Stmt:=An (top 32) 1
noncomputable abbrev az0:List Str:=["self"]
noncomputable abbrev Yg:List Str:=["self"]
noncomputable def Ii:FI:=⟨t.f_zq,t.d_zq,Yg,1,av7 K t,[],[]⟩
noncomputable abbrev Js:Stmt:=An (top 34) 1
noncomputable abbrev W7:List Str:=["self"]
noncomputable abbrev N0:List Str:=["self"]
noncomputable def Zq:FI:=⟨t.f_zal,t.d_zal,N0,1,ag4 K t,[],[]⟩
noncomputable abbrev Jo:Stmt:=An (top 35) 1
noncomputable abbrev W3:List Str:=["self"]
noncomputable abbrev Nw:List Str:=["self"]
noncomputable def Zp:FI:=⟨t.f_zah,t.d_zah,Nw,1,ag1 K t,[],[]⟩
noncomputable abbrev Jw:Stmt:=An (top 37) 1
noncomputable abbrev Xb:List Str:=["self"]
noncomputable abbrev N4:List Str:=["self"]
noncomputable def Zr:FI:=⟨t.f_zap,t.d_zap,N4,1,ag6 K t,[],[]⟩
noncomputable abbrev Ji:Stmt:=An (top 38) 1
noncomputable abbrev Wx:List Str:=["self"]
noncomputable abbrev Np:List Str:=["self"]
noncomputable def Zm:FI:=⟨t.f_zab,t.d_zab,Np,1,af5 K t,[],[]⟩
noncomputable abbrev Jk:Stmt:=An (top 39) 1
noncomputable abbrev Wz:List Str:=["self"]
noncomputable abbrev Nr:List Str:=["self"]
noncomputable def Zn:FI:=⟨t.f_zad,t.d_zad,Nr,1,af7 K t,[],[]⟩
noncomputable abbrev J5:Stmt:=top 43
noncomputable abbrev Xl:List Str:=["_law_script", "_law_k"]
noncomputable abbrev Oe:List Str:=["_law_script", "_law_k"]
noncomputable def ar5:FI:=⟨t.f_zaz,t.d_zaz,Oe,1,Eu K t,[],[]⟩
noncomputable abbrev Ju:Stmt:=top 44
noncomputable abbrev W9:List Str:=["_law_cell_here", "_law_many", "_law_found", "_law_left", "_law_number", "_law_k"]
noncomputable abbrev N2:List Str:=["_law_cell_here", "_law_many"]
noncomputable def aq9:FI:=⟨t.f_zan,t.d_zan,N2,1,Gz K t,[],[]⟩
noncomputable abbrev J8:Stmt:=top 45
noncomputable abbrev Xo:List Str:=["_law_cell_here", "_law_signs", "_law_xs", "_law_size", "_law_text_here", "_law_x"]
noncomputable abbrev Oh:List Str:=["_law_cell_here"]
noncomputable def ar8:FI:=⟨t.f_zbc,t.d_zbc,Oh,2,Fm K t,[],[]⟩
noncomputable abbrev J3:Stmt:=top 46
noncomputable abbrev Xj:List Str:=["_law_cell_here", "_law_xs", "_law_many", "_law_wide", "_law_rows", "_law_j"]
noncomputable abbrev Oc:List Str:=["_law_cell_here"]
noncomputable def ar3:FI:=⟨t.f_zax,t.d_zax,Oc,3,Sn K t,[],[]⟩
noncomputable abbrev J2:Stmt:=top 48
noncomputable abbrev Xi:List Str:=["_law_x", "_law_size"]
noncomputable abbrev Ob:List Str:=["_law_x", "_law_size"]
noncomputable def ar2:FI:=⟨t.f_zaw,t.d_zaw,Ob,1,Fl K t,[],[]⟩
noncomputable abbrev J6:Stmt:=top 49
noncomputable abbrev Xm:List Str:=["_law_records", "_law_cell_here", "_law_xs", "_law_part", "_law_content_here", "_law_size", "_law_text_here", "_law_at", "_law_wide"]
noncomputable abbrev Of:List Str:=["_law_records", "_law_cell_here"]
noncomputable def ar6:FI:=⟨t.f_zba,t.d_zba,Of,3,Sq K t,[],[]⟩
noncomputable abbrev Jt:Stmt:=top 17
noncomputable abbrev W8:List Str:=["thing", "least", "greatest"]
noncomputable abbrev N1:List Str:=["thing", "least", "greatest"]
noncomputable def aq8:FI:=⟨t.f_zam,t.d_zam,N1,1,Ng K t,[],[]⟩
noncomputable abbrev Sf:Stmt:=top 21
noncomputable abbrev az8:List Str:=["sign"]
noncomputable abbrev Yo:List Str:=["sign"]
noncomputable def bu5:FI:=⟨t.f_zy,t.d_zy,Yo,1,ah3 K t,[],[]⟩
noncomputable abbrev Kc:Stmt:=top 15
noncomputable abbrev Xt:List Str:=["thing"]
noncomputable abbrev On:List Str:=["thing"]
noncomputable def as2:FI:=⟨t.f_zbh,t.d_zbh,On,2,G0 K t,[],[]⟩
noncomputable abbrev J1:Stmt:=top 18
noncomputable abbrev Xh:List Str:=["sign"]
noncomputable abbrev Oa:List Str:=["sign"]
noncomputable def ar1:FI:=⟨t.f_zav,t.d_zav,Oa,1,Sm K t,[],[]⟩
noncomputable abbrev J0:Stmt:=top 19
noncomputable abbrev Xg:List Str:=["sign"]
noncomputable abbrev N9:List Str:=["sign"]
noncomputable def ar0:FI:=⟨t.f_zau,t.d_zau,N9,1,Sl K t,[],[]⟩
noncomputable abbrev Se:Stmt:=top 20
noncomputable abbrev az7:List Str:=["sign"]
noncomputable abbrev Yn:List Str:=["sign"]
noncomputable def bu4:FI:=⟨t.f_zx,t.d_zx,Yn,2,ah2 K t,[],[]⟩
noncomputable abbrev Ka:Stmt:=top 14
noncomputable abbrev Xr:List Str:=["thing"]
noncomputable abbrev Ol:List Str:=["thing"]
noncomputable def as0:FI:=⟨t.f_zbf,t.d_zbf,Ol,3,Ss K t,[],[]⟩
noncomputable abbrev Kf:Stmt:=top 40
noncomputable abbrev Xw:List Str:=["truth"]
noncomputable abbrev Oq:List Str:=["truth"]
noncomputable def as5:FI:=⟨t.f_zbk,t.d_zbk,Oq,1,Ew K t,[],[]⟩
noncomputable abbrev Sa:Stmt:=An (top 32) 0
noncomputable abbrev az3:List Str:=["self", "part"]
noncomputable abbrev Yj:List Str:=["self", "part"]
noncomputable def a34:FI:=⟨t.f_zt,t.d_zt,Yj,4,U3 K t,[],[]⟩
noncomputable abbrev Sd:Stmt:=An (top 33) 0
noncomputable abbrev az6:List Str:=["self", "part"]
noncomputable abbrev Ym:List Str:=["self", "part"]
noncomputable def a36:FI:=⟨t.f_zw,t.d_zw,Ym,6,U4 K t,[],[]⟩
noncomputable abbrev Jr:Stmt:=An (top 34) 0
noncomputable abbrev W6:List Str:=["self", "part", "text"]
noncomputable abbrev Nz:List Str:=["self", "part", "text"]
noncomputable def Tz:FI:=⟨t.f_zak,t.d_zak,Nz,8,ag3 K t,[],[]⟩
noncomputable abbrev J4:Stmt:=top 13
noncomputable abbrev Xk:List Str:=["thing"]
noncomputable abbrev Od:List Str:=["thing"]
noncomputable def ar4:FI:=⟨t.f_zay,t.d_zay,Od,1,So K t,[],[]⟩
noncomputable abbrev Kb:Stmt:=top 16
noncomputable abbrev Xs:List Str:=["thing"]
noncomputable abbrev Om:List Str:=["thing"]
noncomputable def as1:FI:=⟨t.f_zbg,t.d_zbg,Om,2,Ev K t,[],[]⟩
noncomputable abbrev Jn:Stmt:=An (top 35) 0
noncomputable abbrev W2:List Str:=["self", "part", "at", "size", "text"]
noncomputable abbrev Nv:List Str:=["self", "part", "at", "size", "text"]
noncomputable def Tx:FI:=⟨t.f_zag,t.d_zag,Nv,8,ag0 K t,[],[]⟩
noncomputable abbrev R8:Stmt:=An (top 36) 0
noncomputable abbrev az1:List Str:=["self", "part"]
noncomputable abbrev Yh:List Str:=["self", "part"]
noncomputable def a32:FI:=⟨t.f_zr,t.d_zr,Yh,6,P8 K t,[],[]⟩
noncomputable abbrev Jv:Stmt:=An (top 37) 0
noncomputable abbrev Xa:List Str:=["self", "part", "row", "column", "text"]
noncomputable abbrev N3:List Str:=["self", "part", "row", "column", "text"]
noncomputable def Ua:FI:=⟨t.f_zao,t.d_zao,N3,8,ag5 K t,[],[]⟩
noncomputable abbrev Jp:Stmt:=top 25
noncomputable abbrev W4:List Str:=["thing", "most"]
noncomputable abbrev Nx:List Str:=["thing", "most"]
noncomputable def aq7:FI:=⟨t.f_zai,t.d_zai,Nx,1,Sk K t,[],[]⟩
noncomputable abbrev Kg:Stmt:=top 26
noncomputable abbrev Xx:List Str:=["thing"]
noncomputable abbrev Os:List Str:=["thing"]
noncomputable def as6:FI:=⟨t.f_zbl,t.d_zbl,Os,3,Sv K t,[],[]⟩
noncomputable abbrev Jh:Stmt:=An (top 38) 0
noncomputable abbrev Ww:List Str:=["self", "part", "at", "cells"]
noncomputable abbrev No:List Str:=["self", "part", "at", "cells"]
noncomputable def Tv:FI:=⟨t.f_zaa,t.d_zaa,No,8,af4 K t,[],[]⟩
noncomputable abbrev Jj:Stmt:=An (top 39) 0
noncomputable abbrev Wy:List Str:=["self", "part", "at"]
noncomputable abbrev Nq:List Str:=["self", "part", "at"]
noncomputable def Tw:FI:=⟨t.f_zac,t.d_zac,Nq,8,af6 K t,[],[]⟩
noncomputable abbrev J7:Stmt:=top 50
noncomputable abbrev Xn:List Str:=["_law_told_here"]
noncomputable abbrev Og:List Str:=["_law_told_here"]
noncomputable def ar7:FI:=⟨t.f_zbb,t.d_zbb,Og,10,Sr K t,[],[]⟩
noncomputable abbrev Sh:Stmt:=top 51
noncomputable abbrev az9:List Str:=["_law_old", "_law_told_here", "_law_rows", "_law_row"]
noncomputable abbrev Yp:List Str:=["_law_old", "_law_told_here"]
noncomputable def bu6:FI:=⟨t.f_zz,t.d_zz,Yp,1,ah4 K t,[],[]⟩
noncomputable abbrev Kd:Stmt:=top 52
noncomputable abbrev Xu:List Str:=["_law_records", "_law_told_here", "_law_old", "_law_new"]
noncomputable abbrev Oo:List Str:=["_law_records", "_law_told_here"]
noncomputable def as3:FI:=⟨t.f_zbi,t.d_zbi,Oo,2,Su K t,[],[]⟩
noncomputable abbrev Gy:Stmt:=An (top 4) 0
noncomputable abbrev ay9:List Str:=["self", "part", "choice"]
noncomputable abbrev Yf:List Str:=["self", "part", "choice"]
noncomputable def Dc:FI:=⟨t.f_zp,t.d_zp,Yf,1,av6 K t,[.non],t.du_zp⟩
noncomputable abbrev Jy:Stmt:=An (top 29) 1
noncomputable abbrev Xe:List Str:=["self", "name"]
noncomputable abbrev N7:List Str:=["self", "name"]
noncomputable def Zs:FI:=⟨t.f_zas,t.d_zas,N7,1,ag9 K t,[],[]⟩
noncomputable abbrev Jm:Stmt:=An (top 29) 2
noncomputable abbrev W1:List Str:=["self", "name"]
noncomputable abbrev Nu:List Str:=["self", "name"]
noncomputable def Ig:FI:=⟨t.f_zaf,t.d_zaf,Nu,3,af9 K t,[],[]⟩
noncomputable abbrev Sb:Stmt:=An (top 29) 4
noncomputable abbrev az4:List Str:=["self", "name"]
noncomputable abbrev Yk:List Str:=["self", "name"]
noncomputable def Zv:FI:=⟨t.f_zu,t.d_zu,Yk,4,av9 K t,[],[]⟩
noncomputable abbrev Rv:Stmt:=An (top 29) 7
noncomputable abbrev ay0:List Str:=["self", "name"]
noncomputable abbrev X6:List Str:=["self", "name"]
noncomputable def Hc:FI:=⟨t.f_zg,t.d_zg,X6,4,au7 K t,[],[]⟩
noncomputable abbrev R5:Stmt:=An (top 34) 2
noncomputable abbrev ay7:List Str:=["self", "old", "choice"]
noncomputable abbrev Yd:List Str:=["self", "old", "choice"]
noncomputable def a30:FI:=⟨t.f_zn,t.d_zn,Yd,1,av4 K t,[],[]⟩
noncomputable abbrev Rw:Stmt:=An (top 35) 2
noncomputable abbrev ay1:List Str:=["self", "old", "choice"]
noncomputable abbrev X7:List Str:=["self", "old", "choice"]
noncomputable def a26:FI:=⟨t.f_zh,t.d_zh,X7,3,au8 K t,[],[]⟩
noncomputable abbrev Rp:Stmt:=An (top 33) 1
noncomputable abbrev ax5:List Str:=["self", "plain", "choice"]
noncomputable abbrev X1:List Str:=["self", "plain", "choice"]
noncomputable def Zt:FI:=⟨t.f_zb,t.d_zb,X1,5,au2 K t,[],[]⟩
noncomputable abbrev Ry:Stmt:=An (top 37) 2
noncomputable abbrev ay3:List Str:=["self", "old", "choice"]
noncomputable abbrev X9:List Str:=["self", "old", "choice"]
noncomputable def a27:FI:=⟨t.f_zj,t.d_zj,X9,3,av0 K t,[],[]⟩
noncomputable abbrev Rq:Stmt:=An (top 38) 2
noncomputable abbrev ax6:List Str:=["self", "old", "choice"]
noncomputable abbrev X2:List Str:=["self", "old", "choice"]
noncomputable def a22:FI:=⟨t.f_zc,t.d_zc,X2,3,au3 K t,[],[]⟩
noncomputable abbrev Rr:Stmt:=An (top 39) 2
noncomputable abbrev ax7:List Str:=["self", "old", "choice"]
noncomputable abbrev X3:List Str:=["self", "old", "choice"]
noncomputable def a23:FI:=⟨t.f_zd,t.d_zd,X3,3,au4 K t,[],[]⟩
noncomputable abbrev Ro:Stmt:=An (top 36) 1
noncomputable abbrev ax4:List Str:=["self", "plain", "choice"]
noncomputable abbrev X0:List Str:=["self", "plain", "choice"]
noncomputable def Qv:FI:=⟨t.f_za,t.d_za,X0,5,au1 K t,[],[]⟩
noncomputable abbrev Dn:Stmt:=An (top 31) 1
noncomputable abbrev Xd:List Str:=["self", "plain", "choice"]
noncomputable abbrev N6:List Str:=["self", "plain", "choice"]
noncomputable def Ih:FI:=⟨t.f_zar,t.d_zar,N6,6,ag8 K t,[.non],t.du_zar⟩
noncomputable abbrev R9:Stmt:=An (top 34) 3
noncomputable abbrev az2:List Str:=["self", "old"]
noncomputable abbrev Yi:List Str:=["self", "old"]
noncomputable def a33:FI:=⟨t.f_zs,t.d_zs,Yi,1,av8 K t,[],[]⟩
noncomputable abbrev R0:Stmt:=An (top 35) 3
noncomputable abbrev ay5:List Str:=["self", "old"]
noncomputable abbrev Yb:List Str:=["self", "old"]
noncomputable def a29:FI:=⟨t.f_zl,t.d_zl,Yb,1,av2 K t,[],[]⟩
noncomputable abbrev Rz:Stmt:=An (top 29) 5
noncomputable abbrev ay4:List Str:=["self", "name"]
noncomputable abbrev Ya:List Str:=["self", "name"]
noncomputable def a28:FI:=⟨t.f_zk,t.d_zk,Ya,4,av1 K t,[],[]⟩
noncomputable abbrev Sc:Stmt:=An (top 29) 6
noncomputable abbrev az5:List Str:=["self", "name"]
noncomputable abbrev Yl:List Str:=["self", "name"]
noncomputable def a35:FI:=⟨t.f_zv,t.d_zv,Yl,4,aw0 K t,[],[]⟩
noncomputable abbrev Ke:Stmt:=top 41
noncomputable abbrev Xv:List Str:=["plain", "part", "content"]
noncomputable abbrev Op:List Str:=["plain", "part", "content"]
noncomputable def as4:FI:=⟨t.f_zbj,t.d_zbj,Op,5,G1 K t,[],[]⟩
noncomputable abbrev R3:Stmt:=An (top 33) 2
noncomputable abbrev ay6:List Str:=["self", "plain"]
noncomputable abbrev Yc:List Str:=["self", "plain"]
noncomputable def Zu:FI:=⟨t.f_zm,t.d_zm,Yc,6,av3 K t,[],[]⟩
noncomputable abbrev R6:Stmt:=An (top 37) 3
noncomputable abbrev ay8:List Str:=["self", "old", "cells", "row"]
noncomputable abbrev Ye:List Str:=["self", "old"]
noncomputable def a31:FI:=⟨t.f_zo,t.d_zo,Ye,1,av5 K t,[],[]⟩
noncomputable abbrev Rt:Stmt:=An (top 38) 3
noncomputable abbrev ax8:List Str:=["self", "old"]
noncomputable abbrev X4:List Str:=["self", "old"]
noncomputable def a24:FI:=⟨t.f_ze,t.d_ze,X4,1,au5 K t,[],[]⟩
noncomputable abbrev Ru:Stmt:=An (top 39) 3
noncomputable abbrev ax9:List Str:=["self", "old"]
noncomputable abbrev X5:List Str:=["self", "old"]
noncomputable def a25:FI:=⟨t.f_zf,t.d_zf,X5,1,au6 K t,[],[]⟩
noncomputable abbrev Rx:Stmt:=An (top 36) 2
noncomputable abbrev ay2:List Str:=["self", "plain"]
noncomputable abbrev X8:List Str:=["self", "plain"]
noncomputable def Qw:FI:=⟨t.f_zi,t.d_zi,X8,6,au9 K t,[],[]⟩
noncomputable abbrev Do:Stmt:=An (top 31) 2
noncomputable abbrev Xq:List Str:=["self", "plain", "choice"]
noncomputable abbrev Oj:List Str:=["self", "plain", "choice"]
noncomputable def Lj:FI:=⟨t.f_zbe,t.d_zbe,Oj,7,ah1 K t,[.non],t.du_zbe⟩
noncomputable abbrev J9:Stmt:=top 53
noncomputable abbrev Xp:List Str:=["_law_edit", "_law_plain", "_law_choice", "_law_asked", "_law_told_here", "_law_part", "_law_number", "e", "_law_kinds"]
noncomputable abbrev Oi:List Str:=["_law_edit", "_law_plain", "_law_choice", "_law_asked"]
noncomputable def ar9:FI:=⟨t.f_zbd,t.d_zbd,Oi,8,Nh K t,[],[]⟩
noncomputable abbrev Jl:Stmt:=An (top 29) 8
noncomputable abbrev W0:List Str:=["self"]
noncomputable abbrev Nt:List Str:=["self"]
noncomputable def Zo:FI:=⟨t.f_zae,t.d_zae,Nt,1,af8 K t,[],[]⟩
noncomputable abbrev Kh:Stmt:=top 54
noncomputable abbrev Xy:List Str:=["_law_plain", "_law_records"]
noncomputable abbrev Ot:List Str:=["_law_plain", "_law_records"]
noncomputable def as7:FI:=⟨t.f_zbm,t.d_zbm,Ot,4,Ni K t,[],[]⟩
noncomputable abbrev Dp:Stmt:=top 55
noncomputable abbrev Xz:List Str:=["_law_script", "_law_records", "_law_plain", "_law_name", "_law_record", "_law_cell_here", "_law_told_here", "_law_edit", "_law_word", "_law_new", "_law_choice", "_law_due_here", "_law_kind", "_law_parent", "_law_rank", "_law_old"]
noncomputable abbrev Ou:List Str:=["_law_script"]
noncomputable def Ci:List MI:=[⟨t.c_zcd,Ii K t⟩,⟨t.c_zcb,Ii K t⟩,⟨t.c_zce,Ii K t⟩,⟨t.c_zby,Ii K t⟩,⟨t.c_zbz,Ii K t⟩]
noncomputable def E0:List MI:=[⟨t.c_zcd,Zu K t⟩,⟨t.c_zcb,Zu K t⟩,⟨t.c_zce,Qw K t⟩,⟨t.c_zby,Qw K t⟩,⟨t.c_zbz,Qw K t⟩]
noncomputable def Bl:List MI:=[⟨t.c_zcc,Hc K t⟩]
noncomputable def Q5:List MI:=[⟨t.c_zcc,Zs K t⟩]
noncomputable def C4:List MI:=[⟨t.c_zcc,Zv K t⟩]
noncomputable def Mw:List MI:=[⟨t.c_zcc,Ub K t⟩]
noncomputable def Hk:List MI:=[⟨t.c_zcd,Ej K t⟩,⟨t.c_zcb,Ej K t⟩,⟨t.c_zce,Ej K t⟩,⟨t.c_zby,Ej K t⟩,⟨t.c_zbz,Ej K t⟩]
noncomputable def Iw:List MI:=[⟨t.c_zcc,Zo K t⟩]
noncomputable def Fz:List MI:=[⟨t.c_zcd,Ih K t⟩,⟨t.c_zcb,Ih K t⟩,⟨t.c_zce,Ih K t⟩,⟨t.c_zby,Ih K t⟩,⟨t.c_zbz,Ih K t⟩]
noncomputable def Cp:List MI:=[⟨t.c_zcd,Zt K t⟩,⟨t.c_zcb,Zt K t⟩,⟨t.c_zce,Qv K t⟩,⟨t.c_zby,Qv K t⟩,⟨t.c_zbz,Qv K t⟩]
noncomputable def Cg:List MI:=[⟨t.c_zce,a27 K t⟩,⟨t.c_zby,a22 K t⟩,⟨t.c_zbz,a23 K t⟩]
noncomputable def Cq:List MI:=[⟨t.c_zcd,a30 K t⟩,⟨t.c_zcb,a26 K t⟩]
noncomputable def Cr:List MI:=[⟨t.c_zce,a31 K t⟩,⟨t.c_zby,a24 K t⟩,⟨t.c_zbz,a25 K t⟩]
noncomputable def Da:List MI:=[⟨t.c_zcd,a33 K t⟩,⟨t.c_zcb,a29 K t⟩]
noncomputable def Uf:List MI:=[⟨t.c_zcd,Lj K t⟩,⟨t.c_zcb,Lj K t⟩,⟨t.c_zce,Lj K t⟩,⟨t.c_zby,Lj K t⟩,⟨t.c_zbz,Lj K t⟩]
noncomputable def Dw:List MI:=[⟨t.c_zcc,a28 K t⟩]
noncomputable def Fg:List MI:=[⟨t.c_zcc,a35 K t⟩]
noncomputable def C5:List MI:=[⟨t.c_zcc,Ig K t⟩]
noncomputable def F0:List MI:=[⟨t.c_zcd,Zq K t⟩,⟨t.c_zcb,Zp K t⟩,⟨t.c_zce,Zr K t⟩,⟨t.c_zby,Zm K t⟩,⟨t.c_zbz,Zn K t⟩]
noncomputable def Az (K:aa) (t:Adr):List (Str×GB):=[("LeafError", .exc t.c_zbt none),("BadEdit", .exc t.c_zbw none),("EditError", .val (.ref t.c_zbs) (.ref t.c_zbs)),("NoPart", .val (.ref t.c_zca) (.ref t.c_zca)),("WrongKind", .val (.ref t.c_zbv) (.ref t.c_zbv)),("Far", .val (.ref t.c_zcf) (.ref t.c_zcf)),("TooLong", .val (.ref t.c_zbx) (.ref t.c_zbx)),("Plain", .val (.ref t.c_zcc) (.ref t.c_zcc)),("Write", .val (.ref t.c_zcd) (.ref t.c_zcd)),("Splice", .val (.ref t.c_zcb) (.ref t.c_zcb)),("Cell", .val (.ref t.c_zce) (.ref t.c_zce)),("AddRow", .val (.ref t.c_zby) (.ref t.c_zby)),("CutRow", .val (.ref t.c_zbz) (.ref t.c_zbz)),("Edit", .val (.ref t.c_Edit) (.ref t.c_Edit)),("GREATEST_RANK", .val (.int 1000000000) t.u_zbo),("LONGEST_TEXT", .val (.int 60) t.u_zbp),("PERCENT_SIGN", .val (.int 37) t.u_zbq),("MOST_ROWS", .val (.int 6) t.u_zbu),("MOST_CELLS", .val (.int 6) t.u_zbr),("TOP", .val (.str "") t.u_zcg)]
noncomputable def Ha:List (Str×GB):=("", .met "about" (Ci K t))::("", .met "has" (Q5 K t))::("", .met "lay" (Mw K t))::("", .met "made" (Hk K t))::("", .met "names" (Iw K t))::("", .met "new_table" (Cr K t))::("", .met "new_text" (Da K t))::("", .met "told" (F0 K t))::("_law_cell", .fn (ar5 K t))::("_law_stream", .fn (aq9 K t))::("_law_place", .fn (ar2 K t))::("has_length", .fn (aq8 K t))::("is_text_sign", .fn (bu5 K t))::("is_letter", .fn (ar1 K t))::("is_figure", .fn (ar0 K t))::("insist", .fn (as5 K t))::("is_whole", .fn (ar4 K t))::("is_tuple_of", .fn (aq7 K t))::("_law_rows_due", .fn (bu6 K t))::Az K t
noncomputable def Di:List (Str×GB):=("_law_text", .fn (ar8 K t))::("is_text", .fn (as2 K t))::("is_name_sign", .fn (bu4 K t))::("is_rank", .fn (as1 K t))::("_law_due", .fn (as3 K t))::("EditError", .exc t.c_zbs (some (Dc K t)))::("NoPart", .exc t.c_zca (some (Dc K t)))::("WrongKind", .exc t.c_zbv (some (Dc K t)))::("Far", .exc t.c_zcf (some (Dc K t)))::("TooLong", .exc t.c_zbx (some (Dc K t)))::("Plain", .cls t.c_zcc (some (Ty K t)))::Ha K t
noncomputable def Fu:List (Str×GB):=("", .met "need_table" (Cg K t))::("", .met "need_text" (Cq K t))::("", .met "state" (C5 K t))::("_law_table", .fn (ar3 K t))::("_law_deed", .fn (ar6 K t))::("is_name", .fn (as0 K t))::("is_row", .fn (as6 K t))::Di K t
noncomputable def Pf:List (Str×GB):=("", .met "content_of" (Bl K t))::("", .met "kind_of" (C4 K t))::("", .met "parent_of" (Dw K t))::("", .met "rank_of" (Fg K t))::("_law_so", .fn (as7 K t))::("PartEdit", .ini t.c_PartEdit (a34 K t))::Fu K t
noncomputable def Hb:List (Str×GB):=("", .met "need_rest" (Cp K t))::("rewrite", .fn (as4 K t))::Pf K t
noncomputable def aj9:List (Str×GB):=("", .met "change" (E0 K t))::("", .met "need" (Fz K t))::("TextEdit", .ini t.c_TextEdit (a36 K t))::("TableEdit", .ini t.c_TableEdit (a32 K t))::Hb K t
noncomputable def Fv:List (Str×GB):=("", .met "on" (Uf K t))::aj9 K t
noncomputable def bu2:List (Str×GB):=("_law_told", .fn (ar9 K t))::Fv K t
noncomputable def ak0:List (Str×GB):=("Write", .cls t.c_zcd (some (Tz K t)))::("Splice", .cls t.c_zcb (some (Tx K t)))::("Cell", .cls t.c_zce (some (Ua K t)))::("AddRow", .cls t.c_zby (some (Tv K t)))::("CutRow", .cls t.c_zbz (some (Tw K t)))::bu2 K t
noncomputable def Zh:List (Str×GB):=("_law_made", .fn (ar7 K t))::ak0 K t
end
noncomputable def b71 (K:aa) (t:Adr):DS:=
 (Ah (E7 K "records" (Ac 0) Y1)
 Af)
theorem bf4 (K:aa) (t:Adr):wSs 40 (Au K W5 (Aa Jq) (Az K t) bl) (Ai Jq)=b71 K t:=by kernel_rfl
theorem bj5:Aj W5 Ny (Aa Jq):=⟨rfl,rfl,rfl,by decide +kernel,rfl,by decide +kernel,by decide +kernel⟩
theorem bo9:Ap W5 (Aa Jq)=true:=by decide +kernel
noncomputable def b81 (K:aa) (t:Adr):DS:=
 (Ah (G8 (Bq (Ab (Ac 2) (Ab (Ac 3) (Ab (Ac 4) (Ab (Ac 5) Ag))))) (Fw K (dUn (Ao K "records") (Ac 0)) (Ac 1)))
 Af)
theorem bg4 (K:aa) (t:Adr):wSs 40 (Au K Xf (Aa Jz) (Az K t) bl) (Ai Jz)=b81 K t:=by kernel_rfl
theorem bk5:Aj Xf N8 (Aa Jz):=⟨rfl,rfl,rfl,by decide +kernel,rfl,by decide +kernel,by decide +kernel⟩
theorem bp9:Ap Xf (Aa Jz)=true:=by decide +kernel
noncomputable def b78 (K:aa) (t:Adr):DS:=
 (Ah (As (dC .non))
 Af)
theorem bg1 (K:aa) (t:Adr):wSs 40 (Au K Xc (Aa Jx) (Az K t) bl) (Ai Jx)=b78 K t:=by kernel_rfl
theorem bk2:Aj Xc N5 (Aa Jx):=⟨rfl,rfl,rfl,by decide +kernel,rfl,by decide +kernel,by decide +kernel⟩
theorem bp6:Ap Xc (Aa Jx)=true:=by decide +kernel
noncomputable def ci5 (K:aa) (t:Adr):DS:=
 (Ah (As (dUn (Ao K "part") (Ac 0)))
 Af)
theorem b17 (K:aa) (t:Adr):wSs 40 (Au K az0 (Aa R7) (Az K t) bl) (Ai R7)=ci5 K t:=by kernel_rfl
theorem b43:Aj az0 Yg (Aa R7):=⟨rfl,rfl,rfl,by decide +kernel,rfl,by decide +kernel,by decide +kernel⟩
theorem cb9:Ap az0 (Aa R7)=true:=by decide +kernel
noncomputable def b73 (K:aa) (t:Adr):DS:=
 (Ah (As (Bq (Ab (dC (.str "write")) (Ab (dUn (Ao K "part") (Ac 0)) (Ab (dUn (Ao K "text") (Ac 0)) Ag)))))
 Af)
theorem bf6 (K:aa) (t:Adr):wSs 40 (Au K W7 (Aa Js) (Az K t) bl) (Ai Js)=b73 K t:=by kernel_rfl
theorem bj7:Aj W7 N0 (Aa Js):=⟨rfl,rfl,rfl,by decide +kernel,rfl,by decide +kernel,by decide +kernel⟩
theorem bp1:Ap W7 (Aa Js)=true:=by decide +kernel
noncomputable def b69 (K:aa) (t:Adr):DS:=
 (Ah (As (Bq (Ab (dC (.str "splice")) (Ab (dUn (Ao K "part") (Ac 0)) (Ab (dUn (Ao K "at") (Ac 0)) (Ab (dUn (Ao K "size") (Ac 0)) (Ab (dUn (Ao K "text") (Ac 0)) Ag)))))))
 Af)
theorem bf2 (K:aa) (t:Adr):wSs 40 (Au K W3 (Aa Jo) (Az K t) bl) (Ai Jo)=b69 K t:=by kernel_rfl
theorem bj3:Aj W3 Nw (Aa Jo):=⟨rfl,rfl,rfl,by decide +kernel,rfl,by decide +kernel,by decide +kernel⟩
theorem bo7:Ap W3 (Aa Jo)=true:=by decide +kernel
noncomputable def b77 (K:aa) (t:Adr):DS:=
 (Ah (As (Bq (Ab (dC (.str "cell")) (Ab (dUn (Ao K "part") (Ac 0)) (Ab (dUn (Ao K "row") (Ac 0)) (Ab (dUn (Ao K "column") (Ac 0)) (Ab (dUn (Ao K "text") (Ac 0)) Ag)))))))
 Af)
theorem bg0 (K:aa) (t:Adr):wSs 40 (Au K Xb (Aa Jw) (Az K t) bl) (Ai Jw)=b77 K t:=by kernel_rfl
theorem bk1:Aj Xb N4 (Aa Jw):=⟨rfl,rfl,rfl,by decide +kernel,rfl,by decide +kernel,by decide +kernel⟩
theorem bp5:Ap Xb (Aa Jw)=true:=by decide +kernel
noncomputable def b63 (K:aa) (t:Adr):DS:=
 (Ah (As (Bq (Ab (dC (.str "addrow")) (Ab (dUn (Ao K "part") (Ac 0)) (Ab (dUn (Ao K "at") (Ac 0)) (Ab (dUn (Ao K "cells") (Ac 0)) Ag))))))
 Af)
theorem be6 (K:aa) (t:Adr):wSs 40 (Au K Wx (Aa Ji) (Az K t) bl) (Ai Ji)=b63 K t:=by kernel_rfl
theorem bi7:Aj Wx Np (Aa Ji):=⟨rfl,rfl,rfl,by decide +kernel,rfl,by decide +kernel,by decide +kernel⟩
theorem bo1:Ap Wx (Aa Ji)=true:=by decide +kernel
noncomputable def b65 (K:aa) (t:Adr):DS:=
 (Ah (As (Bq (Ab (dC (.str "cutrow")) (Ab (dUn (Ao K "part") (Ac 0)) (Ab (dUn (Ao K "at") (Ac 0)) Ag)))))
 Af)
theorem be8 (K:aa) (t:Adr):wSs 40 (Au K Wz (Aa Jk) (Az K t) bl) (Ai Jk)=b65 K t:=by kernel_rfl
theorem bi9:Aj Wz Nr (Aa Jk):=⟨rfl,rfl,rfl,by decide +kernel,rfl,by decide +kernel,by decide +kernel⟩
theorem bo3:Ap Wz (Aa Jk)=true:=by decide +kernel
noncomputable def b85 (K:aa) (t:Adr):DS:=
 (Ah (dIf (A5 (Ae bz6 (Ac 1) (dFn (fun vs H Q _=>(Bu K) vs H Q) (Ab (Ac 0) Ag)))) (Ah (As (Ae (Am K) (Ac 0) (Ac 1)))
  Af) Af)
 (Ah (As (Ae (G7 K) (Ae (Ar K) (Ac 1) (dC (.int 3))) (dC (.int 7919))))
 Af))
theorem bh0 (K:aa) (t:Adr):wSs 40 (Au K Xl (Aa J5) (Az K t) bl) (Ai J5)=b85 K t:=by kernel_rfl
theorem bl1:Aj Xl Oe (Aa J5):=⟨rfl,rfl,rfl,by decide +kernel,rfl,by decide +kernel,by decide +kernel⟩
theorem bq5:Ap Xl (Aa J5)=true:=by decide +kernel
noncomputable def b75 (K:aa) (t:Adr):DS:=
 (Ah (A2 2 (Dg Ag))
 (Ah (A2 3 (Ae Cf (Ac 0) (dC (.int 2))))
 (Ah (A2 4 (Ae (Ar K) (Ae A1 (Ac 0) (dC (.int 2147483629))) (dC (.int 17))))
 (Ah (Qk (Vu (Ab (Ac 1) Ag)) (gdN 5) (Ah (A2 4 (Ae A1 (Ae (Ar K) (Ae (Ar K) (Ae (G7 K) (Ac 4) (dC (.int 48271))) (Ae (G7 K) (dC (.int 7919)) (Ac 5))) (dC (.int 1))) (dC (.int 2147483647))))
  (Ah (dIf (Y0 (A5 (Ae (Bj K false) (Ae A1 (Ac 0) (dC (.int 2))) (dC (.int 1)))) (Y0 (A5 (Ae (Bj K true) (Ac 3) (dC (.int 0)))) (A5 (Ae (Bj K true) (Ac 3) (dUn Uu (dC (.int 1))))))) (Ah (A9 (dMt (rMt K [⟨"list", "list.append", E2⟩]) (Ac 2) (Ab (Ae A1 (Ac 3) (dC (.int 268435456))) Ag)))
   (Ah (A2 3 (Ae Cf (Ac 3) (dC (.int 268435456))))
   Af)) (Ah (A9 (dMt (rMt K [⟨"list", "list.append", E2⟩]) (Ac 2) (Ab (Ae Cf (Ae A1 (Ae (Ar K) (Ae (G7 K) (Ae A1 (Ae (G7 K) (Ac 4) (Ac 4)) (dC (.int 2147483629))) (dC (.int 16807))) (Ac 5)) (dC (.int 2147483587))) (dC (.int 8))) Ag)))
   Af))
  Af)))
 (Ah (As (Ac 2))
 Af)))))
theorem bf8 (K:aa) (t:Adr):wSs 40 (Au K W9 (Aa Ju) (Az K t) bl) (Ai Ju)=b75 K t:=by kernel_rfl
theorem bj9:Aj W9 N2 (Aa Ju):=⟨rfl,rfl,rfl,by decide +kernel,rfl,by decide +kernel,by decide +kernel⟩
theorem bp3:Ap W9 (Aa Ju)=true:=by decide +kernel
noncomputable def b88 (K:aa) (t:Adr):DS:=
 (Ah (A2 1 (Ae (Ar K) (dC (.str " !#$&'()*+,-./0123456789:;<=>?@ABCDEFGHIJKLMNOPQRSTUVWXYZ[\\]^_`abcdefghijklmnopqrstuvwxyz{|}~")) (dC (.str "\""))))
 (Ah (A2 2 (dFn (spE (Gz K t) []) (Ab (Ac 0) (Ab (dC (.int 4)) Ag))))
 (Ah (A2 3 (Ae (Am K) (Dg (Ab (dC (.int 0)) (Ab (Ae A1 (Ae (Am K) (Ac 2) (dC (.int 1))) (dC (.int 4))) (Ab (Ae A1 (Ae (Am K) (Ac 2) (dC (.int 1))) (dC (.int 12))) (Ab (Ae A1 (Ae (Am K) (Ac 2) (dC (.int 1))) (dC (.int 61))) Ag))))) (Ae A1 (Ae (Am K) (Ac 2) (dC (.int 0))) (dC (.int 4)))))
 (Ah (A2 4 (dC (.str "")))
 (Ah (Qk (Go K (dFn (spE (Gz K t) []) (Ab (Ae (Ar K) (Ac 0) (dC (.int 1))) (Ab (Ac 3) Ag)))) (gdN 5) (Ah (dIf (A5 (Ae (Bj K false) (Ae A1 (Ae (Am K) (Ac 2) (dC (.int 2))) (dC (.int 2))) (dC (.int 0)))) (Ah (A2 4 (Ae (Ar K) (Ac 4) (Ae (Am K) (dC (.str "|/\\a ")) (Ae A1 (Ac 5) (dC (.int 5))))))
   Af) (Ah (A2 4 (Ae (Ar K) (Ac 4) (Ae (Am K) (Ac 1) (Ae A1 (Ac 5) (dC (.int 94))))))
   Af))
  Af))
 (Ah (As (Ac 4))
 Af))))))
theorem bh3 (K:aa) (t:Adr):wSs 40 (Au K Xo (Aa J8) (Ha K t) bl) (Ai J8)=b88 K t:=by kernel_rfl
theorem bl4:Aj Xo Oh (Aa J8):=⟨rfl,rfl,rfl,by decide +kernel,rfl,by decide +kernel,by decide +kernel⟩
theorem bq8:Ap Xo (Aa J8)=true:=by decide +kernel
noncomputable def b83 (K:aa) (t:Adr):DS:=
 (Ah (A2 1 (dFn (spE (Gz K t) []) (Ab (Ac 0) (Ab (dC (.int 3)) Ag))))
 (Ah (A2 2 (Ae (Am K) (Dg (Ab (Ae (Ar K) (dC (.int 1)) (Ae A1 (Ae Cf (Ae (Am K) (Ac 1) (dC (.int 0))) (dC (.int 3))) (dC (.int 3)))) (Ab (Ae (Ar K) (dC (.int 1)) (Ae A1 (Ae Cf (Ae (Am K) (Ac 1) (dC (.int 0))) (dC (.int 3))) (dC (.int 6)))) (Ab (dC (.int 6)) Ag)))) (Ae A1 (Ae (Am K) (Ac 1) (dC (.int 0))) (dC (.int 3)))))
 (Ah (A2 3 (Ae (Am K) (Dg (Ab (Ae (Ar K) (dC (.int 1)) (Ae A1 (Ae Cf (Ae (Am K) (Ac 1) (dC (.int 1))) (dC (.int 3))) (dC (.int 3)))) (Ab (Ae (Ar K) (dC (.int 1)) (Ae A1 (Ae Cf (Ae (Am K) (Ac 1) (dC (.int 1))) (dC (.int 3))) (dC (.int 6)))) (Ab (dC (.int 6)) Ag)))) (Ae A1 (Ae (Am K) (Ac 1) (dC (.int 1))) (dC (.int 3)))))
 (Ah (A2 4 (Dg Ag))
 (Ah (Qk (Vu (Ab (Ac 2) Ag)) (gdN 5) (Ah (A9 (dMt (rMt K [⟨"list", "list.append", E2⟩]) (Ac 4) (Ab (dFn (fun vs H Q _=>(Er K) vs H Q) (Ab (Ef [none,some 0,some 5] (Vu (Ab (Ac 3) Ag)) (gdN 0) G9 (dFn (spE (Fm K t) []) (Ab (Ae (Ar K) (Ae (Ar K) (Ae (Ar K) (Ac 1) (Ae (G7 K) (dC (.int 101)) (Ac 2))) (Ae (G7 K) (dC (.int 1009)) (Ac 0))) (dC (.int 7))) Ag))) Ag)) Ag)))
  Af))
 (Ah (As (dFn (fun vs H Q _=>(Er K) vs H Q) (Ab (Ac 4) Ag)))
 Af))))))
theorem bg8 (K:aa) (t:Adr):wSs 40 (Au K Xj (Aa J3) (Di K t) bl) (Ai J3)=b83 K t:=by kernel_rfl
theorem bk9:Aj Xj Oc (Aa J3):=⟨rfl,rfl,rfl,by decide +kernel,rfl,by decide +kernel,by decide +kernel⟩
theorem bq3:Ap Xj (Aa J3)=true:=by decide +kernel
noncomputable def b82 (K:aa) (t:Adr):DS:=
 (Ah (As (Ae (Am K) (Dg (Ab (Ae A1 (Ae Cf (Ac 0) (dC (.int 8))) (Ae (Ar K) (Ac 1) (dC (.int 1)))) (Ab (Ae A1 (Ae Cf (Ac 0) (dC (.int 8))) (Ae (Ar K) (Ac 1) (dC (.int 1)))) (Ab (dFn (fun vs H Q _=>ae1 vs H Q) (Ab (dC (.int 0)) (Ab (Ae Jg (Ac 1) (Ae A1 (Ae Cf (Ac 0) (dC (.int 8))) (dC (.int 2)))) Ag))) (Ab (Ae A1 (Ae Cf (Ac 0) (dC (.int 8))) (Ae (Ar K) (Ae P2 (dC (.int 10)) (dC (.int 9))) (dC (.int 1)))) Ag))))) (Ae A1 (Ae A1 (Ac 0) (dC (.int 8))) (dC (.int 4)))))
 Af)
theorem bg7 (K:aa) (t:Adr):wSs 40 (Au K Xi (Aa J2) (Az K t) bl) (Ai J2)=b82 K t:=by kernel_rfl
theorem bk8:Aj Xi Ob (Aa J2):=⟨rfl,rfl,rfl,by decide +kernel,rfl,by decide +kernel,by decide +kernel⟩
theorem bq2:Ap Xi (Aa J2)=true:=by decide +kernel
noncomputable def b86 (K:aa) (t:Adr):DS:=
 (Ah (A2 2 (dFn (spE (Gz K t) []) (Ab (Ac 1) (Ab (dC (.int 8)) Ag))))
 (Ah (A2 3 (Ae (Am K) (Dg (Ab (dC (.str "a")) (Ab (dC (.str "a.b")) (Ab (dC (.str "t")) (Ab (dC (.str "t")) (Ab (dC (.str "ab")) Ag)))))) (Ae A1 (Ae (Am K) (Ac 2) (dC (.int 0))) (dC (.int 5)))))
 (Ah (A2 4 (Ae (Am K) (dMt (rMt K [⟨"dict", "dict.get", Py⟩]) (Ac 0) (Ab (Ac 3) (Ab (Bq (Ab (dC (.str "")) (Ab (dC (.str "")) (Ab (dC (.int 0)) (Ab (dC (.str "abc")) Ag))))) Ag))) (dC (.int 3))))
 (Ah (A2 5 (dFn (fun vs H Q _=>(Bu K) vs H Q) (Ab (Ac 4) Ag)))
 (Ah (A2 6 (dFn (spE (Fm K t) []) (Ab (Ae (Am K) (Ac 2) (dC (.int 1))) Ag)))
 (Ah (A2 7 (dFn (spE (Fl K t) []) (Ab (Ae (Am K) (Ac 2) (dC (.int 2))) (Ab (Ac 5) Ag))))
 (Ah (dIf (A5 (Ae (Bj K false) (Ae A1 (Ae (Am K) (Ac 2) (dC (.int 3))) (dC (.int 9))) (dC (.int 0)))) (Ah (A2 3 (Ae (Am K) (Dg (Ab (dC (.str "a")) (Ab (dC (.str "a.b")) (Ab (dC (.str "t")) (Ab (dC (.str "ab")) Ag))))) (Ae A1 (Ae (Am K) (Ac 2) (dC (.int 4))) (dC (.int 4)))))
  Af) Af)
 (Ah (dIf (O6 (Ku K (dFn (fun vs H Q _=>(Dx K) vs H Q) (Ab (Ac 4) (Ab (dC (.ty "tuple")) Ag))))) (Ah (dIf (A5 (Ae (Bj K false) (Ae A1 (Ae (Am K) (Ac 2) (dC (.int 3))) (dC (.int 3))) (dC (.int 0)))) (Ah (As (Bq (Ab (dC (.str "write")) (Ab (Ac 3) (Ab (Ac 6) Ag)))))
   Af) Af)
  (Ah (As (Bq (Ab (dC (.str "splice")) (Ab (Ac 3) (Ab (Ac 7) (Ab (dFn (spE (Fl K t) []) (Ab (Ae (Am K) (Ac 2) (dC (.int 5))) (Ab (dFn (fun vs H Q _=>ae1 vs H Q) (Ab (dC (.int 0)) (Ab (Ae Jg (Ac 5) (Ac 7)) Ag))) Ag))) (Ab (Ac 6) Ag)))))))
  Af)) Af)
 (Ah (dIf (A5 (Ae (Bj K false) (Ae A1 (Ae (Am K) (Ac 2) (dC (.int 3))) (dC (.int 3))) (dC (.int 0)))) (Ah (As (Bq (Ab (dC (.str "cell")) (Ab (Ac 3) (Ab (dFn (spE (Fl K t) []) (Ab (Ae (Am K) (Ac 2) (dC (.int 2))) (Ab (Ae Jg (Ac 5) (dC (.int 1))) Ag))) (Ab (dFn (spE (Fl K t) []) (Ab (Ae (Am K) (Ac 2) (dC (.int 5))) (Ab (Ae Jg (dFn (fun vs H Q _=>(Bu K) vs H Q) (Ab (Ae (Am K) (Ac 4) (dC (.int 0))) Ag)) (dC (.int 1))) Ag))) (Ab (Ac 6) Ag)))))))
  Af) Af)
 (Ah (dIf (A5 (Ae (Bj K false) (Ae A1 (Ae (Am K) (Ac 2) (dC (.int 3))) (dC (.int 3))) (dC (.int 1)))) (Ah (A2 8 (Ae (Am K) (Dg (Ab (dFn (fun vs H Q _=>(Bu K) vs H Q) (Ab (Ae (Am K) (Ac 4) (dC (.int 0))) Ag)) (Ab (Ae (Ar K) (dC (.int 1)) (Ae A1 (Ae (Am K) (Ac 2) (dC (.int 5))) (dC (.int 6)))) Ag))) (dFn (fun vs H Q _=>Wf vs H Q) (Ab (Ae (Bj K false) (Ae A1 (Ae Cf (Ae (Am K) (Ac 2) (dC (.int 5))) (dC (.int 6))) (dC (.int 4))) (dC (.int 0))) Ag))))
  (Ah (As (Bq (Ab (dC (.str "addrow")) (Ab (Ac 3) (Ab (Ac 7) (Ab (dFn (fun vs H Q _=>(Er K) vs H Q) (Ab (Ef [none,some 2] (Vu (Ab (Ac 8) Ag)) (gdN 0) G9 (dFn (spE (Fm K t) []) (Ab (Ae (Ar K) (Ae (Am K) (Ac 1) (dC (.int 1))) (Ac 0)) Ag))) Ag)) Ag))))))
  Af)) Af)
 (Ah (As (Bq (Ab (dC (.str "cutrow")) (Ab (Ac 3) (Ab (dFn (spE (Fl K t) []) (Ab (Ae (Am K) (Ac 2) (dC (.int 2))) (Ab (Ae Jg (Ac 5) (dC (.int 1))) Ag))) Ag)))))
 Af)))))))))))
theorem bh1 (K:aa) (t:Adr):wSs 40 (Au K Xm (Aa J6) (Di K t) bl) (Ai J6)=b86 K t:=by kernel_rfl
theorem bl2:Aj Xm Of (Aa J6):=⟨rfl,rfl,rfl,by decide +kernel,rfl,by decide +kernel,by decide +kernel⟩
theorem bq6:Ap Xm (Aa J6)=true:=by decide +kernel
noncomputable def b74 (K:aa) (t:Adr):DS:=
 (Ah (As (Cm K (dFn (fun vs H Q _=>(Dx K) vs H Q) (Ab (Ac 0) (Ab (dC (.ty "str")) Ag))) (Cy Fh Fh (Ac 1) (dFn (fun vs H Q _=>(Bu K) vs H Q) (Ab (Ac 0) Ag)) (Ac 2))))
 Af)
theorem bf7 (K:aa) (t:Adr):wSs 40 (Au K W8 (Aa Jt) (Az K t) bl) (Ai Jt)=b74 K t:=by kernel_rfl
theorem bj8:Aj W8 N1 (Aa Jt):=⟨rfl,rfl,rfl,by decide +kernel,rfl,by decide +kernel,by decide +kernel⟩
theorem bp2:Ap W8 (Aa Jt)=true:=by decide +kernel
noncomputable def ca0 (K:aa) (t:Adr):DS:=
 (Ah (As (Cm K (Cy Fh Fh (dC (.str " ")) (Ac 0) (dC (.str "~"))) (Ae (Bj K true) (dFn (fun vs H Q _=>ao4 vs H Q) (Ab (Ac 0) Ag)) (dC (.int 37)))))
 Af)
theorem b25 (K:aa) (t:Adr):wSs 40 (Au K az8 (Aa Sf) (Az K t) bl) (Ai Sf)=ca0 K t:=by kernel_rfl
theorem b51:Aj az8 Yo (Aa Sf):=⟨rfl,rfl,rfl,by decide +kernel,rfl,by decide +kernel,by decide +kernel⟩
theorem cc7:Ap az8 (Aa Sf)=true:=by decide +kernel
noncomputable def b93 (K:aa) (t:Adr):DS:=
 (Ah (As (Cm K (dFn (spE (Ng K t) []) (Ab (Ac 0) (Ab (dC (.int 0)) (Ab (dC (.int 60)) Ag)))) (dFn (fun vs H Q _=>(Wd K) vs H Q) (Ab (Ef [none] (Go K (Ac 0)) (gdN 0) G9 (dFn (spE (ah3 K t) []) (Ab (Ac 0) Ag))) Ag))))
 Af)
theorem bh8 (K:aa) (t:Adr):wSs 40 (Au K Xt (Aa Kc) (Ha K t) bl) (Ai Kc)=b93 K t:=by kernel_rfl
theorem bl9:Aj Xt On (Aa Kc):=⟨rfl,rfl,rfl,by decide +kernel,rfl,by decide +kernel,by decide +kernel⟩
theorem br3:Ap Xt (Aa Kc)=true:=by decide +kernel
noncomputable def aw4 (K:aa) (t:Adr):DS:=
 (Ah (As (Cy Fh Fh (dC (.str "a")) (Ac 0) (dC (.str "z"))))
 Af)
theorem bg6 (K:aa) (t:Adr):wSs 40 (Au K Xh (Aa J1) (Az K t) bl) (Ai J1)=aw4 K t:=by kernel_rfl
theorem bk7:Aj Xh Oa (Aa J1):=⟨rfl,rfl,rfl,by decide +kernel,rfl,by decide +kernel,by decide +kernel⟩
theorem bq1:Ap Xh (Aa J1)=true:=by decide +kernel
noncomputable def aw3 (K:aa) (t:Adr):DS:=
 (Ah (As (Cy Fh Fh (dC (.str "0")) (Ac 0) (dC (.str "9"))))
 Af)
theorem bg5 (K:aa) (t:Adr):wSs 40 (Au K Xg (Aa J0) (Az K t) bl) (Ai J0)=aw3 K t:=by kernel_rfl
theorem bk6:Aj Xg N9 (Aa J0):=⟨rfl,rfl,rfl,by decide +kernel,rfl,by decide +kernel,by decide +kernel⟩
theorem bq0:Ap Xg (Aa J0)=true:=by decide +kernel
noncomputable def cj2 (K:aa) (t:Adr):DS:=
 (Ah (As (aj5 K (dFn (spE (Sm K t) []) (Ab (Ac 0) Ag)) (aj5 K (dFn (spE (Sl K t) []) (Ab (Ac 0) Ag)) (Ae (Bj K false) (Ac 0) (dC (.str "."))))))
 Af)
theorem b24 (K:aa) (t:Adr):wSs 40 (Au K az7 (Aa Se) (Ha K t) bl) (Ai Se)=cj2 K t:=by kernel_rfl
theorem b50:Aj az7 Yn (Aa Se):=⟨rfl,rfl,rfl,by decide +kernel,rfl,by decide +kernel,by decide +kernel⟩
theorem cc6:Ap az7 (Aa Se)=true:=by decide +kernel
noncomputable def b91 (K:aa) (t:Adr):DS:=
 (Ah (As (Cm K (dFn (spE (Ng K t) []) (Ab (Ac 0) (Ab (dC (.int 1)) (Ab (dC (.int 12)) Ag)))) (dFn (fun vs H Q _=>(Wd K) vs H Q) (Ab (Ef [none] (Go K (Ac 0)) (gdN 0) G9 (dFn (spE (ah2 K t) []) (Ab (Ac 0) Ag))) Ag))))
 Af)
theorem bh6 (K:aa) (t:Adr):wSs 40 (Au K Xr (Aa Ka) (Di K t) bl) (Ai Ka)=b91 K t:=by kernel_rfl
theorem bl7:Aj Xr Ol (Aa Ka):=⟨rfl,rfl,rfl,by decide +kernel,rfl,by decide +kernel,by decide +kernel⟩
theorem br1:Ap Xr (Aa Ka)=true:=by decide +kernel
noncomputable def b96 (K:aa) (t:Adr):DS:=
 (Ah (dIf (O6 (Ku K (Ac 0))) (Ah (Cd K (dFn (fun vs H Q E=>vs.length<=1000/\mkX t.c_zbw none 0 vs H Q E) (Ab (dC (.str "a thing in the edit is not what it has to be")) Ag)))
  Af) Af)
 Af)
theorem bi1 (K:aa) (t:Adr):wSs 40 (Au K Xw (Aa Kf) (Az K t) bl) (Ai Kf)=b96 K t:=by kernel_rfl
theorem bm2:Aj Xw Oq (Aa Kf):=⟨rfl,rfl,rfl,by decide +kernel,rfl,by decide +kernel,by decide +kernel⟩
theorem br6:Ap Xw (Aa Kf)=true:=by decide +kernel
noncomputable def ci8 (K:aa) (t:Adr):DS:=
 (Ah (A9 (dFn (spE (Ew K t) []) (Ab (dFn (spE (Ss K t) []) (Ab (Ac 1) Ag)) Ag)))
 (Ah (E7 K "part" (Ac 0) (Ac 1))
 Af))
theorem b20 (K:aa) (t:Adr):wSs 40 (Au K az3 (Aa Sa) (Fu K t) bl) (Ai Sa)=ci8 K t:=by kernel_rfl
theorem b46:Aj az3 Yj (Aa Sa):=⟨rfl,rfl,rfl,by decide +kernel,rfl,by decide +kernel,by decide +kernel⟩
theorem cc2:Ap az3 (Aa Sa)=true:=by decide +kernel
noncomputable def cj1 (K:aa) (t:Adr):DS:=
 (Ah (A9 (dFn (spE (U3 K t) []) (Ab (Ac 0) (Ab (Ac 1) Ag))))
 Af)
theorem b23 (K:aa) (t:Adr):wSs 40 (Au K az6 (Aa Sd) (Hb K t) bl) (Ai Sd)=cj1 K t:=by kernel_rfl
theorem b49:Aj az6 Ym (Aa Sd):=⟨rfl,rfl,rfl,by decide +kernel,rfl,by decide +kernel,by decide +kernel⟩
theorem cc5:Ap az6 (Aa Sd)=true:=by decide +kernel
noncomputable def b72 (K:aa) (t:Adr):DS:=
 (Ah (A9 (dFn (spE (U4 K t) []) (Ab (Ac 0) (Ab (Ac 1) Ag))))
 (Ah (A9 (dFn (spE (Ew K t) []) (Ab (dFn (spE (G0 K t) []) (Ab (Ac 2) Ag)) Ag)))
 (Ah (E7 K "text" (Ac 0) (Ac 2))
 Af)))
theorem bf5 (K:aa) (t:Adr):wSs 40 (Au K W6 (Aa Jr) (Fv K t) bl) (Ai Jr)=b72 K t:=by kernel_rfl
theorem bj6:Aj W6 Nz (Aa Jr):=⟨rfl,rfl,rfl,by decide +kernel,rfl,by decide +kernel,by decide +kernel⟩
theorem bp0:Ap W6 (Aa Jr)=true:=by decide +kernel
noncomputable def b84 (K:aa) (t:Adr):DS:=
 (Ah (As (Cm K (dFn (fun vs H Q _=>(Dx K) vs H Q) (Ab (Ac 0) (Ab (dC (.ty "int")) Ag))) (Y3 K (dFn (fun vs H Q _=>(Dx K) vs H Q) (Ab (Ac 0) (Ab (dC (.ty "bool")) Ag))))))
 Af)
theorem bg9 (K:aa) (t:Adr):wSs 40 (Au K Xk (Aa J4) (Az K t) bl) (Ai J4)=b84 K t:=by kernel_rfl
theorem bl0:Aj Xk Od (Aa J4):=⟨rfl,rfl,rfl,by decide +kernel,rfl,by decide +kernel,by decide +kernel⟩
theorem bq4:Ap Xk (Aa J4)=true:=by decide +kernel
noncomputable def b92 (K:aa) (t:Adr):DS:=
 (Ah (As (Cm K (dFn (spE (So K t) []) (Ab (Ac 0) Ag)) (Cy Fh Fh (dC (.int 0)) (Ac 0) (dC (.int 1000000000)))))
 Af)
theorem bh7 (K:aa) (t:Adr):wSs 40 (Au K Xs (Aa Kb) (Ha K t) bl) (Ai Kb)=b92 K t:=by kernel_rfl
theorem bl8:Aj Xs Om (Aa Kb):=⟨rfl,rfl,rfl,by decide +kernel,rfl,by decide +kernel,by decide +kernel⟩
theorem br2:Ap Xs (Aa Kb)=true:=by decide +kernel
noncomputable def b68 (K:aa) (t:Adr):DS:=
 (Ah (A9 (dFn (spE (U4 K t) []) (Ab (Ac 0) (Ab (Ac 1) Ag))))
 (Ah (A9 (dFn (spE (Ew K t) []) (Ab (Cm K (dFn (spE (Ev K t) []) (Ab (Ac 2) Ag)) (Cm K (dFn (spE (Ev K t) []) (Ab (Ac 3) Ag)) (dFn (spE (G0 K t) []) (Ab (Ac 4) Ag)))) Ag)))
 (Ah (E7 K "at" (Ac 0) (Ac 2))
 (Ah (E7 K "size" (Ac 0) (Ac 3))
 (Ah (E7 K "text" (Ac 0) (Ac 4))
 Af)))))
theorem bf1 (K:aa) (t:Adr):wSs 40 (Au K W2 (Aa Jn) (Fv K t) bl) (Ai Jn)=b68 K t:=by kernel_rfl
theorem bj2:Aj W2 Nv (Aa Jn):=⟨rfl,rfl,rfl,by decide +kernel,rfl,by decide +kernel,by decide +kernel⟩
theorem bo6:Ap W2 (Aa Jn)=true:=by decide +kernel
noncomputable def ci6 (K:aa) (t:Adr):DS:=
 (Ah (A9 (dFn (spE (U3 K t) []) (Ab (Ac 0) (Ab (Ac 1) Ag))))
 Af)
theorem b18 (K:aa) (t:Adr):wSs 40 (Au K az1 (Aa R8) (Hb K t) bl) (Ai R8)=ci6 K t:=by kernel_rfl
theorem b44:Aj az1 Yh (Aa R8):=⟨rfl,rfl,rfl,by decide +kernel,rfl,by decide +kernel,by decide +kernel⟩
theorem cc0:Ap az1 (Aa R8)=true:=by decide +kernel
noncomputable def b76 (K:aa) (t:Adr):DS:=
 (Ah (A9 (dFn (spE (P8 K t) []) (Ab (Ac 0) (Ab (Ac 1) Ag))))
 (Ah (A9 (dFn (spE (Ew K t) []) (Ab (Cm K (dFn (spE (Ev K t) []) (Ab (Ac 2) Ag)) (Cm K (dFn (spE (Ev K t) []) (Ab (Ac 3) Ag)) (dFn (spE (G0 K t) []) (Ab (Ac 4) Ag)))) Ag)))
 (Ah (E7 K "row" (Ac 0) (Ac 2))
 (Ah (E7 K "column" (Ac 0) (Ac 3))
 (Ah (E7 K "text" (Ac 0) (Ac 4))
 Af)))))
theorem bf9 (K:aa) (t:Adr):wSs 40 (Au K Xa (Aa Jv) (Fv K t) bl) (Ai Jv)=b76 K t:=by kernel_rfl
theorem bk0:Aj Xa N3 (Aa Jv):=⟨rfl,rfl,rfl,by decide +kernel,rfl,by decide +kernel,by decide +kernel⟩
theorem bp4:Ap Xa (Aa Jv)=true:=by decide +kernel
noncomputable def b70 (K:aa) (t:Adr):DS:=
 (Ah (As (Cm K (dFn (fun vs H Q _=>(Dx K) vs H Q) (Ab (Ac 0) (Ab (dC (.ty "tuple")) Ag))) (Cy Fh Fh (dC (.int 1)) (dFn (fun vs H Q _=>(Bu K) vs H Q) (Ab (Ac 0) Ag)) (Ac 1))))
 Af)
theorem bf3 (K:aa) (t:Adr):wSs 40 (Au K W4 (Aa Jp) (Az K t) bl) (Ai Jp)=b70 K t:=by kernel_rfl
theorem bj4:Aj W4 Nx (Aa Jp):=⟨rfl,rfl,rfl,by decide +kernel,rfl,by decide +kernel,by decide +kernel⟩
theorem bo8:Ap W4 (Aa Jp)=true:=by decide +kernel
noncomputable def b97 (K:aa) (t:Adr):DS:=
 (Ah (As (Cm K (dFn (spE (Sk K t) []) (Ab (Ac 0) (Ab (dC (.int 6)) Ag))) (dFn (fun vs H Q _=>(Wd K) vs H Q) (Ab (Ef [none] (Go K (Ac 0)) (gdN 0) G9 (dFn (spE (G0 K t) []) (Ab (Ac 0) Ag))) Ag))))
 Af)
theorem bi2 (K:aa) (t:Adr):wSs 40 (Au K Xx (Aa Kg) (Di K t) bl) (Ai Kg)=b97 K t:=by kernel_rfl
theorem bm3:Aj Xx Os (Aa Kg):=⟨rfl,rfl,rfl,by decide +kernel,rfl,by decide +kernel,by decide +kernel⟩
theorem br7:Ap Xx (Aa Kg)=true:=by decide +kernel
noncomputable def b62 (K:aa) (t:Adr):DS:=
 (Ah (A9 (dFn (spE (P8 K t) []) (Ab (Ac 0) (Ab (Ac 1) Ag))))
 (Ah (A9 (dFn (spE (Ew K t) []) (Ab (Cm K (dFn (spE (Ev K t) []) (Ab (Ac 2) Ag)) (dFn (spE (Sv K t) []) (Ab (Ac 3) Ag))) Ag)))
 (Ah (E7 K "at" (Ac 0) (Ac 2))
 (Ah (E7 K "cells" (Ac 0) (Ac 3))
 Af))))
theorem be5 (K:aa) (t:Adr):wSs 40 (Au K Ww (Aa Jh) (Fv K t) bl) (Ai Jh)=b62 K t:=by kernel_rfl
theorem bi6:Aj Ww No (Aa Jh):=⟨rfl,rfl,rfl,by decide +kernel,rfl,by decide +kernel,by decide +kernel⟩
theorem bo0:Ap Ww (Aa Jh)=true:=by decide +kernel
noncomputable def b64 (K:aa) (t:Adr):DS:=
 (Ah (A9 (dFn (spE (P8 K t) []) (Ab (Ac 0) (Ab (Ac 1) Ag))))
 (Ah (A9 (dFn (spE (Ew K t) []) (Ab (dFn (spE (Ev K t) []) (Ab (Ac 2) Ag)) Ag)))
 (Ah (E7 K "at" (Ac 0) (Ac 2))
 Af)))
theorem be7 (K:aa) (t:Adr):wSs 40 (Au K Wy (Aa Jj) (Fv K t) bl) (Ai Jj)=b64 K t:=by kernel_rfl
theorem bi8:Aj Wy Nq (Aa Jj):=⟨rfl,rfl,rfl,by decide +kernel,rfl,by decide +kernel,by decide +kernel⟩
theorem bo2:Ap Wy (Aa Jj)=true:=by decide +kernel
noncomputable def b87 (K:aa) (t:Adr):DS:=
 (Ah (dIf (A5 (Ae (Bj K false) (Ae (Am K) (Ac 0) (dC (.int 0))) (dC (.str "write")))) (Ah (As (dFn (mkC t.c_zcd (some (Tz K t)) 0) (Ab (Ae (Am K) (Ac 0) (dC (.int 1))) (Ab (Ae (Am K) (Ac 0) (dC (.int 2))) Ag))))
  Af) Af)
 (Ah (dIf (A5 (Ae (Bj K false) (Ae (Am K) (Ac 0) (dC (.int 0))) (dC (.str "splice")))) (Ah (As (dFn (mkC t.c_zcb (some (Tx K t)) 0) (Ab (Ae (Am K) (Ac 0) (dC (.int 1))) (Ab (Ae (Am K) (Ac 0) (dC (.int 2))) (Ab (Ae (Am K) (Ac 0) (dC (.int 3))) (Ab (Ae (Am K) (Ac 0) (dC (.int 4))) Ag))))))
  Af) Af)
 (Ah (dIf (A5 (Ae (Bj K false) (Ae (Am K) (Ac 0) (dC (.int 0))) (dC (.str "cell")))) (Ah (As (dFn (mkC t.c_zce (some (Ua K t)) 0) (Ab (Ae (Am K) (Ac 0) (dC (.int 1))) (Ab (Ae (Am K) (Ac 0) (dC (.int 2))) (Ab (Ae (Am K) (Ac 0) (dC (.int 3))) (Ab (Ae (Am K) (Ac 0) (dC (.int 4))) Ag))))))
  Af) Af)
 (Ah (dIf (A5 (Ae (Bj K false) (Ae (Am K) (Ac 0) (dC (.int 0))) (dC (.str "addrow")))) (Ah (As (dFn (mkC t.c_zby (some (Tv K t)) 0) (Ab (Ae (Am K) (Ac 0) (dC (.int 1))) (Ab (Ae (Am K) (Ac 0) (dC (.int 2))) (Ab (Ae (Am K) (Ac 0) (dC (.int 3))) Ag)))))
  Af) Af)
 (Ah (As (dFn (mkC t.c_zbz (some (Tw K t)) 0) (Ab (Ae (Am K) (Ac 0) (dC (.int 1))) (Ab (Ae (Am K) (Ac 0) (dC (.int 2))) Ag))))
 Af)))))
theorem bh2 (K:aa) (t:Adr):wSs 40 (Au K Xn (Aa J7) (ak0 K t) bl) (Ai J7)=b87 K t:=by kernel_rfl
theorem bl3:Aj Xn Og (Aa J7):=⟨rfl,rfl,rfl,by decide +kernel,rfl,by decide +kernel,by decide +kernel⟩
theorem bq7:Ap Xn (Aa J7)=true:=by decide +kernel
noncomputable def cj3 (K:aa) (t:Adr):DS:=
 (Ah (A2 2 (dFn (fun vs H Q _=>(Ri K true) vs H Q) (Ab (Ac 0) Ag)))
 (Ah (dIf (A5 (Ae (Bj K false) (Ae (Am K) (Ac 1) (dC (.int 0))) (dC (.str "cell")))) (Ah (dIf (dOr (A5 (Ae P0 (Ae (Am K) (Ac 1) (dC (.int 2))) (dFn (fun vs H Q _=>(Bu K) vs H Q) (Ab (Ac 0) Ag)))) (A5 (Ae P0 (Ae (Am K) (Ac 1) (dC (.int 3))) (dFn (fun vs H Q _=>(Bu K) vs H Q) (Ab (Ae (Am K) (Ac 0) (dC (.int 0))) Ag))))) (Ah (As (dC (.str "far")))
   Af) Af)
  (Ah (A2 3 (dFn (fun vs H Q _=>(Ri K true) vs H Q) (Ab (Ae (Am K) (Ac 2) (Ae (Am K) (Ac 1) (dC (.int 2)))) Ag)))
  (Ah (G8 (Ae (Am K) (Ac 1) (dC (.int 4))) (Fw K (Ac 3) (Ae (Am K) (Ac 1) (dC (.int 3)))))
  (Ah (G8 (dFn (fun vs H Q _=>(Er K) vs H Q) (Ab (Ac 3) Ag)) (Fw K (Ac 2) (Ae (Am K) (Ac 1) (dC (.int 2)))))
  Af)))) (Ah (dIf (A5 (Ae (Bj K false) (Ae (Am K) (Ac 1) (dC (.int 0))) (dC (.str "addrow")))) (Ah (dIf (dOr (A5 (Ae P1 (Ae (Am K) (Ac 1) (dC (.int 2))) (dFn (fun vs H Q _=>(Bu K) vs H Q) (Ab (Ac 0) Ag)))) (A5 (Ae (Bj K true) (dFn (fun vs H Q _=>(Bu K) vs H Q) (Ab (Ae (Am K) (Ac 1) (dC (.int 3))) Ag)) (dFn (fun vs H Q _=>(Bu K) vs H Q) (Ab (Ae (Am K) (Ac 0) (dC (.int 0))) Ag))))) (Ah (As (dC (.str "far")))
    Af) Af)
   (Ah (A9 (dMt (rMt K [⟨"list", "list.insert", Hn⟩]) (Ac 2) (Ab (Ae (Am K) (Ac 1) (dC (.int 2))) (Ab (Ae (Am K) (Ac 1) (dC (.int 3))) Ag))))
   Af)) (Ah (dIf (dOr (A5 (Ae P0 (Ae (Am K) (Ac 1) (dC (.int 2))) (dFn (fun vs H Q _=>(Bu K) vs H Q) (Ab (Ac 0) Ag)))) (A5 (Ae (Bj K false) (dFn (fun vs H Q _=>(Bu K) vs H Q) (Ab (Ac 0) Ag)) (dC (.int 1))))) (Ah (As (dC (.str "far")))
    Af) Af)
   (Ah (A9 (dMt (rMt K [⟨"list", "list.pop", ae3⟩]) (Ac 2) (Ab (Ae (Am K) (Ac 1) (dC (.int 2))) Ag)))
   Af)))
  Af))
 (Ah (As (dFn (fun vs H Q _=>(Er K) vs H Q) (Ab (Ac 2) Ag)))
 Af)))
theorem b26 (K:aa) (t:Adr):wSs 40 (Au K az9 (Aa Sh) (Az K t) bl) (Ai Sh)=cj3 K t:=by kernel_rfl
theorem b52:Aj az9 Yp (Aa Sh):=⟨rfl,rfl,rfl,by decide +kernel,rfl,by decide +kernel,by decide +kernel⟩
theorem cc8:Ap az9 (Aa Sh)=true:=by decide +kernel
noncomputable def b94 (K:aa) (t:Adr):DS:=
 (Ah (dIf (A5 (Ae (We K true) (Ae (Am K) (Ac 1) (dC (.int 1))) (Ac 0))) (Ah (As (Bq (Ab (dC (.str "no part")) (Ab (dC (.str "")) Ag))))
  Af) Af)
 (Ah (A2 2 (Ae (Am K) (Ae (Am K) (Ac 0) (Ae (Am K) (Ac 1) (dC (.int 1)))) (dC (.int 3))))
 (Ah (dIf (A5 (Ae (Bj K true) (dFn (fun vs H Q _=>(Dx K) vs H Q) (Ab (Ac 2) (Ab (dC (.ty "tuple")) Ag))) (Ae (We K false) (Ae (Am K) (Ac 1) (dC (.int 0))) (Bq (Ab (dC (.str "cell")) (Ab (dC (.str "addrow")) (Ab (dC (.str "cutrow")) Ag))))))) (Ah (As (Bq (Ab (dC (.str "wrong kind")) (Ab (dC (.str "")) Ag))))
  Af) Af)
 (Ah (dIf (Ku K (dFn (fun vs H Q _=>(Dx K) vs H Q) (Ab (Ac 2) (Ab (dC (.ty "tuple")) Ag)))) (Ah (A2 3 (dFn (spE (ah4 K t) []) (Ab (Ac 2) (Ab (Ac 1) Ag))))
  (Ah (dIf (A5 (Ae (Bj K false) (Ac 3) (dC (.str "far")))) (Ah (As (Bq (Ab (dC (.str "far")) (Ab (dC (.str "")) Ag))))
   Af) Af)
  (Ah (As (Ae (Am K) (Dg (Ab (Bq (Ab (dC (.str "good")) (Ab (Ac 3) Ag))) (Ab (Bq (Ab (dC (.str "long")) (Ab (dC (.str "")) Ag))) Ag))) (dFn (fun vs H Q _=>Wf vs H Q) (Ab (Ae P1 (dFn (fun vs H Q _=>(Bu K) vs H Q) (Ab (Ac 3) Ag)) (dC (.int 6))) Ag))))
  Af))) Af)
 (Ah (dIf (A5 (Ae (Bj K false) (Ae (Am K) (Ac 1) (dC (.int 0))) (dC (.str "write")))) (Ah (As (Bq (Ab (dC (.str "good")) (Ab (Ae (Am K) (Ac 1) (dC (.int 2))) Ag))))
  Af) Af)
 (Ah (dIf (A5 (Ae P1 (Ae (Ar K) (Ae (Am K) (Ac 1) (dC (.int 2))) (Ae (Am K) (Ac 1) (dC (.int 3)))) (dFn (fun vs H Q _=>(Bu K) vs H Q) (Ab (Ac 2) Ag)))) (Ah (As (Bq (Ab (dC (.str "far")) (Ab (dC (.str "")) Ag))))
  Af) Af)
 (Ah (A2 3 (Ae (Ar K) (Ae (Ar K) (dSl K (Ac 2) Bi (Ch (Ae (Am K) (Ac 1) (dC (.int 2))))) (Ae (Am K) (Ac 1) (dC (.int 4)))) (dSl K (Ac 2) (Ch (Ae (Ar K) (Ae (Am K) (Ac 1) (dC (.int 2))) (Ae (Am K) (Ac 1) (dC (.int 3))))) Bi)))
 (Ah (As (Ae (Am K) (Dg (Ab (Bq (Ab (dC (.str "good")) (Ab (Ac 3) Ag))) (Ab (Bq (Ab (dC (.str "long")) (Ab (dC (.str "")) Ag))) Ag))) (dFn (fun vs H Q _=>Wf vs H Q) (Ab (Ae P1 (dFn (fun vs H Q _=>(Bu K) vs H Q) (Ab (Ac 3) Ag)) (dC (.int 60))) Ag))))
 Af))))))))
theorem bh9 (K:aa) (t:Adr):wSs 40 (Au K Xu (Aa Kd) (Ha K t) bl) (Ai Kd)=b94 K t:=by kernel_rfl
theorem bm0:Aj Xu Oo (Aa Kd):=⟨rfl,rfl,rfl,by decide +kernel,rfl,by decide +kernel,by decide +kernel⟩
theorem br4:Ap Xu (Aa Kd)=true:=by decide +kernel
noncomputable def ci4 (K:aa) (t:Adr):DS:=
 (Ah (E7 K "part" (Ac 0) (Ac 1))
 (Ah (E7 K "choice" (Ac 0) (Ac 2))
 Af))
theorem b16 (K:aa) (t:Adr):wSs 40 (Au K ay9 (Aa Gy) (Az K t) bl) (Ai Gy)=ci4 K t:=by kernel_rfl
theorem b42:Aj ay9 Yf (Aa Gy):=⟨rfl,rfl,rfl,by decide +kernel,rfl,by decide +kernel,by decide +kernel⟩
theorem cb8:Ap ay9 (Aa Gy)=true:=by decide +kernel
noncomputable def b80 (K:aa) (t:Adr):DS:=
 (Ah (As (Ae (We K false) (Ac 1) (dUn (Ao K "records") (Ac 0))))
 Af)
theorem bg3 (K:aa) (t:Adr):wSs 40 (Au K Xe (Aa Jy) (Az K t) bl) (Ai Jy)=b80 K t:=by kernel_rfl
theorem bk4:Aj Xe N7 (Aa Jy):=⟨rfl,rfl,rfl,by decide +kernel,rfl,by decide +kernel,by decide +kernel⟩
theorem bp8:Ap Xe (Aa Jy)=true:=by decide +kernel
noncomputable def b67 (K:aa) (t:Adr):DS:=
 (Ah (dIf (A5 (Ae (We K true) (Ac 1) (dUn (Ao K "records") (Ac 0)))) (Ah (Cd K (dFn (fun vs H Q E=>vs.length<=1000/\mkX t.c_zca (some (Dc K t)) 0 vs H Q E) (Ab (Ac 1) Ag)))
  Af) Af)
 (Ah (As (Ae (Am K) (dUn (Ao K "records") (Ac 0)) (Ac 1)))
 Af))
theorem bf0 (K:aa) (t:Adr):wSs 40 (Au K W1 (Aa Jm) (Di K t) bl) (Ai Jm)=b67 K t:=by kernel_rfl
theorem bj1:Aj W1 Nu (Aa Jm):=⟨rfl,rfl,rfl,by decide +kernel,rfl,by decide +kernel,by decide +kernel⟩
theorem bo5:Ap W1 (Aa Jm)=true:=by decide +kernel
noncomputable def ci9 (K:aa) (t:Adr):DS:=
 (Ah (As (Ae (Am K) (Bm "state" 1 (C5 K t) (Ac 0) (Ab (Ac 1) Ag)) (dC (.int 0))))
 Af)
theorem b21 (K:aa) (t:Adr):wSs 40 (Au K az4 (Aa Sb) (Fu K t) bl) (Ai Sb)=ci9 K t:=by kernel_rfl
theorem b47:Aj az4 Yk (Aa Sb):=⟨rfl,rfl,rfl,by decide +kernel,rfl,by decide +kernel,by decide +kernel⟩
theorem cc3:Ap az4 (Aa Sb)=true:=by decide +kernel
noncomputable def ch5 (K:aa) (t:Adr):DS:=
 (Ah (As (Ae (Am K) (Bm "state" 1 (C5 K t) (Ac 0) (Ab (Ac 1) Ag)) (dC (.int 3))))
 Af)
theorem b05 (K:aa) (t:Adr):wSs 40 (Au K ay0 (Aa Rv) (Fu K t) bl) (Ai Rv)=ch5 K t:=by kernel_rfl
theorem b33:Aj ay0 X6 (Aa Rv):=⟨rfl,rfl,rfl,by decide +kernel,rfl,by decide +kernel,by decide +kernel⟩
theorem ca9:Ap ay0 (Aa Rv)=true:=by decide +kernel
noncomputable def ci2 (K:aa) (t:Adr):DS:=
 (Ah Af
 Af)
theorem b14 (K:aa) (t:Adr):wSs 40 (Au K ay7 (Aa R5) (Az K t) bl) (Ai R5)=ci2 K t:=by kernel_rfl
theorem b40:Aj ay7 Yd (Aa R5):=⟨rfl,rfl,rfl,by decide +kernel,rfl,by decide +kernel,by decide +kernel⟩
theorem cb6:Ap ay7 (Aa R5)=true:=by decide +kernel
noncomputable def ch6 (K:aa) (t:Adr):DS:=
 (Ah (dIf (A5 (Ae P1 (Ae (Ar K) (dUn (Ao K "at") (Ac 0)) (dUn (Ao K "size") (Ac 0))) (dFn (fun vs H Q _=>(Bu K) vs H Q) (Ab (Ac 1) Ag)))) (Ah (Cd K (dFn (fun vs H Q E=>vs.length<=1000/\mkX t.c_zcf (some (Dc K t)) 1 vs H Q E) (Ab (dUn (Ao K "part") (Ac 0)) (Ab (Ac 2) Ag))))
  Af) Af)
 (Ah (dIf (A5 (Ae P1 (Ae (Ar K) (Ae Jg (dFn (fun vs H Q _=>(Bu K) vs H Q) (Ab (Ac 1) Ag)) (dUn (Ao K "size") (Ac 0))) (dFn (fun vs H Q _=>(Bu K) vs H Q) (Ab (dUn (Ao K "text") (Ac 0)) Ag))) (dC (.int 60)))) (Ah (Cd K (dFn (fun vs H Q E=>vs.length<=1000/\mkX t.c_zbx (some (Dc K t)) 1 vs H Q E) (Ab (dUn (Ao K "part") (Ac 0)) (Ab (Ac 2) Ag))))
  Af) Af)
 Af))
theorem b06 (K:aa) (t:Adr):wSs 40 (Au K ay1 (Aa Rw) (Di K t) bl) (Ai Rw)=ch6 K t:=by kernel_rfl
theorem b34:Aj ay1 X7 (Aa Rw):=⟨rfl,rfl,rfl,by decide +kernel,rfl,by decide +kernel,by decide +kernel⟩
theorem cb0:Ap ay1 (Aa Rw)=true:=by decide +kernel
noncomputable def ch0 (K:aa) (t:Adr):DS:=
 (Ah (dIf (A5 (Ae (Bj K false) (Bm "kind_of" 1 (C4 K t) (Ac 1) (Ab (dUn (Ao K "part") (Ac 0)) Ag)) (dC (.str "table")))) (Ah (Cd K (dFn (fun vs H Q E=>vs.length<=1000/\mkX t.c_zbv (some (Dc K t)) 1 vs H Q E) (Ab (dUn (Ao K "part") (Ac 0)) (Ab (Ac 2) Ag))))
  Af) Af)
 (Ah (A9 (Bm "need_text" 2 (Cq K t) (Ac 0) (Ab (Bm "content_of" 1 (Bl K t) (Ac 1) (Ab (dUn (Ao K "part") (Ac 0)) Ag)) (Ab (Ac 2) Ag))))
 Af))
theorem b00 (K:aa) (t:Adr):wSs 40 (Au K ax5 (Aa Rp) (Pf K t) bl) (Ai Rp)=ch0 K t:=by kernel_rfl
theorem b28:Aj ax5 X1 (Aa Rp):=⟨rfl,rfl,rfl,by decide +kernel,rfl,by decide +kernel,by decide +kernel⟩
theorem ca4:Ap ax5 (Aa Rp)=true:=by decide +kernel
noncomputable def ch8 (K:aa) (t:Adr):DS:=
 (Ah (dIf (dOr (A5 (Ae P0 (dUn (Ao K "row") (Ac 0)) (dFn (fun vs H Q _=>(Bu K) vs H Q) (Ab (Ac 1) Ag)))) (A5 (Ae P0 (dUn (Ao K "column") (Ac 0)) (dFn (fun vs H Q _=>(Bu K) vs H Q) (Ab (Ae (Am K) (Ac 1) (dC (.int 0))) Ag))))) (Ah (Cd K (dFn (fun vs H Q E=>vs.length<=1000/\mkX t.c_zcf (some (Dc K t)) 1 vs H Q E) (Ab (dUn (Ao K "part") (Ac 0)) (Ab (Ac 2) Ag))))
  Af) Af)
 Af)
theorem b08 (K:aa) (t:Adr):wSs 40 (Au K ay3 (Aa Ry) (Di K t) bl) (Ai Ry)=ch8 K t:=by kernel_rfl
theorem b36:Aj ay3 X9 (Aa Ry):=⟨rfl,rfl,rfl,by decide +kernel,rfl,by decide +kernel,by decide +kernel⟩
theorem cb2:Ap ay3 (Aa Ry)=true:=by decide +kernel
noncomputable def ch1 (K:aa) (t:Adr):DS:=
 (Ah (dIf (dOr (A5 (Ae P1 (dUn (Ao K "at") (Ac 0)) (dFn (fun vs H Q _=>(Bu K) vs H Q) (Ab (Ac 1) Ag)))) (A5 (Ae (Bj K true) (dFn (fun vs H Q _=>(Bu K) vs H Q) (Ab (dUn (Ao K "cells") (Ac 0)) Ag)) (dFn (fun vs H Q _=>(Bu K) vs H Q) (Ab (Ae (Am K) (Ac 1) (dC (.int 0))) Ag))))) (Ah (Cd K (dFn (fun vs H Q E=>vs.length<=1000/\mkX t.c_zcf (some (Dc K t)) 1 vs H Q E) (Ab (dUn (Ao K "part") (Ac 0)) (Ab (Ac 2) Ag))))
  Af) Af)
 (Ah (dIf (A5 (Ae P0 (dFn (fun vs H Q _=>(Bu K) vs H Q) (Ab (Ac 1) Ag)) (dC (.int 6)))) (Ah (Cd K (dFn (fun vs H Q E=>vs.length<=1000/\mkX t.c_zbx (some (Dc K t)) 1 vs H Q E) (Ab (dUn (Ao K "part") (Ac 0)) (Ab (Ac 2) Ag))))
  Af) Af)
 Af))
theorem b01 (K:aa) (t:Adr):wSs 40 (Au K ax6 (Aa Rq) (Di K t) bl) (Ai Rq)=ch1 K t:=by kernel_rfl
theorem b29:Aj ax6 X2 (Aa Rq):=⟨rfl,rfl,rfl,by decide +kernel,rfl,by decide +kernel,by decide +kernel⟩
theorem ca5:Ap ax6 (Aa Rq)=true:=by decide +kernel
noncomputable def ch2 (K:aa) (t:Adr):DS:=
 (Ah (dIf (dOr (A5 (Ae P0 (dUn (Ao K "at") (Ac 0)) (dFn (fun vs H Q _=>(Bu K) vs H Q) (Ab (Ac 1) Ag)))) (A5 (Ae (Bj K false) (dFn (fun vs H Q _=>(Bu K) vs H Q) (Ab (Ac 1) Ag)) (dC (.int 1))))) (Ah (Cd K (dFn (fun vs H Q E=>vs.length<=1000/\mkX t.c_zcf (some (Dc K t)) 1 vs H Q E) (Ab (dUn (Ao K "part") (Ac 0)) (Ab (Ac 2) Ag))))
  Af) Af)
 Af)
theorem b02 (K:aa) (t:Adr):wSs 40 (Au K ax7 (Aa Rr) (Di K t) bl) (Ai Rr)=ch2 K t:=by kernel_rfl
theorem b30:Aj ax7 X3 (Aa Rr):=⟨rfl,rfl,rfl,by decide +kernel,rfl,by decide +kernel,by decide +kernel⟩
theorem ca6:Ap ax7 (Aa Rr)=true:=by decide +kernel
noncomputable def cg9 (K:aa) (t:Adr):DS:=
 (Ah (dIf (A5 (Ae (Bj K true) (Bm "kind_of" 1 (C4 K t) (Ac 1) (Ab (dUn (Ao K "part") (Ac 0)) Ag)) (dC (.str "table")))) (Ah (Cd K (dFn (fun vs H Q E=>vs.length<=1000/\mkX t.c_zbv (some (Dc K t)) 1 vs H Q E) (Ab (dUn (Ao K "part") (Ac 0)) (Ab (Ac 2) Ag))))
  Af) Af)
 (Ah (A9 (Bm "need_table" 2 (Cg K t) (Ac 0) (Ab (Bm "content_of" 1 (Bl K t) (Ac 1) (Ab (dUn (Ao K "part") (Ac 0)) Ag)) (Ab (Ac 2) Ag))))
 Af))
theorem bz9 (K:aa) (t:Adr):wSs 40 (Au K ax4 (Aa Ro) (Pf K t) bl) (Ai Ro)=cg9 K t:=by kernel_rfl
theorem b27:Aj ax4 X0 (Aa Ro):=⟨rfl,rfl,rfl,by decide +kernel,rfl,by decide +kernel,by decide +kernel⟩
theorem ca3:Ap ax4 (Aa Ro)=true:=by decide +kernel
noncomputable def b79 (K:aa) (t:Adr):DS:=
 (Ah (dIf (Y0 (A5 (Ae (Bj K true) (Bm "about" 0 (Ci K t) (Ac 0) Ag) (dC (.str "")))) (O6 (Ku K (Bm "has" 1 (Q5 K t) (Ac 1) (Ab (Bm "about" 0 (Ci K t) (Ac 0) Ag) Ag))))) (Ah (Cd K (dFn (fun vs H Q E=>vs.length<=1000/\mkX t.c_zca (some (Dc K t)) 1 vs H Q E) (Ab (Bm "about" 0 (Ci K t) (Ac 0) Ag) (Ab (Ac 2) Ag))))
  Af) Af)
 (Ah (A9 (Bm "need_rest" 2 (Cp K t) (Ac 0) (Ab (Ac 1) (Ab (Ac 2) Ag))))
 Af))
theorem bg2 (K:aa) (t:Adr):wSs 40 (Au K Xd (Aa Dn) (Hb K t) bl) (Ai Dn)=b79 K t:=by kernel_rfl
theorem bk3:Aj Xd N6 (Aa Dn):=⟨rfl,rfl,rfl,by decide +kernel,rfl,by decide +kernel,by decide +kernel⟩
theorem bp7:Ap Xd (Aa Dn)=true:=by decide +kernel
noncomputable def ci7 (K:aa) (t:Adr):DS:=
 (Ah (As (dUn (Ao K "text") (Ac 0)))
 Af)
theorem b19 (K:aa) (t:Adr):wSs 40 (Au K az2 (Aa R9) (Az K t) bl) (Ai R9)=ci7 K t:=by kernel_rfl
theorem b45:Aj az2 Yi (Aa R9):=⟨rfl,rfl,rfl,by decide +kernel,rfl,by decide +kernel,by decide +kernel⟩
theorem cc1:Ap az2 (Aa R9)=true:=by decide +kernel
noncomputable def ci0 (K:aa) (t:Adr):DS:=
 (Ah (As (Ae (Ar K) (Ae (Ar K) (dSl K (Ac 1) Bi (Ch (dUn (Ao K "at") (Ac 0)))) (dUn (Ao K "text") (Ac 0))) (dSl K (Ac 1) (Ch (Ae (Ar K) (dUn (Ao K "at") (Ac 0)) (dUn (Ao K "size") (Ac 0)))) Bi)))
 Af)
theorem b12 (K:aa) (t:Adr):wSs 40 (Au K ay5 (Aa R0) (Az K t) bl) (Ai R0)=ci0 K t:=by kernel_rfl
theorem b38:Aj ay5 Yb (Aa R0):=⟨rfl,rfl,rfl,by decide +kernel,rfl,by decide +kernel,by decide +kernel⟩
theorem cb4:Ap ay5 (Aa R0)=true:=by decide +kernel
noncomputable def ch9 (K:aa) (t:Adr):DS:=
 (Ah (As (Ae (Am K) (Bm "state" 1 (C5 K t) (Ac 0) (Ab (Ac 1) Ag)) (dC (.int 1))))
 Af)
theorem b09 (K:aa) (t:Adr):wSs 40 (Au K ay4 (Aa Rz) (Fu K t) bl) (Ai Rz)=ch9 K t:=by kernel_rfl
theorem b37:Aj ay4 Ya (Aa Rz):=⟨rfl,rfl,rfl,by decide +kernel,rfl,by decide +kernel,by decide +kernel⟩
theorem cb3:Ap ay4 (Aa Rz)=true:=by decide +kernel
noncomputable def cj0 (K:aa) (t:Adr):DS:=
 (Ah (As (Ae (Am K) (Bm "state" 1 (C5 K t) (Ac 0) (Ab (Ac 1) Ag)) (dC (.int 2))))
 Af)
theorem b22 (K:aa) (t:Adr):wSs 40 (Au K az5 (Aa Sc) (Fu K t) bl) (Ai Sc)=cj0 K t:=by kernel_rfl
theorem b48:Aj az5 Yl (Aa Sc):=⟨rfl,rfl,rfl,by decide +kernel,rfl,by decide +kernel,by decide +kernel⟩
theorem cc4:Ap az5 (Aa Sc)=true:=by decide +kernel
noncomputable def b95 (K:aa) (t:Adr):DS:=
 (Ah (A9 (Bm "lay" 5 (Mw K t) (Ac 0) (Ab (Ac 1) (Ab (Bm "kind_of" 1 (C4 K t) (Ac 0) (Ab (Ac 1) Ag)) (Ab (Bm "parent_of" 1 (Dw K t) (Ac 0) (Ab (Ac 1) Ag)) (Ab (Bm "rank_of" 1 (Fg K t) (Ac 0) (Ab (Ac 1) Ag)) (Ab (Ac 2) Ag)))))))
 Af)
theorem bi0 (K:aa) (t:Adr):wSs 40 (Au K Xv (Aa Ke) (Pf K t) bl) (Ai Ke)=b95 K t:=by kernel_rfl
theorem bm1:Aj Xv Op (Aa Ke):=⟨rfl,rfl,rfl,by decide +kernel,rfl,by decide +kernel,by decide +kernel⟩
theorem br5:Ap Xv (Aa Ke)=true:=by decide +kernel
noncomputable def ci1 (K:aa) (t:Adr):DS:=
 (Ah (A9 (dFn (spE (G1 K t) []) (Ab (Ac 1) (Ab (dUn (Ao K "part") (Ac 0)) (Ab (Bm "new_text" 1 (Da K t) (Ac 0) (Ab (Bm "content_of" 1 (Bl K t) (Ac 1) (Ab (dUn (Ao K "part") (Ac 0)) Ag)) Ag)) Ag)))))
 Af)
theorem b13 (K:aa) (t:Adr):wSs 40 (Au K ay6 (Aa R3) (Hb K t) bl) (Ai R3)=ci1 K t:=by kernel_rfl
theorem b39:Aj ay6 Yc (Aa R3):=⟨rfl,rfl,rfl,by decide +kernel,rfl,by decide +kernel,by decide +kernel⟩
theorem cb5:Ap ay6 (Aa R3)=true:=by decide +kernel
noncomputable def ci3 (K:aa) (t:Adr):DS:=
 (Ah (A2 2 (Ae (Am K) (Ac 1) (dUn (Ao K "row") (Ac 0))))
 (Ah (A2 3 (Ae (Ar K) (Ae (Ar K) (dSl K (Ac 2) Bi (Ch (dUn (Ao K "column") (Ac 0)))) (Bq (Ab (dUn (Ao K "text") (Ac 0)) Ag))) (dSl K (Ac 2) (Ch (Ae (Ar K) (dUn (Ao K "column") (Ac 0)) (dC (.int 1)))) Bi)))
 (Ah (As (Ae (Ar K) (Ae (Ar K) (dSl K (Ac 1) Bi (Ch (dUn (Ao K "row") (Ac 0)))) (Bq (Ab (Ac 3) Ag))) (dSl K (Ac 1) (Ch (Ae (Ar K) (dUn (Ao K "row") (Ac 0)) (dC (.int 1)))) Bi)))
 Af)))
theorem b15 (K:aa) (t:Adr):wSs 40 (Au K ay8 (Aa R6) (Az K t) bl) (Ai R6)=ci3 K t:=by kernel_rfl
theorem b41:Aj ay8 Ye (Aa R6):=⟨rfl,rfl,rfl,by decide +kernel,rfl,by decide +kernel,by decide +kernel⟩
theorem cb7:Ap ay8 (Aa R6)=true:=by decide +kernel
noncomputable def ch3 (K:aa) (t:Adr):DS:=
 (Ah (As (Ae (Ar K) (Ae (Ar K) (dSl K (Ac 1) Bi (Ch (dUn (Ao K "at") (Ac 0)))) (Bq (Ab (dUn (Ao K "cells") (Ac 0)) Ag))) (dSl K (Ac 1) (Ch (dUn (Ao K "at") (Ac 0))) Bi)))
 Af)
theorem b03 (K:aa) (t:Adr):wSs 40 (Au K ax8 (Aa Rt) (Az K t) bl) (Ai Rt)=ch3 K t:=by kernel_rfl
theorem b31:Aj ax8 X4 (Aa Rt):=⟨rfl,rfl,rfl,by decide +kernel,rfl,by decide +kernel,by decide +kernel⟩
theorem ca7:Ap ax8 (Aa Rt)=true:=by decide +kernel
noncomputable def ch4 (K:aa) (t:Adr):DS:=
 (Ah (As (Ae (Ar K) (dSl K (Ac 1) Bi (Ch (dUn (Ao K "at") (Ac 0)))) (dSl K (Ac 1) (Ch (Ae (Ar K) (dUn (Ao K "at") (Ac 0)) (dC (.int 1)))) Bi)))
 Af)
theorem b04 (K:aa) (t:Adr):wSs 40 (Au K ax9 (Aa Ru) (Az K t) bl) (Ai Ru)=ch4 K t:=by kernel_rfl
theorem b32:Aj ax9 X5 (Aa Ru):=⟨rfl,rfl,rfl,by decide +kernel,rfl,by decide +kernel,by decide +kernel⟩
theorem ca8:Ap ax9 (Aa Ru)=true:=by decide +kernel
noncomputable def ch7 (K:aa) (t:Adr):DS:=
 (Ah (A9 (dFn (spE (G1 K t) []) (Ab (Ac 1) (Ab (dUn (Ao K "part") (Ac 0)) (Ab (Bm "new_table" 1 (Cr K t) (Ac 0) (Ab (Bm "content_of" 1 (Bl K t) (Ac 1) (Ab (dUn (Ao K "part") (Ac 0)) Ag)) Ag)) Ag)))))
 Af)
theorem b07 (K:aa) (t:Adr):wSs 40 (Au K ay2 (Aa Rx) (Hb K t) bl) (Ai Rx)=ch7 K t:=by kernel_rfl
theorem b35:Aj ay2 X8 (Aa Rx):=⟨rfl,rfl,rfl,by decide +kernel,rfl,by decide +kernel,by decide +kernel⟩
theorem cb1:Ap ay2 (Aa Rx)=true:=by decide +kernel
noncomputable def b90 (K:aa) (t:Adr):DS:=
 (Ah (A9 (Bm "need" 2 (Fz K t) (Ac 0) (Ab (Ac 1) (Ab (Ac 2) Ag))))
 (Ah (A9 (Bm "change" 1 (E0 K t) (Ac 0) (Ab (Ac 1) Ag)))
 Af))
theorem bh5 (K:aa) (t:Adr):wSs 40 (Au K Xq (Aa Do) (aj9 K t) bl) (Ai Do)=b90 K t:=by kernel_rfl
theorem bl6:Aj Xq Oj (Aa Do):=⟨rfl,rfl,rfl,by decide +kernel,rfl,by decide +kernel,by decide +kernel⟩
theorem br0:Ap Xq (Aa Do)=true:=by decide +kernel
noncomputable def b89 (K:aa) (t:Adr):DS:=
 (Ah (A2 4 (dC (.str "good")))
 (Ah (A2 5 (dC .non))
 (Ah (A2 6 (dC .non))
 (Ah (a09 K (Ah (dIf (Ku K (Ac 3)) (Ah (A9 (Bm "need" 2 (Fz K t) (Ac 0) (Ab (Ac 1) (Ab (Ac 2) Ag))))
   Af) (Ah (A9 (Bm "on" 2 (Uf K t) (Ac 0) (Ab (Ac 1) (Ab (Ac 2) Ag))))
   Af))
  Af) [(t.c_zbs,.as 7,(Ah (A2 5 (dUn (Ao K "part") (Ac 7)))
  (Ah (A2 6 (dUn (Ao K "choice") (Ac 7)))
  (Ah (A2 4 (dC (.str "other")))
  (Ah (A2 8 (Dg (Ab (dFn (fun vs H Q _=>(Dx K) vs H Q) (Ab (Ac 7) (Ab (dC (.ref t.c_zca)) Ag))) (Ab (dFn (fun vs H Q _=>(Dx K) vs H Q) (Ab (Ac 7) (Ab (dC (.ref t.c_zbv)) Ag))) (Ab (dFn (fun vs H Q _=>(Dx K) vs H Q) (Ab (Ac 7) (Ab (dC (.ref t.c_zcf)) Ag))) (Ab (dFn (fun vs H Q _=>(Dx K) vs H Q) (Ab (Ac 7) (Ab (dC (.ref t.c_zbx)) Ag))) Ag))))))
  (Ah (dIf (A5 (Ae (Bj K false) (dMt (rMt K [⟨"list", "list.count", Je K⟩]) (Ac 8) (Ab (dC (.bl true)) Ag)) (dC (.int 1)))) (Ah (A2 4 (Ae (Am K) (Dg (Ab (dC (.str "no part")) (Ab (dC (.str "wrong kind")) (Ab (dC (.str "far")) (Ab (dC (.str "long")) Ag))))) (dMt (rMt K [⟨"list", "list.index", Jf⟩]) (Ac 8) (Ab (dC (.bl true)) Ag))))
   Af) Af)
  Af))))))])
 (Ah (As (Bq (Ab (Ac 4) (Ab (Ac 5) (Ab (Ac 6) Ag)))))
 Af)))))
theorem bh4 (K:aa) (t:Adr):wSs 40 (Au K Xp (Aa J9) (Fv K t) bl) (Ai J9)=b89 K t:=by kernel_rfl
theorem bl5:Aj Xp Oi (Aa J9):=⟨rfl,rfl,rfl,by decide +kernel,rfl,by decide +kernel,by decide +kernel⟩
theorem bq9:Ap Xp (Aa J9)=true:=by decide +kernel
noncomputable def b66 (K:aa) (t:Adr):DS:=
 (Ah (As (dFn (fun vs H Q _=>(ae4 K true) vs H Q) (Ab (dUn (Ao K "records") (Ac 0)) Ag)))
 Af)
theorem be9 (K:aa) (t:Adr):wSs 40 (Au K W0 (Aa Jl) (Az K t) bl) (Ai Jl)=b66 K t:=by kernel_rfl
theorem bj0:Aj W0 Nt (Aa Jl):=⟨rfl,rfl,rfl,by decide +kernel,rfl,by decide +kernel,by decide +kernel⟩
theorem bo4:Ap W0 (Aa Jl)=true:=by decide +kernel
noncomputable def b98 (K:aa) (t:Adr):DS:=
 (Ah (dIf (A5 (Ae (Bj K true) (Bm "names" 0 (Iw K t) (Ac 0) Ag) (Dg (Ab (dC (.str "a")) (Ab (dC (.str "a.b")) (Ab (dC (.str "t")) Ag)))))) (Ah (As (dC (.bl false)))
  Af) Af)
 (Ah (As (Ae (Bj K false) (Ef [none,some 0] (Go K (Dg (Ab (dC (.str "a")) (Ab (dC (.str "a.b")) (Ab (dC (.str "t")) Ag))))) (gdN 0) G9 (Bm "state" 1 (C5 K t) (Ac 1) (Ab (Ac 0) Ag))) (Ef [none,some 1] (Go K (Dg (Ab (dC (.str "a")) (Ab (dC (.str "a.b")) (Ab (dC (.str "t")) Ag))))) (gdN 0) G9 (Ae (Am K) (Ac 1) (Ac 0)))))
 Af))
theorem bi3 (K:aa) (t:Adr):wSs 40 (Au K Xy (Aa Kh) (Fu K t) bl) (Ai Kh)=b98 K t:=by kernel_rfl
theorem bm4:Aj Xy Ot (Aa Kh):=⟨rfl,rfl,rfl,by decide +kernel,rfl,by decide +kernel,by decide +kernel⟩
theorem br8:Ap Xy (Aa Kh)=true:=by decide +kernel
noncomputable def b99 (K:aa) (t:Adr):DS:=
 (Ah (A2 1 (Y2 [((dC (.str "a")),(Bq (Ab (dC (.str "chapter")) (Ab (dC (.str "")) (Ab (Ae A1 (dFn (spE (Eu K t) []) (Ab (Ac 0) (Ab (dC (.int 0)) Ag))) (Ae (Ar K) (Ae P2 (dC (.int 10)) (dC (.int 9))) (dC (.int 1)))) (Ab (dFn (spE (Fm K t) []) (Ab (dFn (spE (Eu K t) []) (Ab (Ac 0) (Ab (dC (.int 1)) Ag))) Ag)) Ag))))))]))
 (Ah (G8 (Bq (Ab (dC (.str "para")) (Ab (dC (.str "a")) (Ab (Ae A1 (dFn (spE (Eu K t) []) (Ab (Ac 0) (Ab (dC (.int 2)) Ag))) (Ae (Ar K) (Ae P2 (dC (.int 10)) (dC (.int 9))) (dC (.int 1)))) (Ab (dFn (spE (Fm K t) []) (Ab (dFn (spE (Eu K t) []) (Ab (Ac 0) (Ab (dC (.int 3)) Ag))) Ag)) Ag))))) (Fw K (Ac 1) (dC (.str "a.b"))))
 (Ah (G8 (Bq (Ab (dC (.str "table")) (Ab (dC (.str "")) (Ab (Ae A1 (dFn (spE (Eu K t) []) (Ab (Ac 0) (Ab (dC (.int 4)) Ag))) (Ae (Ar K) (Ae P2 (dC (.int 10)) (dC (.int 9))) (dC (.int 1)))) (Ab (dFn (spE (Sn K t) []) (Ab (dFn (spE (Eu K t) []) (Ab (Ac 0) (Ab (dC (.int 5)) Ag))) Ag)) Ag))))) (Fw K (Ac 1) (dC (.str "t"))))
 (Ah (A2 2 (dFn (mkC t.c_zcc (some (Ty K t)) 0) Ag))
 (Ah (Qk (a21 (Ac 1)) (gdT K 2 [(gdN 3),(gdN 4)]) (Ah (A9 (Bm "lay" 5 (Mw K t) (Ac 2) (Ab (Ac 3) (Ab (Ae (Am K) (Ac 4) (dC (.int 0))) (Ab (Ae (Am K) (Ac 4) (dC (.int 1))) (Ab (Ae (Am K) (Ac 4) (dC (.int 2))) (Ab (Ae (Am K) (Ac 4) (dC (.int 3))) Ag)))))))
  Af))
 (Ah (Qk (Go K (dSl K (Ac 0) (Ch (dC (.int 6))) (Ch (dC (.int 46))))) (gdN 5) (Ah (A2 6 (dFn (spE (Sq K t) []) (Ab (Ac 1) (Ab (Ac 5) Ag))))
  (Ah (A2 7 (dFn (spE (Sr K t) []) (Ab (Ac 6) Ag)))
  (Ah (dIf (dOr (O6 (Ku K (dFn (fun vs H Q _=>(Dx K) vs H Q) (Ab (Ac 7) (Ab (dC (.ref t.c_Edit)) Ag))))) (dOr (A5 (Ae (Bj K true) (Bm "told" 0 (F0 K t) (Ac 7) Ag) (Ac 6))) (dOr (A5 (Ae (Bj K true) (Bm "about" 0 (Ci K t) (Ac 7) Ag) (Ae (Am K) (Ac 6) (dC (.int 1))))) (A5 (Ae (be3 true) (Bm "made" 0 (Hk K t) (Ac 7) Ag) (dC .non)))))) (Ah (As (dC (.bl false)))
   Af) Af)
  (Ah (G8 (dFn (spE (Su K t) []) (Ab (Ac 1) (Ab (Ac 6) Ag))) (gdT K 2 [(gdN 8),(gdN 9)]))
  (Ah (A2 10 (Ae A1 (Ac 5) (dC (.int 256))))
  (Ah (A2 11 (Bq (Ab (Ac 8) (Ab (Ae (Am K) (Ac 6) (dC (.int 1))) (Ab (Ac 10) Ag)))))
  (Ah (dIf (A5 (Ae (Bj K false) (Ac 8) (dC (.str "good")))) (Ah (A2 11 (Bq (Ab (Ac 8) (Ab (dC .non) (Ab (dC .non) Ag)))))
   Af) Af)
  (Ah (dIf (dOr (A5 (Ae (Bj K true) (dFn (spE (Nh K t) []) (Ab (Ac 7) (Ab (Ac 2) (Ab (Ac 10) (Ab (dC (.bl true)) Ag))))) (Ac 11))) (O6 (Ku K (dFn (spE (Ni K t) []) (Ab (Ac 2) (Ab (Ac 1) Ag)))))) (Ah (As (dC (.bl false)))
   Af) Af)
  (Ah (dIf (A5 (Ae (Bj K true) (dFn (spE (Nh K t) []) (Ab (Ac 7) (Ab (Ac 2) (Ab (Ac 10) (Ab (dC (.bl false)) Ag))))) (Ac 11))) (Ah (As (dC (.bl false)))
   Af) Af)
  (Ah (dIf (A5 (Ae (Bj K false) (Ac 8) (dC (.str "good")))) (Ah (G8 (Ae (Am K) (Ac 1) (Ae (Am K) (Ac 6) (dC (.int 1)))) (gdT K 4 [(gdN 12),(gdN 13),(gdN 14),(gdN 15)]))
   (Ah (G8 (Bq (Ab (Ac 12) (Ab (Ac 13) (Ab (Ac 14) (Ab (Ac 9) Ag))))) (Fw K (Ac 1) (Ae (Am K) (Ac 6) (dC (.int 1)))))
   Af)) Af)
  (Ah (dIf (O6 (Ku K (dFn (spE (Ni K t) []) (Ab (Ac 2) (Ab (Ac 1) Ag))))) (Ah (As (dC (.bl false)))
   Af) Af)
  Af))))))))))))
 (Ah (As (dC (.bl true)))
 Af)))))))
theorem bi4 (K:aa) (t:Adr):wSs 40 (Au K Xz (Aa Dp) (Zh K t) bl) (Ai Dp)=b99 K t:=by kernel_rfl
theorem bm5:Aj Xz Ou (Aa Dp):=⟨rfl,rfl,rfl,by decide +kernel,rfl,by decide +kernel,by decide +kernel⟩
theorem br9:Ap Xz (Aa Dp)=true:=by decide +kernel
theorem Zw {b:Bool} {A B:Prop} (e:b=false) (h:B):if b=true then A else B:=by subst e;exact Mt h
theorem Zx {b:Bool} {A B:Prop} (e:b=true) (h:A):if b=true then A else B:=by subst e;exact Mu h
section
variable {K:aa} {H H':Hp}
theorem A4 {xs:List V} {i:Nat} {v:V} (h:xs[i]? = some v):atI xs (i:Int)=some v:=by
 have hl:i<xs.length:=(List.getElem?_eq_some_iff.mp h).1
 unfold atI ixN
 have h1:¬ ((i:Int)<0):=by omega
 have h2:(i:Int)<(xs.length:Int):=by omega
 simp [h1,h2]
 exact h
theorem a18 {t:Tb} {i:Nat} (h:i<t.length):t[i]? = some (t.getD i []):=by
 rw [ar,aq h]
 rfl
theorem B9 (z:Str):z.cps.toList.length=z.length:=by simp [Str.length]
theorem L5 (a b:Str):(a++b).cps.toList=a.cps.toList++b.cps.toList:=by
 show (a.cps++b.cps).toList=_
 simp
end
theorem ab0 (a c:Nat):decide ([c]<[a])=decide (c<a):=by
 rw [df,decide_eq_true_iff,decide_eq_true_iff,List.cons_lt_cons_iff]
 simp
theorem leL {s:Str} {a c:Nat} (h:s.cps.toList=[a]):(!decide ((⟨#[c]⟩:Str).cps.toList<s.cps.toList))=decide (a<=c):=by
 rw [h]
 show (!decide ([c]<[a]))=_
 rw [ab0,<- decide_not]
 exact decide_eq_decide.mpr Nat.not_lt
theorem leR {s:Str} {a c:Nat} (h:s.cps.toList=[a]):(!decide (s.cps.toList<(⟨#[c]⟩:Str).cps.toList))=decide (c<=a):=by
 rw [h]
 show (!decide ([a]<[c]))=_
 rw [ab0,<- decide_not]
 exact decide_eq_decide.mpr Nat.not_lt
theorem Vm {s1 s2:Str} {a b c:Nat} {Q:VK} {H:Hp} (h1:s1.cps.toList=[a]) (h2:s2.cps.toList=[b]) (k:Q (.bl (decide (a<=c)&&decide (c<=b))) H) :
  if (!decide ((⟨#[c]⟩:Str).cps.toList<s1.cps.toList))=true then Q (.bl (!decide (s2.cps.toList<(⟨#[c]⟩:Str).cps.toList))) H else Q (.bl false) H:=by
 rw [leL h1,leR h2]
 cases e:decide (a<=c) with
 | true=>rw [e,Bool.true_and] at k;exact Mu k
 | false=>rw [e,hY] at k;exact Mt k
theorem Gh {a b c:Int} {Q:VK} {H:Hp} (k:Q (.bl (decide (a<=c)&&decide (c<=b))) H):if decide (a<=c)=true then Q (.bl (decide (c<=b))) H else Q (.bl false) H:=by
 cases e:decide (a<=c) with
 | true=>rw [e,Bool.true_and] at k;exact Mu k
 | false=>rw [e,hY] at k;exact Mt k
theorem Mh {s1 s2:Str} {a b c i:Nat} {Q:VK} {E:EK} {H:Hp} {σ:St} (h1:s1.cps.toList=[a]) (h2:s2.cps.toList=[b]) (hv:σ[i]? = some (some (.str ⟨#[c]⟩))) (k:Q (.bl (decide (a<=c)&&decide (c<=b))) H) :
  Cy Fh Fh (dC (.str s1)) (Ac i) (dC (.str s2)) σ H Q E:=by
 unfold Cy dC Ac
 rw [hv]
 exact Vm h1 h2 k
section
variable {P:aE} {w:bq} {K:aa} {mg:Str->Option Value} {base:Heap} {t:Adr}
theorem bv3 (i:Nat):1<=(nm i).length/\(nm i).length<=12/\(nm i).cps.toList.all Uh=true:=by
 match i with
 | 0=>decide +kernel
 | 1=>decide +kernel
 | 2=>decide +kernel
 | n+3=>show 1<=("ab" : Str).length/\("ab" : Str).length<=12/\("ab" : Str).cps.toList.all Uh=true;decide +kernel
theorem a63 {f:Addr} {fd:ai} (Z:Facts K t) (F:FunD K "has_length" "has_length" Jt f fd .none) (T:Tab P w K mg base 0 (Az K t) bl):FnOk P w K mg base CX0 1 f fd N1 (Ng K t):=by
 refine F.okW0 bj8 bp2 T (bf7 K t) (fun vs H Q E h=>?_) (fun vs H Q E h=>?_)
 ·obtain⟨z,a,b,rfl,_⟩:=h;rfl
 ·obtain⟨z,a,b,rfl,h1,h2,h3,k⟩:=h
  refine⟨rfl,aD (aD h2 h3) (by decide),?_⟩
  refine Gh (a:=a) (b:=b) (c:=(z.length:Int)) (Q:=Q) (H:=H) ?_
  rw [decide_eq_true (show (a:Int)<=(z.length:Int) by omega),decide_eq_true (show (z.length:Int)<=(b:Int) by omega)]
  exact k
theorem bx3 {f:Addr} {fd:ai} (Z:Facts K t) (F:FunD K "is_text_sign" "is_text_sign" Sf f fd .none) (T:Tab P w K mg base 0 (Az K t) bl):FnOk P w K mg base CX0 1 f fd Yo (ah3 K t):=by
 refine F.okW0 b51 cc7 T (b25 K t) (fun vs H Q E h=>?_) (fun vs H Q E h=>?_)
 ·obtain⟨x,rfl,_⟩:=h;rfl
 ·obtain⟨c,rfl,hc,k⟩:=h
  unfold Ge at hc
  rw [au] at hc
  dsimp only [ca0,Ah,As,Cm]
  refine Mh (s1 := " ") (s2 := "~") (c:=c) (i:=0) (a:=32) (b:=126) (by decide +kernel) (by decide +kernel) (by rfl) ?_
  refine Zx hc.1 ⟨rfl,?_⟩
  have e3:(!decide (((c:Nat):Int)=37))=true:=by
   have:=hc.2
   simp at this ⊢
   omega
  show Q (.bl (!decide (((c:Nat):Int)=37))) H
  rw [e3]
  exact k
theorem a70 {f:Addr} {fd:ai} (Z:Facts K t) (F:FunD K "is_letter" "is_letter" J1 f fd .none) (T:Tab P w K mg base 0 (Az K t) bl):FnOk P w K mg base CX0 1 f fd Oa (Sm K t):=by
 refine F.okW0 bk7 bq1 T (bg6 K t) (fun vs H Q E h=>?_) (fun vs H Q E h=>?_)
 ·obtain⟨x,rfl,_⟩:=h;rfl
 ·obtain⟨c,rfl,k⟩:=h
  dsimp only [aw4,Ah,As]
  exact Mh (s1 := "a") (s2 := "z") (c:=c) (i:=0) (a:=97) (b:=122) (by decide +kernel) (by decide +kernel) (by rfl) k
theorem a69 {f:Addr} {fd:ai} (Z:Facts K t) (F:FunD K "is_figure" "is_figure" J0 f fd .none) (T:Tab P w K mg base 0 (Az K t) bl):FnOk P w K mg base CX0 1 f fd N9 (Sl K t):=by
 refine F.okW0 bk6 bq0 T (bg5 K t) (fun vs H Q E h=>?_) (fun vs H Q E h=>?_)
 ·obtain⟨x,rfl,_⟩:=h;rfl
 ·obtain⟨c,rfl,k⟩:=h
  dsimp only [aw3,Ah,As]
  exact Mh (s1 := "0") (s2 := "9") (c:=c) (i:=0) (a:=48) (b:=57) (by decide +kernel) (by decide +kernel) (by rfl) k
theorem bx2 {f:Addr} {fd:ai} (Z:Facts K t) (F:FunD K "is_name_sign" "is_name_sign" Se f fd .none) (T:Tab P w K mg base 1 (Ha K t) bl):FnOk P w K mg base CX0 2 f fd Yn (ah2 K t):=by
 refine F.okW0 b50 cc6 T (b24 K t) (fun vs H Q E h=>?_) (fun vs H Q E h=>?_)
 ·obtain⟨x,rfl,_⟩:=h;rfl
 ·obtain⟨c,rfl,hc,k⟩:=h
  unfold Uh at hc
  refine⟨c,rfl,?_⟩
  refine B7 (c:=(decide (97<=c)&&decide (c<=122))=true) (fun e=>?_) (fun e=>?_)
  ·show Q (.bl (decide (97<=c)&&decide (c<=122))) H
   rw [e];exact k
  ·refine⟨c,rfl,?_⟩
   rw [cv] at hc
   have hc:=hc.resolve_left e
   refine B7 (c:=(decide (48<=c)&&decide (c<=57))=true) (fun e2=>?_) (fun e2=>?_)
   ·show Q (.bl (decide (48<=c)&&decide (c<=57))) H
    rw [e2];exact k
   ·rw [cv] at hc
    have hc:=bG (hc.resolve_left e2)
    subst hc
    exact k
theorem Th {z:Str} {te:DE} {H:Hp} {D:Addr} {R:Hp->Prop} {E:EK} {f:Nat->Bool} (hD:H D=none) (hl:z.length<=60) (ha:z.cps.toList.all f=true) (he:∀ (c:Nat) (H1:Hp) (Q1:VK),f c=true->Q1 (.bl true) H1->te [some (.str ⟨#[c]⟩)] H1 Q1 E)
  (k:∀ H' bs,Same H H'->SqL K H' D ((bs:List Bool).map V.bl)->(bs.all fun b=>b)=true->R H') (v:Option V):Wu (Its z) (gdN 0) G9 te D R [v] (upd H D (.lst [])) E:=by
 refine Ox (K:=K) (bs1 z) (fun σ=>σ.length=1) hD (fun _ _=>aX) ?_ rfl (fun σ x hσ=>by rw [cQ];exact hσ) ?_ ?_
 ·unfold Fk
  rw [aw,B9]
  exact cD hl (by decide)
 ·intro x σ H1 Q1 hx hσ S hk
  unfold Fk at hx
  obtain⟨c,hc,rfl⟩:=List.mem_map.mp hx
  match σ,hσ with
  | [_],_=>exact he c H1 Q1 (List.all_eq_true.mp ha c hc) (hk H1 (Same.refl _))
 ·exact fun H' S q=>k H' _ S q (Ti _)
theorem a81 {f:Addr} {fd:ai} (Z:Facts K t) (F:FunD K "is_text" "is_text" Kc f fd .none) (T:Tab P w K mg base 1 (Ha K t) bl):FnOk P w K mg base CX0 2 f fd On (G0 K t):=by
 refine F.okW0 bl9 br3 T (bh8 K t) (fun vs H Q E h=>?_) (fun vs H Q E h=>?_)
 ·obtain⟨z,rfl,_⟩:=h;rfl
 ·obtain⟨z,rfl,hz,k⟩:=h
  exact⟨z,0,60,rfl,bT _,hz.1,ae _,fun D hD=>Th (K:=K) hD hz.1 hz.2 (fun c H1 Q1 hc q=>⟨c,rfl,hc,q⟩) (fun H' bs S q e=>⟨bs,q,by rw [e];exact k H' S⟩) _⟩
theorem a79 {f:Addr} {fd:ai} (Z:Facts K t) (F:FunD K "is_name" "is_name" Ka f fd .none) (T:Tab P w K mg base 2 (Di K t) bl):FnOk P w K mg base CX0 3 f fd Ol (Ss K t):=by
 refine F.okW0 bl7 br1 T (bh6 K t) (fun vs H Q E h=>?_) (fun vs H Q E h=>?_)
 ·obtain⟨z,rfl,_⟩:=h;rfl
 ·obtain⟨i,rfl,k⟩:=h
  obtain⟨h1,h2,h3⟩:=bv3 i
  exact⟨nm i,1,12,rfl,h1,h2,by decide,fun D hD=>Th (K:=K) hD (by omega) h3 (fun c H1 Q1 hc q=>⟨c,rfl,hc,q⟩) (fun H' bs S q e=>⟨bs,q,by rw [e];exact k H' S⟩) _⟩
theorem a84 {f:Addr} {fd:ai} (Z:Facts K t) (F:FunD K "insist" "insist" Kf f fd .none) (T:Tab P w K mg base 0 (Az K t) bl):FnOk P w K mg base CX0 1 f fd Oq (Ew K t):=by
 refine F.okW0 bm2 br6 T (bi1 K t) (fun vs H Q E h=>?_) (fun vs H Q E h=>?_)
 ·obtain⟨rfl,_⟩:=h;rfl
 ·obtain⟨rfl,k⟩:=h
  exact k
theorem a73 {f:Addr} {fd:ai} (Z:Facts K t) (F:FunD K "is_whole" "is_whole" J4 f fd .none) (T:Tab P w K mg base 0 (Az K t) bl):FnOk P w K mg base CX0 1 f fd Od (So K t):=by
 refine F.okW0 bl0 bq4 T (bg9 K t) (fun vs H Q E h=>?_) (fun vs H Q E h=>?_)
 ·obtain⟨n,rfl,_⟩:=h;rfl
 ·obtain⟨n,rfl,k⟩:=h
  exact⟨rfl,⟨rfl,k⟩⟩
theorem a80 {f:Addr} {fd:ai} (Z:Facts K t) (F:FunD K "is_rank" "is_rank" Kb f fd .none) (T:Tab P w K mg base 1 (Ha K t) bl):FnOk P w K mg base CX0 2 f fd Om (Ev K t):=by
 refine F.okW0 bl8 br2 T (bh7 K t) (fun vs H Q E h=>?_) (fun vs H Q E h=>?_)
 ·obtain⟨n,rfl,_⟩:=h;rfl
 ·obtain⟨n,rfl,hn,k⟩:=h
  refine⟨n,rfl,?_⟩
  refine Gh (a:=0) (b:=1000000000) (c:=(n:Int)) (Q:=Q) (H:=H) ?_
  unfold big at hn
  rw [decide_eq_true (show (0:Int)<=(n:Int) by omega),decide_eq_true (show (n:Int)<=1000000000 by omega)]
  exact k
theorem a59 {f:Addr} {fd:ai} (Z:Facts K t) (F:FunD K "is_tuple_of" "is_tuple_of" Jp f fd .none) (T:Tab P w K mg base 0 (Az K t) bl):FnOk P w K mg base CX0 1 f fd Nx (Sk K t):=by
 refine F.okW0 bj4 bo8 T (bf3 K t) (fun vs H Q E h=>?_) (fun vs H Q E h=>?_)
 ·obtain⟨a,xs,rfl,_⟩:=h;rfl
 ·obtain⟨a,xs,rfl,q,h1,h2,k⟩:=h
  refine⟨.type "tuple", true,.sqT rfl q rfl,rfl,.inl ⟨xs,.inr q,?_⟩⟩
  refine Gh ?_
  rw [decide_eq_true (show (1:Int)<=(xs.length:Int) by omega),decide_eq_true (show (xs.length:Int)<=6 by omega)]
  exact k
theorem a85 {f:Addr} {fd:ai} (Z:Facts K t) (F:FunD K "is_row" "is_row" Kg f fd .none) (T:Tab P w K mg base 2 (Di K t) bl):FnOk P w K mg base CX0 3 f fd Os (Sv K t):=by
 refine F.okW0 bm3 br7 T (bi2 K t) (fun vs H Q E h=>?_) (fun vs H Q E h=>?_)
 ·obtain⟨x,r,rfl,_⟩:=h;rfl
 ·obtain⟨x,r,rfl,hx,h1,h2,hw,k⟩:=h
  obtain⟨a,rfl,q⟩:=Ea hx
  refine⟨a,_,rfl,q,by rw [aw];exact h1,by rw [aw];exact h2,.inr (.inl ⟨⟨_,q⟩,?_⟩)⟩
  refine fun D hD=>Ox (K:=K) (bs2 (r.map V.str)) (fun σ=>σ.length=1) hD (fun H1 S=>S.seqT q) ?_ rfl (fun σ x hσ=>by rw [cQ];exact hσ) ?_ ?_
  ·rw [aw];exact cD h2 (by decide)
  ·intro x σ H1 Q1 hx hσ S hk
   obtain⟨z,hz,rfl⟩:=List.mem_map.mp hx
   match σ,hσ with
   | [_],_=>exact⟨z,rfl,hw z hz,hk⟩
  ·exact fun H' S q=>⟨_,q,by rw [Ti];exact k H' S⟩
theorem Nb {n i:Nat} {x:V} (h:(Rm 0 n)[i]? = some x):i<n/\x=.int (i:Int):=by
 have hi:i<n:=by
  have:=(List.getElem?_eq_some_iff.mp h).1
  rw [Cj] at this
  exact this
 rw [P7 hi] at h
 have:=aM h
 rw [Int.zero_add] at this
 exact⟨hi,this.symm⟩
theorem cd3 {c1 c2 c3:Bool} {A B:Prop} (a:A) (b:B):if c1=true then (if c2=true then (if c3=true then A else B) else (if false=true then A else B)) else (if false=true then A else B):=by
 cases c1 <;> cases c2 <;> cases c3 <;> first|exact Mt (Mt b)|exact Mt b|exact Mu (Mt (Mt b))|exact Mu (Mu (Mt b))|exact Mu (Mu (Mu a))
theorem atM {α:Type} {xs:List α} (c:Int) (m:Int) (hm:(xs.length:Int)=m) (h:0<m):∃ v,v∈xs/\atI xs (c % m)=some v:=by
 have h1:=cO c (show m≠0 by omega)
 have h2:=cf c h
 have hl:(c % m).toNat<xs.length:=by omega
 refine⟨xs[(c % m).toNat],cg hl,?_⟩
 unfold atI ixN
 have a1:¬ (c % m<0):=by omega
 have a2:c % m<(xs.length:Int):=by omega
 simp [a1,a2]
 rw [if_pos h1]
 exact aq hl
theorem Ib (c:Int) {m:Nat} (h:0<m):∃ j:Nat,c % (m:Int)=(j:Int)/\j<m:=by
 have h1:=cO c (show (m:Int)≠0 by omega)
 have h2:=cf c (show (0:Int)<(m:Int) by omega)
 exact⟨(c % (m:Int)).toNat,by omega,by omega⟩
theorem a74 {f:Addr} {fd:ai} (Z:Facts K t) (F:FunD K "_law_cell" "_law_cell" J5 f fd .none) (T:Tab P w K mg base 0 (Az K t) bl):FnOk P w K mg base CX0 1 f fd Oe (Eu K t):=by
 refine F.okW0 bl1 bq5 T (bh0 K t) (fun vs H Q E h=>?_) (fun vs H Q E h=>?_)
 ·obtain⟨a,ns,k,rfl,_⟩:=h;rfl
 ·obtain⟨a,ns,k,rfl,hS,q⟩:=h
  refine .inl ⟨_,.inl hS,B7 (fun hlt=>?_) (fun _=>⟨.inr ⟨by decide,by decide⟩,q _⟩)⟩
  have hlt:(k:Int)<((ns.map V.int).length:Int):=of_decide_eq_true hlt
  have hk:k<ns.length:=by rw [aw] at hlt;omega
  refine⟨_,.int ns[k],.inl hS,?_,q _⟩
  exact A4 (by rw [aY,aq hk];rfl)
theorem a64 {f:Addr} {fd:ai} (Z:Facts K t) (F:FunD K "_law_stream" "_law_stream" Ju f fd .none) (T:Tab P w K mg base 0 (Az K t) bl):FnOk P w K mg base CX0 1 f fd N2 (Gz K t):=by
 refine F.okW0 bj9 bp3 T (bf8 K t) (fun vs H Q E h=>?_) (fun vs H Q E h=>?_)
 ·obtain⟨c,n,rfl,_⟩:=h;rfl
 ·obtain⟨c,n,rfl,hn,k⟩:=h
  refine⟨by decide,fun l hl=>⟨⟨by decide,by decide⟩,by decide,⟨by omega,by omega⟩,?_⟩⟩
  rw [cP]
  have m1:=cO c (show (2147483629:Int)≠0 by decide)
  have m2:=cf c (show (0:Int)<2147483629 by decide)
  refine Mp (Gg 0 n) (fun i σ H'=>(∃ left num v,σ=[some (.int c),some (.int n),some (.ref l),some (.int left),some (.int num),v]/\0<=num/\num<4294967296)/\Same H H' /\ ∃ ns:List Int,ns.length=i/\H' l=some (.lst (ns.map V.int)) /\ ∀ z∈ns,0<=z/\z<2147483648)
   ⟨⟨_,_,_,rfl,by omega,by omega⟩,Same.upd hl,[],rfl,Ad,(fun z hz=>by cases hz)⟩ (fun _ _ _ _ _=>aX) ?_ ?_
  ·rintro i x σ H' hx ⟨⟨left,num,v,rfl,u1,u2⟩,S,ns,e1,e2,e3⟩
   obtain⟨hi,rfl⟩:=Nb hx
   refine⟨.inr ⟨by decide,by decide⟩,.inl ⟨by decide,by decide⟩,by decide,by decide,?_⟩
   have w1:=cO (num * 48271+7919 * (i:Int)+1) (show (2147483647:Int)≠0 by decide)
   have w2:=cf (num * 48271+7919 * (i:Int)+1) (show (0:Int)<2147483647 by decide)
   generalize (num * 48271+7919 * (i:Int)+1) % 2147483647=nu at w1 w2 ⊢
   have put:∀ y:Int,0<=y->y<2147483648->Same H (upd H' l (.lst (ns.map V.int++[.int y]))) /\ ∃ ns2:List Int,ns2.length=i+1/\upd H' l (.lst (ns.map V.int++[.int y])) l=some (.lst (ns2.map V.int)) /\ ∀ z∈ns2,0<=z/\z<2147483648:=fun y y1 y2=>
    ⟨S.set hl,ns++[y],by rw [aH,e1];rfl,by rw [Ad,bn];rfl,fun z hz=>by
     rcases List.mem_append.mp hz with h|h
     ·exact e3 z h
     ·have:z=y:=by simpa using h
      subst this;exact⟨y1,y2⟩⟩
   have hsz:(ns.map V.int).length<sizeLine:=by rw [aw,e1];exact av (show i<100 by omega) (by decide)
   refine cd3 ?_ ?_
   ·have y1:=cO left (show (268435456:Int)≠0 by decide)
    have y2:=cf left (show (0:Int)<268435456 by decide)
    exact⟨.inl ⟨rfl,_,SqL.of e2⟩,by decide,l,_,_,rfl,rfl,e2,hsz,⟨by decide,by decide⟩,⟨_,_,_,rfl,by omega,by omega⟩,put _ y1 (by omega)⟩
   ·have y1:=cO (nu * nu % 2147483629 * 16807+(i:Int)) (show (2147483587:Int)≠0 by decide)
    have y2:=cf (nu * nu % 2147483629 * 16807+(i:Int)) (show (0:Int)<2147483587 by decide)
    exact⟨.inl ⟨rfl,_,SqL.of e2⟩,.inl ⟨by omega,by omega⟩,by decide,.inr ⟨by decide,by decide⟩,by decide,⟨by decide,by decide⟩,l,_,_,rfl,rfl,e2,hsz,⟨_,_,_,rfl,by omega,by omega⟩,put _ (by omega) (by omega)⟩
  ·rintro σ H' ⟨⟨left,num,v,rfl,_⟩,S,ns,e1,e2,e3⟩
   rw [Cj] at e1
   exact .inl (k _ l ns S hl e2 e1 e3)
theorem in4 {a b c d:Nat} {v:V} (ha:a<=60) (hb:b<=60) (hc:c<=60) (hd:d<=60) (h:v∈[V.int a,.int b,.int c,.int d]):∃ m:Nat,v=.int (m:Int)/\m<=60:=by
 simp only [ax,aK,or_false] at h
 rcases h with rfl|rfl|rfl|rfl
 ·exact⟨a,rfl,ha⟩
 ·exact⟨b,rfl,hb⟩
 ·exact⟨c,rfl,hc⟩
 ·exact⟨d,rfl,hd⟩
noncomputable def signsS:Str:=dU " !#$&'()*+,-./0123456789:;<=>?@ABCDEFGHIJKLMNOPQRSTUVWXYZ[\\]^_`abcdefghijklmnopqrstuvwxyz{|}~" ++ dU "\""
theorem Ki:signsS.cps.toList.length=94/\signsS.cps.toList.all Ge=true:=by decide +kernel
theorem Tu:(dU "|/\\a ").cps.toList.length=5/\(dU "|/\\a ").cps.toList.all Ge=true:=by decide +kernel
theorem Hf (a b:Str):(a++b).length=a.length+b.length:=PySem.strLen_append a b
theorem ai4 {z:Str} {c:Nat} (h:z.cps.toList.all Ge=true) (hc:Ge c=true):(z++⟨#[c]⟩).cps.toList.all Ge=true:=by
 rw [L5,gQ,h]
 simpa using hc
theorem a77 {f:Addr} {fd:ai} (Z:Facts K t) (F:FunD K "_law_text" "_law_text" J8 f fd .none) (T:Tab P w K mg base 1 (Ha K t) bl):FnOk P w K mg base CX0 2 f fd Oh (Fm K t):=by
 refine F.okW0 bl4 bq8 T (bh3 K t) (fun vs H Q E h=>?_) (fun vs H Q E h=>?_)
 ·obtain⟨c,rfl,_⟩:=h;rfl
 ·obtain⟨c,rfl,k⟩:=h
  refine⟨by decide +kernel,c,4,rfl,by decide,fun H1 l ns S1 hl el en eb=>?_⟩
  match ns,en with
  | [n0,n1,n2,n3],_=>
   have q:SqL K H1 l [.int n0,.int n1,.int n2,.int n3]:=SqL.of el
   refine⟨_,_,.inl q,rfl,by decide,_,_,.inl q,rfl,by decide,_,_,.inl q,rfl,by decide,(show 4<=sizeLine by decide),fun p hp=>?_⟩
   have q1:=(Same.upd (o:=.lst [.int 0,.int (n1 % 4),.int (n1 % 12),.int (n1 % 61)]) hp).seqL q
   have S2:=S1.trans (Same.upd (o:=.lst [.int 0,.int (n1 % 4),.int (n1 % 12),.int (n1 % 61)]) hp)
   have ep:upd H1 p (.lst [.int 0,.int (n1 % 4),.int (n1 % 12),.int (n1 % 61)]) p=some (.lst [.int 0,.int (n1 % 4),.int (n1 % 12),.int (n1 % 61)]):=Ad
   generalize upd H1 p (.lst [.int 0,.int (n1 % 4),.int (n1 % 12),.int (n1 % 61)])=H2 at q1 S2 ep ⊢
   refine⟨_,_,.inl q1,rfl,by decide,?_⟩
   obtain⟨v,hv,ev⟩:=atM (xs:=[V.int 0,.int (n1 % 4),.int (n1 % 12),.int (n1 % 61)]) n0 4 rfl (by decide)
   obtain⟨j1,e1,g1⟩:=Ib n1 (m:=4) (by decide)
   obtain⟨j2,e2,g2⟩:=Ib n1 (m:=12) (by decide)
   obtain⟨j3,e3,g3⟩:=Ib n1 (m:=61) (by decide)
   have hv2:v∈[V.int ((0:Nat):Int),.int j1,.int j2,.int j3]:=by
    rw [<- e1,<- e2,<- e3]
    exact hv
   obtain⟨m,rfl,hm⟩:=in4 (by omega) (by omega) (by omega) (by omega) hv2
   refine⟨_,_,.inl (SqL.of ep),ev,?_⟩
   refine⟨c+1,m,rfl,by omega,fun H3 l2 ns2 S3 hl2 el2 en2 _=>.inl ⟨⟨_,SqL.of el2⟩,?_⟩⟩
   have q3:=S3.seqL q1
   have S4:=S2.trans S3
   refine Mp (Hq (ns2.map V.int)) (fun i σ H'=>H'=H3 /\ ∃ z v,σ=[some (.int c),some (.str signsS),some (.ref l),some (.int m),some (.str z),v]/\z.length=i/\z.cps.toList.all Ge=true)
    ⟨rfl,_,_,rfl,by decide +kernel,by decide +kernel⟩ (fun i σ H' _ h=>h.1▸SqL.of el2) ?_ ?_
   ·rintro i x σ H' hx ⟨rfl,z,v,rfl,lz,az⟩
    have hi:i<m:=by
     have:=(List.getElem?_eq_some_iff.mp hx).1
     rw [aw,en2] at this
     exact this
    rw [aY] at hx
    obtain⟨y,_,rfl⟩:=Option.map_eq_some_iff.mp hx
    have big:1000<=sizeLine:=by decide
    refine⟨_,_,.inl q3,rfl,by decide,?_⟩
    refine B7 (fun _=>?_) (fun _=>?_)
    ·obtain⟨ch,hc,ec⟩:=atM (xs:=(dU "|/\\a ").cps.toList) y 5 (by rw [Tu.1];rfl) (by decide)
     refine⟨by decide,by decide +kernel,ch,ec,?_,rfl,_,_,rfl,?_,ai4 az (List.all_eq_true.mp Tu.2 ch hc)⟩
     ·show z.length+1<=sizeLine;omega
     ·rw [Hf,lz];rfl
    ·obtain⟨ch,hc,ec⟩:=atM (xs:=signsS.cps.toList) y 94 (by rw [Ki.1];rfl) (by decide)
     refine⟨by decide,?_,ch,ec,?_,rfl,_,_,rfl,?_,ai4 az (List.all_eq_true.mp Ki.2 ch hc)⟩
     ·have:=Ki.1;rw [B9] at this;omega
     ·show z.length+1<=sizeLine;omega
     ·rw [Hf,lz];rfl
   ·rintro σ H' ⟨rfl,z,v,rfl,lz,az⟩
    rw [aw,en2] at lz
    exact .inl (k z _ S4 ⟨by omega,az⟩)
theorem in3 {a b c:Int} {v:V} (ha:1<=a/\a<=6) (hb:1<=b/\b<=6) (hc:1<=c/\c<=6) (h:v∈[V.int a,.int b,.int c]):∃ m:Nat,v=.int (m:Int)/\1<=m/\m<=6:=by
 have go:∀ d:Int,1<=d/\d<=6 -> ∃ m:Nat,V.int d=.int (m:Int)/\1<=m/\m<=6:=fun d hd=>⟨d.toNat,by rw [dM (by omega)],by omega,by omega⟩
 simp only [ax,aK,or_false] at h
 rcases h with rfl|rfl|rfl
 ·exact go _ ha
 ·exact go _ hb
 ·exact go _ hc
noncomputable def RowsAt (K:aa) (H':Hp) (lr n i:Nat):Prop:=∃ (ys:List V) (rs:Tb),H' lr=some (.lst ys)/\ys.length=i/\rs.length=i/\(∀ r∈rs,wfR n r)/\AtL K H' (rs.map Dz) ys
theorem RowsAt.same {H H':Hp} {lr n i:Nat} (h:RowsAt K H lr n i) (S:Same H H'):RowsAt K H' lr n i:=by
 obtain⟨ys,rs,h1,h2,h3,h4,h5⟩:=h
 exact⟨ys,rs,S _ _ h1,h2,h3,h4,Bz S h5⟩
theorem RowsAt.row {H:Hp} {lr n i r:Nat} {row:List Str} {ys:List V} (h:RowsAt K H lr n i) (e:H lr=some (.lst ys)) (hr:H r=some (.tup (row.map V.str))) (hw:wfR n row):RowsAt K (upd H lr (.lst (ys++[.ref r]))) lr n (i+1):=by
 obtain⟨ys',rs,h1,h2,h3,h4,h5⟩:=h
 rw [h1] at e
 cases e
 refine⟨_,rs++[row],Ad,by rw [aH,h2];rfl,by rw [aH,h3];rfl,fun r' hr'=>?_,?_⟩
 ·rcases List.mem_append.mp hr' with q|q
  ·exact h4 r' q
  ·have:r'=row:=by simpa using q
   subst this;exact hw
 ·rw [bn]
  exact Bp (Fj (TKeep.lst h1) h5) (Al (Fq (TKeep.lst h1 _ _ (SqT.of hr))) Aw)
theorem RowsAt.done {H H0:Hp} {lr n i:Nat} (h:RowsAt K H lr n i) (i1:1<=i) (i6:i<=6) (n1:1<=n) (n6:n<=6) {Q:VK} (S:Same H0 H) (k:∀ c H' x,Same H0 H'->wfT c->At K H' (Kl c) x->Q x H') :
  ∃ ys,(SqL K H lr ys /\ ∀ l,H l=none->Q (.ref l) (upd H l (.tup ys)))\/(SqT K H lr ys/\Q (.ref lr) H):=by
 obtain⟨ys,rs,h1,h2,h3,h4,h5⟩:=h
 refine⟨ys,.inl ⟨SqL.of h1,fun l hl=>?_⟩⟩
 exact k rs _ _ (S.trans (Same.upd hl)) ⟨by omega,by omega,n,n1,n6,h4⟩ (Ck (SqT.of Ad) (Bz (Same.upd hl) h5))
theorem a72 {f:Addr} {fd:ai} (Z:Facts K t) (F:FunD K "_law_table" "_law_table" J3 f fd .none) (T:Tab P w K mg base 2 (Di K t) bl):FnOk P w K mg base CX0 3 f fd Oc (Sn K t):=by
 refine F.okW0 bk9 bq3 T (bg8 K t) (fun vs H Q E h=>?_) (fun vs H Q E h=>?_)
 ·obtain⟨c,rfl,_⟩:=h;rfl
 ·obtain⟨c,rfl,k⟩:=h
  refine⟨c,3,rfl,by decide,fun H1 l ns S1 hl el en eb=>?_⟩
  match ns,en,eb with
  | [n0,n1,n2],_,eb=>
   have q:SqL K H1 l [.int n0,.int n1,.int n2]:=SqL.of el
   have pick:∀ y:Int,∃ m:Nat,atI [V.int (1+y / 3 % 3),.int (1+y / 3 % 6),.int 6] (y % 3)=some (.int (m:Int))/\1<=m/\m<=6:=fun y=>by
    obtain⟨v,hv,ev⟩:=atM (xs:=[V.int (1+y / 3 % 3),.int (1+y / 3 % 6),.int 6]) y 3 rfl (by decide)
    obtain⟨m,rfl,hm⟩:=in3 (by omega) (by omega) (by decide) hv
    exact⟨m,ev,hm⟩
   obtain⟨m,em,m1,m6⟩:=pick n0
   obtain⟨n,en',n1',n6⟩:=pick n1
   refine⟨_,_,.inl q,rfl,⟨by decide,by decide⟩,by decide,_,_,.inl q,rfl,⟨by decide,by decide⟩,by decide,(show 3<=sizeLine by decide),fun p hp=>?_⟩
   have Sp:=Same.upd (o:=.lst [.int (1+n0 / 3 % 3),.int (1+n0 / 3 % 6),.int 6]) hp
   have ep:upd H1 p (.lst [.int (1+n0 / 3 % 3),.int (1+n0 / 3 % 6),.int 6]) p=some (.lst [.int (1+n0 / 3 % 3),.int (1+n0 / 3 % 6),.int 6]):=Ad
   generalize upd H1 p (.lst [.int (1+n0 / 3 % 3),.int (1+n0 / 3 % 6),.int 6])=H2 at Sp ep ⊢
   have q2:=Sp.seqL q
   refine⟨_,_,.inl q2,rfl,by decide,_,_,.inl (SqL.of ep),em,?_⟩
   refine⟨_,_,.inl q2,rfl,⟨by decide,by decide⟩,by decide,_,_,.inl q2,rfl,⟨by decide,by decide⟩,by decide,(show 3<=sizeLine by decide),fun p2 hp2=>?_⟩
   have Sp2:=Same.upd (o:=.lst [.int (1+n1 / 3 % 3),.int (1+n1 / 3 % 6),.int 6]) hp2
   have ep2:upd H2 p2 (.lst [.int (1+n1 / 3 % 3),.int (1+n1 / 3 % 6),.int 6]) p2=some (.lst [.int (1+n1 / 3 % 3),.int (1+n1 / 3 % 6),.int 6]):=Ad
   generalize upd H2 p2 (.lst [.int (1+n1 / 3 % 3),.int (1+n1 / 3 % 6),.int 6])=H3 at Sp2 ep2 ⊢
   have q3:=Sp2.seqL q2
   refine⟨_,_,.inl q3,rfl,by decide,_,_,.inl (SqL.of ep2),en',?_⟩
   have S3:=(S1.trans Sp).trans Sp2
   refine⟨by decide,fun lr hlr=>⟨⟨by omega,by omega⟩,?_⟩⟩
   rw [cP]
   have hlr0:H lr=none:=S3.free hlr
   refine Mp (Gg 0 m) (fun i σ H'=>(∃ v,σ=[some (.int c),some (.ref l),some (.int m),some (.int n),some (.ref lr),v])/\Same H H'/\RowsAt K H' lr n i)
    ⟨⟨_,rfl⟩,S3.trans (Same.upd hlr),[],[],Ad,rfl,rfl,(fun r hr=>by cases hr),Aw⟩ (fun _ _ _ _ _=>aX) ?_ ?_
   ·rintro i x σ H4 hx ⟨⟨v,rfl⟩,S4,R4⟩
    obtain⟨hi,rfl⟩:=Nb hx
    have hys:∃ ys,H4 lr=some (.lst ys)/\ys.length=i:=by obtain⟨ys,_,h1,h2,_⟩:=R4;exact⟨ys,h1,h2⟩
    obtain⟨ys,ey,ly⟩:=hys
    refine⟨.inl ⟨rfl,_,SqL.of ey⟩,⟨by omega,by omega⟩,fun D hD=>?_⟩
    rw [cP]
    refine Hw (Gg 0 n) (fun j σ' H'=>(∃ v,σ'=[v,some (.int c),some (.int (i:Int))])/\Same H4 H' /\ ∃ zs:List Str,zs.length=j/\(∀ z∈zs,wfS z)/\H' D=some (.lst (zs.map V.str)))
     ⟨⟨_,rfl⟩,Same.upd hD,[],rfl,(fun z hz=>by cases hz),Ad⟩ (fun _ _ _ _ _=>aX) ?_ ?_
    ·rintro j xj σ' H5 hxj ⟨⟨v,rfl⟩,S5,zs,e1,e2,e3⟩
     obtain⟨hj,rfl⟩:=Nb hxj
     refine⟨.inl ⟨by decide,by decide⟩,.inl ⟨by decide,by decide⟩,_,rfl,fun z H6 S6 hz=>?_⟩
     refine⟨_,S6 _ _ e3,?_,⟨_,rfl⟩,(S5.trans S6).set hD,zs++[z],by rw [aH,e1];rfl,fun z' hz'=>?_,by rw [Ad,bn];rfl⟩
     ·rw [aw,e1];exact av (show j<6 by omega) (by decide)
     ·rcases List.mem_append.mp hz' with q|q
      ·exact e2 z' q
      ·have:z'=z:=by simpa using q
       subst this;exact hz
    ·rintro σ' H5 ⟨_,S5,zs,e1,e2,e3⟩
     rw [Cj] at e1
     refine⟨_,.inl ⟨SqL.of e3,fun rt hrt=>?_⟩⟩
     have S6:=S5.trans (Same.upd (o:=.tup (zs.map V.str)) hrt)
     have er:upd H5 rt (.tup (zs.map V.str)) rt=some (.tup (zs.map V.str)):=Ad
     generalize upd H5 rt (.tup (zs.map V.str))=H6 at S6 er ⊢
     exact⟨lr,_,_,rfl,rfl,S6 _ _ ey,by rw [ly];exact av (show i<6 by omega) (by decide),⟨_,rfl⟩,(S4.trans S6).set hlr0,(R4.same S6).row (S6 _ _ ey) er ⟨e1,e2⟩⟩
   ·rintro σ H4 ⟨⟨v,rfl⟩,S4,R4⟩
    rw [Cj] at R4
    exact .inl (R4.done m1 m6 n1' n6 S4 k)
end
section
variable {K:aa} {t:Adr} {H H':Hp}
theorem But.of (S:Same H H') {d:Addr}:But d H H':=fun b o _ e=>S b o e
theorem But.trans {H2:Hp} {d:Addr} (h:But d H H') (g:But d H' H2):But d H H2:=fun b o n e=>g b o n (h b o n e)
theorem But.upd {d:Addr} {o:HO}:But d H (upd H d o):=fun b o n e=>by rw [Ak n];exact e
theorem But.tk {d:Addr} {kvs:List (Key×V)} (h:But d H H') (e:H d=some (.dK kvs)):TKeep K H H':=fun a xs q=>by
 rcases q with (q|⟨o,q⟩)|q
 ·exact .inl (.inl (h _ _ (fun z=>by rw [z,e] at q;cases q) q))
 ·exact .inl (.inr ⟨o,h _ _ (fun z=>by rw [z,e] at q;cases q) q⟩)
 ·exact .inr q
theorem Yy (k:TKeep K H H'):∀ {c:Ct} {x:V},At K H (ctD c) x->At K H' (ctD c) x
 | .txt z,x,h=>by unfold ctD B0 At at h ⊢;exact h
 | .tab tb,x,h=>by
  obtain⟨a,xs,rfl,q,g⟩:=L9 (show At K H (.tup (tb.map Dz)) x from h)
  exact Ck (k _ _ q) (Fj k g)
theorem bt7 (k:TKeep K H H') {x:V}:∀ {e:Ed},edX K H x e->edX K H' x e
 | .addrow _ r,h=>E3 h k
 | .write _,h=>h
 | .splice _ _ _,h=>h
 | .cell _ _ _,h=>h
 | .cutrow _,h=>h
theorem F8 {r:Rc} {x:V} (h:At K H (rcD r) x):∃ a y,x=.ref a/\SqT K H a [.str r.kd,.str r.pr,.int r.rk,y]/\At K H (ctD r.ct) y:=by
 obtain⟨a,xs,rfl,q,g⟩:=L9 h
 unfold AtL at g
 obtain⟨y1,ys,rfl,g1,g⟩:=g
 unfold AtL at g
 obtain⟨y2,ys,rfl,g2,g⟩:=g
 unfold AtL at g
 obtain⟨y3,ys,rfl,g3,g⟩:=g
 unfold AtL at g
 obtain⟨y4,ys,rfl,g4,g⟩:=g
 unfold AtL at g
 subst g
 unfold B0 At at g1 g2
 unfold Gq At at g3
 obtain⟨rfl,_⟩:=g1
 obtain⟨rfl,_⟩:=g2
 obtain⟨rfl,_⟩:=g3
 exact⟨a,y4,rfl,q,g4⟩
theorem Ds {i:Int}:At K H (Gq i) (.int i):=by unfold Gq At;exact⟨rfl,rfl⟩
theorem Yr {r:Rc} {a:Addr} {y:V} (q:SqT K H a [.str r.kd,.str r.pr,.int r.rk,y]) (h:At K H (ctD r.ct) y):At K H (rcD r) (.ref a):=
 Ck q (Al Bf (Al Bf (Al Ds (Al h Aw))))
theorem Uw (k:TKeep K H H') {r:Rc} {x:V} (h:At K H (rcD r) x):At K H' (rcD r) x:=by
 obtain⟨a,y,rfl,q,g⟩:=F8 h
 exact Yr (k _ _ q) (Yy k g)
theorem Dy (k:TKeep K H H'):∀ {S:Rs} {xs:List V},AtL K H (S.map rcD) xs->AtL K H' (S.map rcD) xs
 | [],xs,h=>by rw [fz] at h ⊢;unfold AtL at h ⊢;exact h
 | r::rs,xs,h=>by
  rw [ba] at h ⊢
  unfold AtL at h
  obtain⟨y,ys,rfl,h1,h2⟩:=h
  exact Al (Uw k h1) (Dy k h2)
theorem RsAt.up {d:Addr} {S:Rs} (h:RsAt K H d S) (s:Same H H'):RsAt K H' d S:=by
 obtain⟨vs,e,g⟩:=h
 exact⟨vs,s _ _ e,Bz s g⟩
theorem RsAt.but {d d':Addr} {S:Rs} (h:RsAt K H d S) (ne:d≠d') {kvs:List (Key×V)} (e':H d'=some (.dK kvs)) (b:But d' H H'):RsAt K H' d S:=by
 obtain⟨vs,e,g⟩:=h
 exact⟨vs,b _ _ ne e,Dy (b.tk e') g⟩
theorem PlAt.up {p d:Addr} {S:Rs} (h:PlAt K t H p d S) (s:Same H H'):PlAt K t H' p d S:=by
 obtain⟨⟨dx,e⟩,g⟩:=h
 exact⟨⟨dx,s _ _ e⟩,g.up s⟩
theorem Du {x:V} {e:Ed} (h:edX K H x e) (s:Same H H'):edX K H' x e:=bt7 (TKeep.of s) h
theorem EdAt.up {i:Nat} {e:Ed} {a:Addr} (h:EdAt K t H i e a) (s:Same H H'):EdAt K t H' i e a:=by
 obtain⟨dx,x,e1,g⟩:=h
 exact⟨dx,x,s _ _ e1,Du g s⟩
theorem TdAt.up {i:Nat} {e:Ed} {p:Addr} (h:TdAt K H i e p) (s:Same H H'):TdAt K H' i e p:=by
 obtain⟨x,e1,g⟩:=h
 exact⟨x,s.seqT e1,Du g s⟩
theorem aa0 {vs:List V} (h:vs.length=3) (i:Nat):Ko (kv3 vs) (.inr (nm i))=vs[i]?:=by
 match vs,h with
 | [a,b,c],_=>
  match i with
  | 0=>rfl
  | 1=>rfl
  | 2=>rfl
  | n+3=>rfl
theorem a49 {vs:List V} (h:vs.length=3) {i:Nat} (hi:i<3) (v:V):B8 (kv3 vs) (.inr (nm i)) v=kv3 (vs.set i v):=by
 match vs,h with
 | [a,b,c],_=>
  match i,hi with
  | 0,_=>rfl
  | 1,_=>rfl
  | 2,_=>rfl
theorem RsAt.len {d:Addr} {S:Rs} {vs:List V} (o:Ok S) (g:AtL K H (S.map rcD) vs):vs.length=3:=by rw [g.length,aw];exact o.1
theorem RsAt.get {d:Addr} {S:Rs} {i:Nat} {r:Rc} (h:RsAt K H d S) (o:Ok S) (e:S[i]? = some r):∃ x,E5 H d (.str (nm i)) (some x)/\At K H (rcD r) x:=by
 obtain⟨vs,e1,g⟩:=h
 obtain⟨x,e2,a⟩:=Dr g (d:=rcD r) (i:=i) (by rw [aY,e];rfl)
 refine⟨x,.inl ⟨_,.inr (nm i),.inl e1,rfl,?_⟩,a⟩
 rw [aa0 (RsAt.len (d:=d) o g),e2]
theorem RsAt.no {d:Addr} {S:Rs} {i:Nat} (h:RsAt K H d S) (o:Ok S) (e:S[i]? = none):E5 H d (.str (nm i)) none:=by
 obtain⟨vs,e1,g⟩:=h
 refine .inl ⟨_,.inr (nm i),.inl e1,rfl,?_⟩
 have l:=RsAt.len (d:=d) o g
 rw [aa0 l]
 have:S.length<=i:=List.getElem?_eq_none_iff.mp e
 have:=o.1
 exact (bI (by omega)).symm
theorem Ok.at {S:Rs} (o:Ok S) {i:Nat} (h:i<3):∃ r,S[i]? = some r:=⟨S[i]'(by have:=o.1;omega),aq _⟩
theorem Ok.lt {S:Rs} (o:Ok S) {i:Nat} {r:Rc} (h:S[i]? = some r):i<3:=by
 have:=(List.getElem?_eq_some_iff.mp h).1
 have:=o.1
 omega
theorem Ok.rc {S:Rs} (o:Ok S) {i:Nat} {r:Rc} (h:S[i]? = some r):r.ok:=o.2 r (bC h)
theorem RsAt.put {d q:Addr} {S:Rs} {i:Nat} {r:Rc} {c:Ct} {vs:List V} (o:Ok S) (e1:H d=some (.dK (kv3 vs))) (g:AtL K H (S.map rcD) vs) (e:S[i]? = some r) (hq:H q=none) {x:V} (hx:At K H (ctD c) x) :
  RsAt K (upd (upd H q (.tup [.str r.kd,.str r.pr,.int r.rk,x])) d (.dK (B8 (kv3 vs) (.inr (nm i)) (.ref q)))) d (upS S i (.good c)):=by
 have l:=RsAt.len (d:=d) o g
 rw [a49 l (o.lt e)]
 refine⟨_,Ad,?_⟩
 have ne:q≠d:=fun z=>by rw [z,e1] at hq;cases hq
 have k:TKeep K H (upd (upd H q (.tup [.str r.kd,.str r.pr,.int r.rk,x])) d (.dK (kv3 (vs.set i (.ref q))))):=((But.of (Same.upd hq)).trans But.upd).tk e1
 have eq:upd (upd H q (.tup [.str r.kd,.str r.pr,.int r.rk,x])) d (.dK (kv3 (vs.set i (.ref q)))) q=some (.tup [.str r.kd,.str r.pr,.int r.rk,x]):=by rw [Ak ne,Ad]
 generalize upd (upd H q (.tup [.str r.kd,.str r.pr,.int r.rk,x])) d (.dK (kv3 (vs.set i (.ref q))))=H2 at k eq
 have g2:=Dy k g
 have a2:At K H2 (rcD { r with ct:=c }) (.ref q):=Yr (SqT.of eq) (Yy k hx)
 match S,o.1,vs,l,i,o.lt e with
 | [r1,r2,r3],_,[v1,v2,v3],_,i,hi=>
  have n1:=Dr g2 (i:=0) rfl
  have n2:=Dr g2 (i:=1) rfl
  have n3:=Dr g2 (i:=2) rfl
  obtain⟨_,z,n1⟩:=n1
  cases z
  obtain⟨_,z,n2⟩:=n2
  cases z
  obtain⟨_,z,n3⟩:=n3
  cases z
  match i,hi with
  | 0,_=>cases e;exact Al a2 (Al n2 (Al n3 Aw))
  | 1,_=>cases e;exact Al n1 (Al a2 (Al n3 Aw))
  | 2,_=>cases e;exact Al n1 (Al n2 (Al a2 Aw))
end
section
variable {P:aE} {w:bq} {K:aa} {mg:Str->Option Value} {base:Heap} {t:Adr}
theorem a60 {f:Addr} {fd:ai} (Z:Facts K t) (F:FunD K "__init__" "Plain.__init__" Jq f fd .none) (T:Tab P w K mg base 0 (Az K t) bl):FnOk P w K mg base CX0 1 f fd Ny (ag2 K t):=by
 refine F.okW0 bj5 bo9 T (bf4 K t) (fun vs H Q E h=>?_) (fun vs H Q E h=>?_)
 ·obtain⟨a,dx,rfl,_⟩:=h;rfl
 ·obtain⟨a,dx,rfl,e,k⟩:=h
  intro d hd
  have ne:a≠d:=fun z=>by rw [z,hd] at e;cases e
  exact .inl (.inl ⟨t.c_zcc,dx,[],by rw [Ak ne];exact e,Z.pl,Z.plr,by decide,k d hd⟩)
theorem a68 {f:Addr} {fd:ai} (Z:Facts K t) (F:FunD K "lay" "Plain.lay" Jz f fd .none) (T:Tab P w K mg base 0 (Az K t) bl):FnOk P w K mg base CX0 1 f fd N8 (ah0 K t):=by
 refine F.okW0 bk5 bp9 T (bg4 K t) (fun vs H Q E h=>?_) (fun vs H Q E h=>?_)
 ·obtain⟨p,dx,d,kvs,z,a,b,c,x,rfl,_⟩:=h;rfl
 ·obtain⟨p,dx,d,kvs,z,a,b,c,x,rfl,e,ed,hl,k⟩:=h
  refine⟨(show 4<=sizeLine by decide),fun q hq=>?_⟩
  have n1:p≠q:=fun z=>by rw [z,hq] at e;cases e
  have n2:d≠q:=fun z=>by rw [z,hq] at ed;cases ed
  refine a9 ⟨_,_,_,.ref d,(by rw [Ak n1];exact e),Z.pl,Z.plr,rfl,⟨_,DPut.k (k:=.inr z) (by rw [Ak n2];exact ed) (Nat.lt_trans hl (by decide)),k q hq⟩⟩
theorem Ja {f:Addr} {fd:ai} (Z:Facts K t) (F:FunD K "made" "Edit.made" Jx f fd .none) (T:Tab P w K mg base 0 (Az K t) bl):FnOk P w K mg base CX0 1 f fd N5 (ag7 K t):=by
 refine F.okW0 bk2 bp6 T (bg1 K t) (fun vs H Q E h=>?_) (fun vs H Q E h=>?_)
 ·obtain⟨s,rfl,_⟩:=h;rfl
 ·obtain⟨s,rfl,k⟩:=h;exact k
theorem Cn (e:Ed):edC t e∈Y7 t:=by cases e <;> simp [edC,Y7]
theorem Facts.fld (Z:Facts K t) (e:Ed) {f:Str} (h:f∈Qr):NoAttr K (edC t e) f:=(Z.ed _ (Cn e)).2.2 f h
theorem Facts.cl (Z:Facts K t) (e:Ed):Cls K (edC t e):=(Z.ed _ (Cn e)).1
theorem Pr {f:Addr} {fd:ai} (Z:Facts K t) (F:FunD K "about" "PartEdit.about" R7 f fd .none) (T:Tab P w K mg base 0 (Az K t) bl):FnOk P w K mg base CX0 1 f fd Yg (av7 K t):=by
 refine F.okW0 b43 cb9 T (b17 K t) (fun vs H Q E h=>?_) (fun vs H Q E h=>?_)
 ·obtain⟨a,i,e,rfl,_⟩:=h;rfl
 ·obtain⟨a,i,e,rfl,⟨dx,x,ea,_⟩,k⟩:=h
  exact a9 ⟨_,_,_,_,ea,(Z.cl e),(Z.fld e (by decide)),rfl,k⟩
theorem a62 {f:Addr} {fd:ai} (Z:Facts K t) (F:FunD K "told" "Write.told" Js f fd .none) (T:Tab P w K mg base 0 (Az K t) bl):FnOk P w K mg base CX0 1 f fd N0 (ag4 K t):=by
 refine F.okW0 bj7 bp1 T (bf6 K t) (fun vs H Q E h=>?_) (fun vs H Q E h=>?_)
 ·obtain⟨a,i,e,rfl,_⟩:=h;rfl
 ·obtain⟨a,i,e,rfl,hk,⟨dx,x,ea,hx⟩,k⟩:=h
  cases e <;> first|cases hk;done|skip
  rename_i z
  have Z1:=Z.cl (.write z)
  have Z2:=fun f h=>Z.fld (.write z) (f:=f) h
  exact a9 ⟨_,_,_,_,ea,Z1,(Z2 _ (by decide)),rfl,(a9 ⟨_,_,_,_,ea,Z1,(Z2 _ (by decide)),rfl,⟨(show 3<=sizeLine by decide),fun p hp=>k _ p (Same.upd hp) ⟨x,SqT.of Ad,aX⟩⟩⟩)⟩
theorem a58 {f:Addr} {fd:ai} (Z:Facts K t) (F:FunD K "told" "Splice.told" Jo f fd .none) (T:Tab P w K mg base 0 (Az K t) bl):FnOk P w K mg base CX0 1 f fd Nw (ag1 K t):=by
 refine F.okW0 bj3 bo7 T (bf2 K t) (fun vs H Q E h=>?_) (fun vs H Q E h=>?_)
 ·obtain⟨a,i,e,rfl,_⟩:=h;rfl
 ·obtain⟨a,i,e,rfl,hk,⟨dx,x,ea,hx⟩,k⟩:=h
  cases e <;> first|cases hk;done|skip
  rename_i n m z
  have Z1:=Z.cl (.splice n m z)
  have Z2:=fun f h=>Z.fld (.splice n m z) (f:=f) h
  exact a9 ⟨_,_,_,_,ea,Z1,(Z2 _ (by decide)),rfl,(a9 ⟨_,_,_,_,ea,Z1,(Z2 _ (by decide)),rfl,(a9 ⟨_,_,_,_,ea,Z1,(Z2 _ (by decide)),rfl,(a9 ⟨_,_,_,_,ea,Z1,(Z2 _ (by decide)),rfl,⟨(show 5<=sizeLine by decide),fun p hp=>k _ p (Same.upd hp) ⟨x,SqT.of Ad,aX⟩⟩⟩)⟩)⟩)⟩
theorem a66 {f:Addr} {fd:ai} (Z:Facts K t) (F:FunD K "told" "Cell.told" Jw f fd .none) (T:Tab P w K mg base 0 (Az K t) bl):FnOk P w K mg base CX0 1 f fd N4 (ag6 K t):=by
 refine F.okW0 bk1 bp5 T (bg0 K t) (fun vs H Q E h=>?_) (fun vs H Q E h=>?_)
 ·obtain⟨a,i,e,rfl,_⟩:=h;rfl
 ·obtain⟨a,i,e,rfl,hk,⟨dx,x,ea,hx⟩,k⟩:=h
  cases e <;> first|cases hk;done|skip
  rename_i n m z
  have Z1:=Z.cl (.cell n m z)
  have Z2:=fun f h=>Z.fld (.cell n m z) (f:=f) h
  exact a9 ⟨_,_,_,_,ea,Z1,(Z2 _ (by decide)),rfl,(a9 ⟨_,_,_,_,ea,Z1,(Z2 _ (by decide)),rfl,(a9 ⟨_,_,_,_,ea,Z1,(Z2 _ (by decide)),rfl,(a9 ⟨_,_,_,_,ea,Z1,(Z2 _ (by decide)),rfl,⟨(show 5<=sizeLine by decide),fun p hp=>k _ p (Same.upd hp) ⟨x,SqT.of Ad,aX⟩⟩⟩)⟩)⟩)⟩
theorem a52 {f:Addr} {fd:ai} (Z:Facts K t) (F:FunD K "told" "AddRow.told" Ji f fd .none) (T:Tab P w K mg base 0 (Az K t) bl):FnOk P w K mg base CX0 1 f fd Np (af5 K t):=by
 refine F.okW0 bi7 bo1 T (be6 K t) (fun vs H Q E h=>?_) (fun vs H Q E h=>?_)
 ·obtain⟨a,i,e,rfl,_⟩:=h;rfl
 ·obtain⟨a,i,e,rfl,hk,⟨dx,x,ea,hx⟩,k⟩:=h
  cases e <;> first|cases hk;done|skip
  rename_i n z
  have Z1:=Z.cl (.addrow n z)
  have Z2:=fun f h=>Z.fld (.addrow n z) (f:=f) h
  exact a9 ⟨_,_,_,_,ea,Z1,(Z2 _ (by decide)),rfl,(a9 ⟨_,_,_,_,ea,Z1,(Z2 _ (by decide)),rfl,(a9 ⟨_,_,_,_,ea,Z1,(Z2 _ (by decide)),rfl,⟨(show 4<=sizeLine by decide),fun p hp=>k _ p (Same.upd hp) ⟨x,SqT.of Ad,Du hx (Same.upd hp)⟩⟩⟩)⟩)⟩
theorem a54 {f:Addr} {fd:ai} (Z:Facts K t) (F:FunD K "told" "CutRow.told" Jk f fd .none) (T:Tab P w K mg base 0 (Az K t) bl):FnOk P w K mg base CX0 1 f fd Nr (af7 K t):=by
 refine F.okW0 bi9 bo3 T (be8 K t) (fun vs H Q E h=>?_) (fun vs H Q E h=>?_)
 ·obtain⟨a,i,e,rfl,_⟩:=h;rfl
 ·obtain⟨a,i,e,rfl,hk,⟨dx,x,ea,hx⟩,k⟩:=h
  cases e <;> first|cases hk;done|skip
  rename_i n
  have Z1:=Z.cl (.cutrow n)
  have Z2:=fun f h=>Z.fld (.cutrow n) (f:=f) h
  exact a9 ⟨_,_,_,_,ea,Z1,(Z2 _ (by decide)),rfl,(a9 ⟨_,_,_,_,ea,Z1,(Z2 _ (by decide)),rfl,⟨(show 3<=sizeLine by decide),fun p hp=>k _ p (Same.upd hp) ⟨x,SqT.of Ad,aX⟩⟩⟩)⟩
theorem Nl {H:Hp} {a:Addr} {o o':HO}:upd (upd H a o) a o'=upd H a o':=by
 funext b
 by_cases h:b=a
 ·subst h;rw [Ad,Ad]
 ·rw [Ak h,Ak h,Ak h]
theorem Pg {H H2:Hp} {a:Addr} {O X:HO} {Q:VK} (k:∀ H',Same H H'->Q .non (upd H' a X)) (b:But a H H2) (e:H a=some O):Q .non (upd H2 a X):=by
 have:=k (upd H2 a O) fun b' o h=>by
  by_cases hb:b'=a
  ·subst hb;rw [Ad,<- e,h]
  ·rw [Ak hb];exact b _ _ hb h
 rwa [Nl] at this
theorem bw8 {f:Addr} {fd:ai} (Z:Facts K t) (F:FunD K "__init__" "PartEdit.__init__" Sa f fd .none) (T:Tab P w K mg base 3 (Fu K t) bl):FnOk P w K mg base CX0 4 f fd Yj (U3 K t):=by
 refine F.okW0 b46 cc2 T (b20 K t) (fun vs H Q E h=>?_) (fun vs H Q E h=>?_)
 ·obtain⟨a,C,dx,i,rfl,_⟩:=h;rfl
 ·obtain⟨a,C,dx,i,rfl,e,hC,k⟩:=h
  exact⟨i,rfl,fun H' S=>⟨rfl,.inl ⟨C,dx,[],S _ _ e,(Z.ed C hC).1,(Z.ed C hC).2.2 _ (by decide),by decide,k H' S⟩⟩⟩
theorem bx1 {f:Addr} {fd:ai} (Z:Facts K t) (F:FunD K "__init__" "TextEdit.__init__" Sd f fd .none) (T:Tab P w K mg base 5 (Hb K t) bl):FnOk P w K mg base CX0 6 f fd Ym (U4 K t):=by
 refine F.okW0 b49 cc5 T (b23 K t) (fun vs H Q E h=>?_) (fun vs H Q E h=>?_)
 ·obtain⟨a,C,dx,i,rfl,_⟩:=h;rfl
 ·obtain⟨a,C,dx,i,rfl,e,hC,k⟩:=h
  exact⟨a,C,dx,i,rfl,e,hC,k⟩
theorem bw6 {f:Addr} {fd:ai} (Z:Facts K t) (F:FunD K "__init__" "TableEdit.__init__" R8 f fd .none) (T:Tab P w K mg base 5 (Hb K t) bl):FnOk P w K mg base CX0 6 f fd Yh (P8 K t):=by
 refine F.okW0 b44 cc0 T (b18 K t) (fun vs H Q E h=>?_) (fun vs H Q E h=>?_)
 ·obtain⟨a,C,dx,i,rfl,_⟩:=h;rfl
 ·obtain⟨a,C,dx,i,rfl,e,hC,k⟩:=h
  exact⟨a,C,dx,i,rfl,e,hC,k⟩
theorem a61 {f:Addr} {fd:ai} (Z:Facts K t) (F:FunD K "__init__" "Write.__init__" Jr f fd .none) (T:Tab P w K mg base 7 (Fv K t) bl):FnOk P w K mg base CX0 8 f fd Nz (ag3 K t):=by
 refine F.okW0 bj6 bp0 T (bf5 K t) (fun vs H Q E h=>?_) (fun vs H Q E h=>?_)
 ·obtain⟨a,dx,i,e,x,hk,rfl,_⟩:=h;cases e <;> first|rfl|cases hk
 ·obtain⟨a,dx,i,e,x,hk,rfl,ea,ho,hx,k⟩:=h
  cases e <;> first|cases hk;done|skip
  rename_i z
  have Z1:=Z.cl (.write z)
  have Z2:=fun f h=>Z.fld (.write z) (f:=f) h
  refine⟨a,_,dx,i,rfl,ea,Cn (.write z),fun H1 S1=>⟨z,rfl,ho,fun H2 S2=>⟨rfl,?_⟩⟩⟩
  exact .inl ⟨t.c_zcd,dx,_,S2 _ _ Ad,Z1,Z2 _ (by decide),(show 1<1000 by decide),Pg k (((But.of S1).trans But.upd).trans (But.of S2)) ea⟩
theorem a57 {f:Addr} {fd:ai} (Z:Facts K t) (F:FunD K "__init__" "Splice.__init__" Jn f fd .none) (T:Tab P w K mg base 7 (Fv K t) bl):FnOk P w K mg base CX0 8 f fd Nv (ag0 K t):=by
 refine F.okW0 bj2 bo6 T (bf1 K t) (fun vs H Q E h=>?_) (fun vs H Q E h=>?_)
 ·obtain⟨a,dx,i,e,x,hk,rfl,_⟩:=h;cases e <;> first|rfl|cases hk
 ·obtain⟨a,dx,i,e,x,hk,rfl,ea,ho,hx,k⟩:=h
  cases e <;> first|cases hk;done|skip
  rename_i p n z
  have Z1:=Z.cl (.splice p n z)
  have Z2:=fun f h=>Z.fld (.splice p n z) (f:=f) h
  refine⟨a,_,dx,i,rfl,ea,Cn (.splice p n z),fun H1 S1=>⟨p,rfl,ho.1,⟨n,rfl,ho.2.1,⟨z,rfl,ho.2.2,fun H2 S2=>⟨rfl,?_⟩⟩⟩⟩⟩
  exact .inl ⟨t.c_zcb,dx,_,S2 _ _ Ad,Z1,Z2 _ (by decide),(show 1<1000 by decide),.inl ⟨t.c_zcb,dx,_,Ad,Z1,Z2 _ (by decide),(show 2<1000 by decide),.inl ⟨t.c_zcb,dx,_,Ad,Z1,Z2 _ (by decide),(show 3<1000 by decide),
   Pg k (((((But.of S1).trans But.upd).trans (But.of S2)).trans But.upd).trans But.upd) ea⟩⟩⟩
theorem a65 {f:Addr} {fd:ai} (Z:Facts K t) (F:FunD K "__init__" "Cell.__init__" Jv f fd .none) (T:Tab P w K mg base 7 (Fv K t) bl):FnOk P w K mg base CX0 8 f fd N3 (ag5 K t):=by
 refine F.okW0 bk0 bp4 T (bf9 K t) (fun vs H Q E h=>?_) (fun vs H Q E h=>?_)
 ·obtain⟨a,dx,i,e,x,hk,rfl,_⟩:=h;cases e <;> first|rfl|cases hk
 ·obtain⟨a,dx,i,e,x,hk,rfl,ea,ho,hx,k⟩:=h
  cases e <;> first|cases hk;done|skip
  rename_i p n z
  have Z1:=Z.cl (.cell p n z)
  have Z2:=fun f h=>Z.fld (.cell p n z) (f:=f) h
  refine⟨a,_,dx,i,rfl,ea,Cn (.cell p n z),fun H1 S1=>⟨p,rfl,ho.1,⟨n,rfl,ho.2.1,⟨z,rfl,ho.2.2,fun H2 S2=>⟨rfl,?_⟩⟩⟩⟩⟩
  exact .inl ⟨t.c_zce,dx,_,S2 _ _ Ad,Z1,Z2 _ (by decide),(show 1<1000 by decide),.inl ⟨t.c_zce,dx,_,Ad,Z1,Z2 _ (by decide),(show 2<1000 by decide),.inl ⟨t.c_zce,dx,_,Ad,Z1,Z2 _ (by decide),(show 3<1000 by decide),
   Pg k (((((But.of S1).trans But.upd).trans (But.of S2)).trans But.upd).trans But.upd) ea⟩⟩⟩
theorem TKeep.ins {K:aa} {H H':Hp} {a C dx:Addr} {fs:List (Str×V)} (h:But a H H') (e:H a=some (.ins C dx fs)):TKeep K H H':=fun b xs q=>by
 rcases q with (q|⟨o,q⟩)|q
 ·exact .inl (.inl (h _ _ (fun z=>by rw [z,e] at q;cases q) q))
 ·exact .inl (.inr ⟨o,h _ _ (fun z=>by rw [z,e] at q;cases q) q⟩)
 ·exact .inr q
theorem a51 {f:Addr} {fd:ai} (Z:Facts K t) (F:FunD K "__init__" "AddRow.__init__" Jh f fd .none) (T:Tab P w K mg base 7 (Fv K t) bl):FnOk P w K mg base CX0 8 f fd No (af4 K t):=by
 refine F.okW0 bi6 bo0 T (be5 K t) (fun vs H Q E h=>?_) (fun vs H Q E h=>?_)
 ·obtain⟨a,dx,i,e,x,hk,rfl,_⟩:=h;cases e <;> first|rfl|cases hk
 ·obtain⟨a,dx,i,e,x,hk,rfl,ea,ho,hx,k⟩:=h
  cases e <;> first|cases hk;done|skip
  rename_i p r
  have Z1:=Z.cl (.addrow p r)
  have Z2:=fun f h=>Z.fld (.addrow p r) (f:=f) h
  refine⟨a,_,dx,i,rfl,ea,Cn (.addrow p r),fun H1 S1=>⟨p,rfl,ho.1,⟨x,r,rfl,E3 hx (TKeep.ins ((But.of S1).trans But.upd) ea),ho.2.1,ho.2.2.1,ho.2.2.2,fun H2 S2=>⟨rfl,?_⟩⟩⟩⟩
  exact .inl ⟨t.c_zby,dx,_,S2 _ _ Ad,Z1,Z2 _ (by decide),(show 1<1000 by decide),.inl ⟨t.c_zby,dx,_,Ad,Z1,Z2 _ (by decide),(show 2<1000 by decide),
   Pg k ((((But.of S1).trans But.upd).trans (But.of S2)).trans But.upd) ea⟩⟩
theorem a53 {f:Addr} {fd:ai} (Z:Facts K t) (F:FunD K "__init__" "CutRow.__init__" Jj f fd .none) (T:Tab P w K mg base 7 (Fv K t) bl):FnOk P w K mg base CX0 8 f fd Nq (af6 K t):=by
 refine F.okW0 bi8 bo2 T (be7 K t) (fun vs H Q E h=>?_) (fun vs H Q E h=>?_)
 ·obtain⟨a,dx,i,e,x,hk,rfl,_⟩:=h;cases e <;> first|rfl|cases hk
 ·obtain⟨a,dx,i,e,x,hk,rfl,ea,ho,hx,k⟩:=h
  cases e <;> first|cases hk;done|skip
  rename_i p
  have Z1:=Z.cl (.cutrow p)
  have Z2:=fun f h=>Z.fld (.cutrow p) (f:=f) h
  refine⟨a,_,dx,i,rfl,ea,Cn (.cutrow p),fun H1 S1=>⟨p,rfl,ho,⟨rfl,?_⟩⟩⟩
  exact .inl ⟨t.c_zbz,dx,_,Ad,Z1,Z2 _ (by decide),(show 1<1000 by decide),Pg k ((But.of S1).trans But.upd) ea⟩
theorem Pq {f:Addr} {fd:ai} (Z:Facts K t) (F:FunD K "__init__" "EditError.__init__" Gy f fd t.dv_zp) (T:Tab P w K mg base 0 (Az K t) bl):FnOk P w K mg base CX0 1 f fd Yf (av6 K t):=by
 refine F.okW0 b42 cb8 T (b16 K t) (fun vs H Q E h=>?_) (fun vs H Q E h=>?_)
 ·obtain⟨H0,a,C,x,y,rfl,_⟩:=h;rfl
 ·obtain⟨H0,a,C,x,y,rfl,ha,rfl,c,n1,n2,k⟩:=h
  refine .inr ⟨C,c,n1,.inl ⟨Ad,fun dx hdx ne=>.inr ⟨C,c,n2,.inr ⟨dx,[("part", x)],ne,Ad,by rw [Ak ne,Ad],(show 1<1000 by decide),?_⟩⟩⟩⟩
  have hd:H0 dx=none:=by rw [Ak ne] at hdx;exact hdx
  refine k _ dx (fun b o h=>?_) ne (by rw [Ak (cK ne),Ad]) Ad
  have b1:b≠dx:=fun z=>by rw [z,hd] at h;cases h
  have b2:b≠a:=fun z=>by rw [z,ha] at h;cases h
  rw [Ak b1,Ak b2,Ak b1,Ak b2]
  exact h
theorem a67 {f:Addr} {fd:ai} (Z:Facts K t) (F:FunD K "has" "Plain.has" Jy f fd .none) (T:Tab P w K mg base 0 (Az K t) bl):FnOk P w K mg base CX0 1 f fd N7 (ag9 K t):=by
 refine F.okW0 bk4 bp8 T (bg3 K t) (fun vs H Q E h=>?_) (fun vs H Q E h=>?_)
 ·obtain⟨p,d,S,i,rfl,_⟩:=h;rfl
 ·obtain⟨p,d,S,i,rfl,⟨⟨dx,e⟩,hR⟩,o,k⟩:=h
  refine a9 ⟨_,_,_,.ref d,e,Z.pl,Z.plr,rfl,.inr ?_⟩
  by_cases hi:i<3
  ·obtain⟨r,er⟩:=o.at hi
   obtain⟨x,g,_⟩:=hR.get o er
   rw [decide_eq_true hi] at k
   exact⟨_,g,k⟩
  ·rw [decide_eq_false hi] at k
   exact⟨_,hR.no o (bI (by have:=o.1;omega)),k⟩
theorem a56 {f:Addr} {fd:ai} (Z:Facts K t) (F:FunD K "state" "Plain.state" Jm f fd .none) (T:Tab P w K mg base 2 (Di K t) bl):FnOk P w K mg base CX0 3 f fd Nu (af9 K t):=by
 refine F.okW0 bj1 bo5 T (bf0 K t) (fun vs H Q E h=>?_) (fun vs H Q E h=>?_)
 ·obtain⟨p,d,S,i,r,rfl,_⟩:=h;rfl
 ·obtain⟨p,d,S,i,r,rfl,⟨⟨dx,e⟩,hR⟩,o,er,k⟩:=h
  obtain⟨x,g,hx⟩:=hR.get o er
  exact a9 ⟨_,_,_,.ref d,e,Z.pl,Z.plr,rfl,.inr ⟨_,g,a9 ⟨_,_,_,.ref d,e,Z.pl,Z.plr,rfl,⟨x,g,k x hx⟩⟩⟩⟩
theorem bw9 {f:Addr} {fd:ai} (Z:Facts K t) (F:FunD K "kind_of" "Plain.kind_of" Sb f fd .none) (T:Tab P w K mg base 3 (Fu K t) bl):FnOk P w K mg base CX0 4 f fd Yk (av9 K t):=by
 refine F.okW0 b47 cc3 T (b21 K t) (fun vs H Q E h=>?_) (fun vs H Q E h=>?_)
 ·obtain⟨p,d,S,i,r,rfl,_⟩:=h;rfl
 ·obtain⟨p,d,S,i,r,rfl,⟨⟨dx,e⟩,hR⟩,o,er,k⟩:=h
  refine⟨p,dx,_,⟨t.c_zcc,Ig K t⟩,rfl,.head _,e,rfl,⟨ae _,ae _⟩,⟨p,d,S,i,r,rfl,⟨⟨dx,e⟩,hR⟩,o,er,fun x hx=>?_⟩⟩
  obtain⟨a,y,rfl,q,hy⟩:=F8 hx
  exact⟨_,_,.inr q,rfl,k⟩
theorem bw2 {f:Addr} {fd:ai} (Z:Facts K t) (F:FunD K "parent_of" "Plain.parent_of" Rz f fd .none) (T:Tab P w K mg base 3 (Fu K t) bl):FnOk P w K mg base CX0 4 f fd Ya (av1 K t):=by
 refine F.okW0 b37 cb3 T (b09 K t) (fun vs H Q E h=>?_) (fun vs H Q E h=>?_)
 ·obtain⟨p,d,S,i,r,rfl,_⟩:=h;rfl
 ·obtain⟨p,d,S,i,r,rfl,⟨⟨dx,e⟩,hR⟩,o,er,k⟩:=h
  refine⟨p,dx,_,⟨t.c_zcc,Ig K t⟩,rfl,.head _,e,rfl,⟨ae _,ae _⟩,⟨p,d,S,i,r,rfl,⟨⟨dx,e⟩,hR⟩,o,er,fun x hx=>?_⟩⟩
  obtain⟨a,y,rfl,q,hy⟩:=F8 hx
  exact⟨_,_,.inr q,rfl,k⟩
theorem bx0 {f:Addr} {fd:ai} (Z:Facts K t) (F:FunD K "rank_of" "Plain.rank_of" Sc f fd .none) (T:Tab P w K mg base 3 (Fu K t) bl):FnOk P w K mg base CX0 4 f fd Yl (aw0 K t):=by
 refine F.okW0 b48 cc4 T (b22 K t) (fun vs H Q E h=>?_) (fun vs H Q E h=>?_)
 ·obtain⟨p,d,S,i,r,rfl,_⟩:=h;rfl
 ·obtain⟨p,d,S,i,r,rfl,⟨⟨dx,e⟩,hR⟩,o,er,k⟩:=h
  refine⟨p,dx,_,⟨t.c_zcc,Ig K t⟩,rfl,.head _,e,rfl,⟨ae _,ae _⟩,⟨p,d,S,i,r,rfl,⟨⟨dx,e⟩,hR⟩,o,er,fun x hx=>?_⟩⟩
  obtain⟨a,y,rfl,q,hy⟩:=F8 hx
  exact⟨_,_,.inr q,rfl,k⟩
theorem bv9 {f:Addr} {fd:ai} (Z:Facts K t) (F:FunD K "content_of" "Plain.content_of" Rv f fd .none) (T:Tab P w K mg base 3 (Fu K t) bl):FnOk P w K mg base CX0 4 f fd X6 (au7 K t):=by
 refine F.okW0 b33 ca9 T (b05 K t) (fun vs H Q E h=>?_) (fun vs H Q E h=>?_)
 ·obtain⟨p,d,S,i,r,rfl,_⟩:=h;rfl
 ·obtain⟨p,d,S,i,r,rfl,⟨⟨dx,e⟩,hR⟩,o,er,k⟩:=h
  refine⟨p,dx,_,⟨t.c_zcc,Ig K t⟩,rfl,.head _,e,rfl,⟨ae _,ae _⟩,⟨p,d,S,i,r,rfl,⟨⟨dx,e⟩,hR⟩,o,er,fun x hx=>?_⟩⟩
  obtain⟨a,y,rfl,q,hy⟩:=F8 hx
  exact⟨_,_,.inr q,rfl,k y hy⟩
theorem al1:K1 ltS nms=nms:=by decide +kernel
theorem a55 {f:Addr} {fd:ai} (Z:Facts K t) (F:FunD K "names" "Plain.names" Jl f fd .none) (T:Tab P w K mg base 0 (Az K t) bl):FnOk P w K mg base CX0 1 f fd Nt (af8 K t):=by
 refine F.okW0 bj0 bo4 T (be9 K t) (fun vs H Q E h=>?_) (fun vs H Q E h=>?_)
 ·obtain⟨p,d,S,rfl,_⟩:=h;rfl
 ·obtain⟨p,d,S,rfl,⟨⟨dx,e⟩,vs,ed,g⟩,o,k⟩:=h
  have l:=RsAt.len (d:=d) o g
  refine a9 ⟨_,_,_,.ref d,e,Z.pl,Z.plr,rfl,.inr ⟨rfl,d,nms,rfl,.inr ⟨_,.inl ed,?_⟩,by decide +kernel,by decide,fun D hD=>?_⟩⟩
  ·match vs,l with
   | [a,b,c],_=>rfl
  ·rw [al1]
   exact k D hD
theorem a83 {f:Addr} {fd:ai} (Z:Facts K t) (F:FunD K "rewrite" "rewrite" Ke f fd .none) (T:Tab P w K mg base 4 (Pf K t) bl):FnOk P w K mg base CX0 5 f fd Op (G1 K t):=by
 refine F.okW0 bm1 br5 T (bi0 K t) (fun vs H Q E h=>?_) (fun vs H Q E h=>?_)
 ·obtain⟨p,d,S,i,c,x,rfl,_⟩:=h;rfl
 ·obtain⟨p,d,S,i,c,x,rfl,hP,o,hi,hx,k⟩:=h
  obtain⟨r,er⟩:=o.at hi
  obtain⟨⟨dx,e⟩,vs,ed,g⟩:=id hP
  have l:=RsAt.len (d:=d) o g
  refine⟨p,dx,_,⟨t.c_zcc,Ub K t⟩,rfl,.head _,e,rfl,⟨ae _,ae _⟩,p,dx,_,⟨t.c_zcc,Zv K t⟩,rfl,.head _,e,rfl,⟨ae _,ae _⟩,⟨p,d,S,i,r,rfl,hP,o,er,
   ⟨p,dx,_,⟨t.c_zcc,a28 K t⟩,rfl,.head _,e,rfl,⟨ae _,ae _⟩,⟨p,d,S,i,r,rfl,hP,o,er,⟨p,dx,_,⟨t.c_zcc,a35 K t⟩,rfl,.head _,e,rfl,⟨ae _,ae _⟩,⟨p,d,S,i,r,rfl,hP,o,er,
   ⟨p,dx,d,kv3 vs,nm i,_,_,_,x,rfl,e,ed,?_,fun q hq=>k _ ((But.of (Same.upd hq)).trans But.upd) (RsAt.put o ed g er hq hx)⟩⟩⟩⟩⟩⟩⟩
  match vs,l with
  | [a,b,c],_=>exact (show 3<100 by decide)
theorem Ir {H H':Hp} {i:Nat} {e:Ed} {x:V} {a dx:Addr} {Q:VK} (k:∀ H' a,Same H H'->EdAt K t H' i e a->Q (.ref a) H') (hx:edX K H x e) (ha:H a=none) (hd:H dx=none) (S:Same (upd (upd H dx (.own a)) a (.ins (edC t e) dx [])) H'):Q (.ref a) (upd H' a (.ins (edC t e) dx (edF i x e))):=by
 have s1:Same H H':=((Same.upd hd).set ha).trans S
 have s2:Same H (upd H' a (.ins (edC t e) dx (edF i x e))):=s1.set ha
 exact k _ a s2 ⟨dx,x,Ad,Du hx s2⟩
theorem a76 {f:Addr} {fd:ai} (Z:Facts K t) (F:FunD K "_law_made" "_law_made" J7 f fd .none) (T:Tab P w K mg base 9 (ak0 K t) bl):FnOk P w K mg base CX0 10 f fd Og (Sr K t):=by
 refine F.okW0 bl3 bq7 T (bh2 K t) (fun vs H Q E h=>?_) (fun vs H Q E h=>?_)
 ·obtain⟨p,i,e,rfl,_⟩:=h;rfl
 ·obtain⟨p,i,e,rfl,⟨x,q,hx⟩,ho,k⟩:=h
  cases e with
  | write z=>
   refine⟨_,_,.inr q,rfl,⟨_,_,.inr q,rfl,_,_,.inr q,rfl,fun a dx ha hd ne=>?_⟩⟩
   exact⟨a,dx,i,.write z,x,rfl,rfl,Ad,ho,Du hx ((Same.upd hd).set ha),fun H' S=>⟨rfl,Ir k hx ha hd S⟩⟩
  | splice m n z=>
   refine⟨_,_,.inr q,rfl,⟨_,_,.inr q,rfl,⟨_,_,.inr q,rfl,_,_,.inr q,rfl,_,_,.inr q,rfl,_,_,.inr q,rfl,fun a dx ha hd ne=>?_⟩⟩⟩
   exact⟨a,dx,i,.splice m n z,x,rfl,rfl,Ad,ho,Du hx ((Same.upd hd).set ha),fun H' S=>⟨rfl,Ir k hx ha hd S⟩⟩
  | cell m n z=>
   refine⟨_,_,.inr q,rfl,⟨_,_,.inr q,rfl,⟨_,_,.inr q,rfl,⟨_,_,.inr q,rfl,_,_,.inr q,rfl,_,_,.inr q,rfl,_,_,.inr q,rfl,fun a dx ha hd ne=>?_⟩⟩⟩⟩
   exact⟨a,dx,i,.cell m n z,x,rfl,rfl,Ad,ho,Du hx ((Same.upd hd).set ha),fun H' S=>⟨rfl,Ir k hx ha hd S⟩⟩
  | addrow m r=>
   refine⟨_,_,.inr q,rfl,⟨_,_,.inr q,rfl,⟨_,_,.inr q,rfl,⟨_,_,.inr q,rfl,⟨_,_,.inr q,rfl,_,_,.inr q,rfl,_,_,.inr q,rfl,fun a dx ha hd ne=>?_⟩⟩⟩⟩⟩
   exact⟨a,dx,i,.addrow m r,x,rfl,rfl,Ad,ho,Du hx ((Same.upd hd).set ha),fun H' S=>⟨rfl,Ir k hx ha hd S⟩⟩
  | cutrow m=>
   refine⟨_,_,.inr q,rfl,⟨_,_,.inr q,rfl,⟨_,_,.inr q,rfl,⟨_,_,.inr q,rfl,⟨_,_,.inr q,rfl,_,_,.inr q,rfl,fun a dx ha hd ne=>?_⟩⟩⟩⟩⟩
   exact⟨a,dx,i,.cutrow m,x,rfl,rfl,Ad,ho,Du hx ((Same.upd hd).set ha),fun H' S=>⟨rfl,Ir k hx ha hd S⟩⟩
end
theorem af2 {l:List Nat} {n:Int} (h0:0<=n) (h:n.toNat<=l.length):d_ ⟨l.toArray⟩ none (some n)=⟨(l.take n.toNat).toArray⟩:=by
 have e:=bG (PyProof.Rows.slice_closes_to (x:=⟨l.toArray⟩) (j:=n) ⟨h0,by show n<=(l.length:Int);omega⟩)
 rw [e,Int.sub_zero]
 rfl
theorem Sj {l:List Nat} {n:Int} (h0:0<=n) (h:n.toNat<=l.length):d_ ⟨l.toArray⟩ (some n) none=⟨(l.drop n.toNat).toArray⟩:=by
 have e:=bG (PyProof.Rows.slice_closes_from (x:=⟨l.toArray⟩) (i:=n) ⟨h0,by show n<=(l.length:Int);omega⟩)
 rw [e]
 show (⟨((l.drop n.toNat).take ((l.length:Int) - n).toNat).toArray⟩:Str)=_
 rw [cx (by rw [br];omega)]
theorem Yz {o:Str} {p:Nat} (h:p<=o.length):(d_ o none (some (p:Int))).cps.toList=o.cps.toList.take p:=by
 have:=af2 (l:=o.cps.toList) (n:=(p:Int)) (by omega) (by rw [B9];omega)
 rw [show (⟨o.cps.toList.toArray⟩:Str)=o by simp] at this
 rw [this]
 simp
theorem O5 {o:Str} {p:Int} (h0:0<=p) (h:p.toNat<=o.length):(d_ o (some p) none).cps.toList=o.cps.toList.drop p.toNat:=by
 have:=Sj (l:=o.cps.toList) (n:=p) h0 (by rw [B9];omega)
 rw [show (⟨o.cps.toList.toArray⟩:Str)=o by simp] at this
 rw [this]
theorem U5 {p n:Nat} {z o:Str} (h:p+n<=o.length):(spl p n z o).cps.toList=o.cps.toList.take p++z.cps.toList++o.cps.toList.drop (p+n):=by
 unfold spl
 rw [L5,L5,Yz (by omega),O5 (by omega) (by omega)]
 rw [show ((p:Int)+(n:Int)).toNat=p+n by omega]
theorem U6 {p n:Nat} {z o:Str} (h:p+n<=o.length):(spl p n z o).length=o.length - n+z.length:=by
 rw [<- B9,U5 h,aH,aH,aZ,br,B9,B9]
 omega
theorem bm9 {p n:Nat} {z o:Str} (h:p+n<=o.length) (hz:wfS z) (ho:wfS o) (hl:(spl p n z o).length<=60):wfS (spl p n z o):=by
 refine⟨hl,?_⟩
 rw [U5 h,gQ,gQ,hz.2]
 rw [List.all_eq_true.mpr fun c hc=>List.all_eq_true.mp ho.2 c (dF hc),List.all_eq_true.mpr fun c hc=>List.all_eq_true.mp ho.2 c (dE hc)]
 rfl
theorem Nm {tb:Tb} (h:wfT tb):∃ m,1<=m/\m<=6/\wid tb=m /\ ∀ r∈tb,wfR m r:=by
 obtain⟨h1,h2,m,m1,m6,hr⟩:=h
 refine⟨m,m1,m6,?_,hr⟩
 unfold wid
 match tb,h1,hr with
 | r::rs,_,hr=>exact (hr r (.head _)).1
theorem Hl (r c:Nat) (z:Str) (t:Tb):Kx (.cell r c z) t=if t.length<=r\/wid t<=c then none else some (t.set r ((t.getD r []).set c z)):=rfl
theorem M1 (p:Nat) (r:List Str) (t:Tb):Kx (.addrow p r) t=if t.length<p\/r.length≠wid t then none else some (t.take p++r::t.drop p):=rfl
theorem M2 (p:Nat) (t:Tb):Kx (.cutrow p) t=if t.length<=p\/t.length=1 then none else some (t.take p++t.drop (p+1)):=rfl
theorem M0 (p n:Nat) (z o:Str):Z9 (.splice p n z) o=if o.length<p+n then none else some (spl p n z o):=rfl
theorem Mz (e:Ed) (o:Str):De e (.txt o)=if Bs e=true then .wrong else Qp (Z9 e o):=rfl
theorem Mx (e:Ed) (t:Tb):De e (.tab t)=if Bs e=true then Mo (Kx e t) else .wrong:=rfl
theorem al0 {e:Ed} {tb tb':Tb} (h:wfT tb) (ho:e.ok) (hn:Kx e tb=some tb') (hl:tb'.length<=6):wfT tb':=by
 obtain⟨m,m1,m6,hw,hr⟩:=Nm h
 cases e with
 | write z=>cases hn
 | splice p n z=>cases hn
 | cell r c z=>
  rw [Hl] at hn
  split at hn
  ·cases hn
  ·rename_i hc
   cases hn
   have hc1:r<tb.length:=by omega
   refine⟨by rw [cQ];exact h.1,hl,m,m1,m6,fun q hq=>?_⟩
   rcases fG hq with hq|rfl
   ·exact hr q hq
   ·have g:=hr (tb.getD r []) (by rw [ar,aq hc1];exact cg hc1)
    refine⟨by rw [cQ];exact g.1,fun y hy=>?_⟩
    rcases fG hy with hy|rfl
    ·exact g.2 y hy
    ·exact ho.2.2
 | addrow p r=>
  rw [M1] at hn
  split at hn
  ·cases hn
  ·rename_i hc
   cases hn
   refine⟨by rw [aH,aS];omega,hl,m,m1,m6,fun q hq=>?_⟩
   rcases List.mem_append.mp hq with hq|hq
   ·exact hr q (dF hq)
   ·rcases List.mem_cons.mp hq with rfl|hq
    ·exact⟨by omega,ho.2.2.2⟩
    ·exact hr q (dE hq)
 | cutrow p=>
  rw [M2] at hn
  split at hn
  ·cases hn
  ·rename_i hc
   cases hn
   have:=h.1
   refine⟨by rw [aH,aZ,br];omega,hl,m,m1,m6,fun q hq=>?_⟩
   rcases List.mem_append.mp hq with hq|hq
   ·exact hr q (dF hq)
   ·exact hr q (dE hq)
theorem V4 {e:Ed} {c c':Ct} (h:c.wf) (ho:e.ok) (hn:De e c=.good c'):c'.wf/\D4 c'=D4 c:=by
 cases c with
 | txt o=>
  rw [Mz] at hn
  split at hn
  ·cases hn
  ·unfold Qp at hn
   split at hn
   ·cases hn
   ·rename_i z' hz
    split at hn
    ·cases hn
    ·rename_i hl
     cases hn
     refine⟨?_,rfl⟩
     cases e with
     | write z=>cases hz;exact ho
     | splice p n z=>
      rw [M0] at hz
      split at hz
      ·cases hz
      ·cases hz
       exact bm9 (by omega) ho.2.2 h (by omega)
     | _=>cases hz
 | tab tb=>
  rw [Mx] at hn
  split at hn
  ·unfold Mo at hn
   split at hn
   ·cases hn
   ·rename_i z' hz
    split at hn
    ·cases hn
    ·rename_i hl
     cases hn
     exact⟨al0 h ho hz (by omega),rfl⟩
  ·cases hn
theorem Ok.ups {S:Rs} (o:Ok S) {i:Nat} {e:Ed} (ho:e.ok):Ok (upS S i (A3 S i e)):=by
 unfold A3
 split
 ·exact o
 ·rename_i r hr
  cases hn:De e r.ct with
  | good c=>
   obtain⟨w1,w2⟩:=V4 (o.rc hr).1 ho hn
   refine⟨by unfold upS;rw [List.length_modify];exact o.1,fun q hq=>?_⟩
   unfold upS at hq
   obtain⟨j,hj⟩:=List.mem_iff_getElem?.mp hq
   rw [List.getElem?_modify] at hj
   by_cases ij:i=j
   ·subst ij
    rw [hr] at hj
    simp at hj
    subst hj
    exact⟨w1,(o.rc hr).2.trans w2.symm⟩
   ·cases hs:S[j]? with
    | none=>rw [hs] at hj;cases hj
    | some r2=>
     rw [hs] at hj
     simp [ij] at hj
     subst hj
     exact o.rc hs
  | _=>exact o
section
variable {K:aa} {t:Adr} {H:Hp} {Q:VK}
theorem U0 {a:Addr} {xs:List V} {p:Nat} (q:SqT K H a xs) (hp:p<=xs.length) (k:∀ H' b,Same H H'->SqT K H' b (xs.take p)->Q (.ref b) H'):be4 K (.ref a) none (some (p:Int)) H Q:=by
 have s1:HT.sIx xs.length 0 none=0:=rfl
 have s2:HT.sIx xs.length xs.length (some (p:Int))=p:=by rw [HT.sIx_nat];omega
 refine .inr ⟨xs,q,fun hw=>?_,fun _ b hb=>k _ b (Same.upd hb) ?_⟩
 ·rw [s2] at hw
  refine k H a (Same.refl _) ?_
  rw [hw.2,List.take_length]
  exact q
 ·have:Ec xs none (some (p:Int))=xs.take p:=by unfold Ec;rw [s1,s2];rfl
  rw [this]
  exact SqT.of Ad
theorem Ho {a:Addr} {xs:List V} {i:Int} {p:Nat} (q:SqT K H a xs) (hi:i=(p:Int)) (hp:p<=xs.length) (k:∀ H' b,Same H H'->SqT K H' b (xs.drop p)->Q (.ref b) H'):be4 K (.ref a) (some i) none H Q:=by
 subst hi
 have s1:HT.sIx xs.length 0 (some (p:Int))=p:=by rw [HT.sIx_nat];omega
 have s2:HT.sIx xs.length xs.length none=xs.length:=rfl
 refine .inr ⟨xs,q,fun hw=>?_,fun _ b hb=>k _ b (Same.upd hb) ?_⟩
 ·rw [s1] at hw
  refine k H a (Same.refl _) ?_
  rw [hw.1]
  exact q
 ·have:Ec xs (some (p:Int)) none=xs.drop p:=by
   unfold Ec;rw [s1,s2]
   rw [cx (by rw [br];exact ae _)]
  rw [this]
  exact SqT.of Ad
theorem O4 {a b:Addr} {xs ys:List V} (q:SqT K H a xs) (q2:SqT K H b ys) (hl:xs.length+ys.length<=100) (k:∀ H' c,Same H H'->SqT K H' c (xs++ys)->Q (.ref c) H'):Ar K (.ref a) (.ref b) H Q:=by
 by_cases hx:xs=[]
 ·subst hx
  exact .inr (.inr ⟨a,b,ys,rfl,rfl,q,q2,k H b (Same.refl _) q2⟩)
 ·refine .inr (.inl ⟨a,b,xs,ys,rfl,rfl,q,q2,hx,aD hl (by decide),fun hy=>?_,fun hy p hp=>k _ p (Same.upd hp) (SqT.of Ad)⟩)
  subst hy
  exact k H a (Same.refl _) (by rw [eY];exact q)
theorem Cw:∀ {n:Nat} {ds:List Dt} {xs:List V},AtL K H ds xs->AtL K H (ds.take n) (xs.take n)
 | 0,_,_,_=>Aw
 | n+1,[],_,h=>by unfold AtL at h;rw [h];exact Aw
 | n+1,c::ds,xs,h=>by
  unfold AtL at h
  obtain⟨y,zs,rfl,h1,h2⟩:=h
  show AtL K H (c::ds.take n) (y::zs.take n)
  exact Al h1 (Cw h2)
theorem C8 {x:V} {tb:Tb} (h:At K H (Kl tb) x):∃ (a:Addr) (xs:List V),x=.ref a/\SqT K H a xs/\xs.length=tb.length/\AtL K H (tb.map Dz) xs /\ ∀ (i:Nat),i<tb.length -> ∃ b:Addr,xs[i]? = some (.ref b)/\SqT K H b ((tb.getD i []).map V.str):=by
 obtain⟨a,xs,e,q,g⟩:=L9 (show At K H (.tup (tb.map Dz)) x from h)
 refine⟨a,xs,e,q,by rw [g.length,aw],g,fun i hi=>?_⟩
 obtain⟨y,hy,hr'⟩:=Dr g (i:=i) (d:=Dz (tb.getD i [])) (by rw [aY,a18 hi];rfl)
 obtain⟨b,rfl,hb⟩:=Ea hr'
 exact⟨b,hy,hb⟩
theorem Kn {x:V} {z:Str} (h:At K H (ctD (.txt z)) x):x=.str z:=by unfold ctD B0 At at h;exact h.1
theorem By (Z:Facts K t) {d:Due} {i n:Nat} {ch:V} {E:XK} {C:Addr} {EE:EK} (B:Bad t H d i ch E) (hn:D3 d=some n) (hC:(O0 t)[n]? = some C) :
  mkX C (some (Dc K t)) 1 [.str (nm i),ch] H (Rj K fun a H'=>E (.ref a) none H') EE:=by
 intro a ha
 obtain⟨c,n1,n2,_⟩:=Z.bx n C hC
 exact⟨H,a,C,.str (nm i),ch,rfl,ha,rfl,c,n1,n2,fun H' dx S ne e1 e2=>⟨rfl,C,some dx,e1,c,B n C hn hC _ a (S.set ha) ⟨dx,ne,Ad,by rw [Ak ne];exact e2⟩⟩⟩
end
section
variable {P:aE} {w:bq} {K:aa} {mg:Str->Option Value} {base:Heap} {t:Adr}
theorem Ug {e:Ed} (o:Str) (h:Bs e=false):De e (.txt o)=Qp (Z9 e o):=by rw [Mz,h];rfl
theorem Pm {e:Ed} (b:Tb) (h:Bs e=true):De e (.tab b)=Mo (Kx e b):=by rw [Mx,h];rfl
theorem Pn {z o:Str} (h:wfS z):De (.write z) (.txt o)=.good (.txt z):=by
 rw [Ug (e:=.write z) o rfl]
 show (if 60<z.length then Due.long else .good (.txt z))=_
 rw [if_neg (by have:=h.1;omega)]
theorem bw4 {f:Addr} {fd:ai} (Z:Facts K t) (F:FunD K "need_text" "Write.need_text" R5 f fd .none) (T:Tab P w K mg base 0 (Az K t) bl):FnOk P w K mg base CX0 1 f fd Yd (av4 K t):=by
 refine F.okW0 b40 cb6 T (b14 K t) (fun vs H Q E h=>?_) (fun vs H Q E h=>?_)
 ·obtain⟨a,i,e,c,x,ch,rfl,_⟩:=h;rfl
 ·obtain⟨a,i,e,c,x,ch,rfl,hk,hE,ho,hx,hc,ht,k⟩:=h
  cases e <;> first|cases hk;done|skip
  cases c with
  | tab tb=>cases ht
  | txt o=>exact k.1 (by rw [Pn ho];rfl) H (Same.refl _)
theorem bw0 {f:Addr} {fd:ai} (Z:Facts K t) (F:FunD K "need_text" "Splice.need_text" Rw f fd .none) (T:Tab P w K mg base 2 (Di K t) bl):FnOk P w K mg base (CXE P w) 3 f fd X7 (au8 K t):=by
 refine F.okWX b34 cb0 T (b06 K t) (fun vs H Q E h=>?_) (fun vs H Q E h=>?_)
 ·obtain⟨a,i,e,c,x,ch,rfl,_⟩:=h;rfl
 ·obtain⟨a,i,e,c,x,ch,rfl,hk,⟨dx,y,ea,hy⟩,ho,hx,hc,ht,k⟩:=h
  cases e <;> first|cases hk;done|skip
  rename_i p n z
  cases c with
  | tab tb=>cases ht
  | txt o=>
   have hx:=Kn hx
   subst hx
   have Z1:=Z.cl (.splice p n z)
   have Z2:=fun f h=>Z.fld (.splice p n z) (f:=f) h
   have lo:o.length<=sizeLine:=aD hc.1 (by decide)
   have lz:z.length<=sizeLine:=aD ho.2.2.1 (by decide)
   rw [Ug (e:=.splice p n z) o rfl,M0] at k
   refine a9 ⟨_,_,_,_,ea,Z1,(Z2 _ (by decide)),rfl,(a9 ⟨_,_,_,_,ea,Z1,(Z2 _ (by decide)),rfl,⟨lo,B7 (fun g=>?_) (fun g=>?_)⟩⟩)⟩
   ·have g:(o.length:Int)<(p:Int)+(n:Int):=of_decide_eq_true g
    rw [if_pos (by omega)] at k
    exact a9 ⟨_,_,_,_,ea,Z1,(Z2 _ (by decide)),rfl,⟨(show 2<=1000 by decide),By Z k.2 rfl rfl⟩⟩
   ·have g:¬ ((o.length:Int)<(p:Int)+(n:Int)):=fun h=>g (decide_eq_true h)
    have sl:=U6 (p:=p) (n:=n) (z:=z) (o:=o) (by omega)
    rw [if_neg (by omega)] at k
    refine⟨lo,a9 ⟨_,_,_,_,ea,Z1,(Z2 _ (by decide)),rfl,(a9 ⟨_,_,_,_,ea,Z1,(Z2 _ (by decide)),rfl,⟨lz,B7 (fun g2=>?_) (fun g2=>?_)⟩⟩)⟩⟩
    ·have g2:(60:Int)<(o.length:Int) - (n:Int)+(z.length:Int):=of_decide_eq_true g2
     have e1:Qp (some (spl p n z o))=.long:=if_pos (by omega)
     rw [e1] at k
     exact a9 ⟨_,_,_,_,ea,Z1,(Z2 _ (by decide)),rfl,⟨(show 2<=1000 by decide),By Z k.2 rfl rfl⟩⟩
    ·have g2:¬ ((60:Int)<(o.length:Int) - (n:Int)+(z.length:Int)):=fun h=>g2 (decide_eq_true h)
     have e1:Qp (some (spl p n z o))=.good (.txt (spl p n z o)):=if_neg (by omega)
     rw [e1] at k
     exact k.1 rfl H (Same.refl _)
theorem bw1 {f:Addr} {fd:ai} (Z:Facts K t) (F:FunD K "need_table" "Cell.need_table" Ry f fd .none) (T:Tab P w K mg base 2 (Di K t) bl):FnOk P w K mg base (CXE P w) 3 f fd X9 (av0 K t):=by
 refine F.okWX b36 cb2 T (b08 K t) (fun vs H Q E h=>?_) (fun vs H Q E h=>?_)
 ·obtain⟨a,i,e,c,x,ch,rfl,_⟩:=h;rfl
 ·obtain⟨a,i,e,c,x,ch,rfl,hk,⟨dx,y,ea,hy⟩,ho,hx,hc,ht,k⟩:=h
  cases e <;> first|cases hk;done|skip
  rename_i p n z
  cases c with
  | txt o=>cases ht
  | tab tb=>
   have Z1:=Z.cl (.cell p n z)
   have Z2:=fun f h=>Z.fld (.cell p n z) (f:=f) h
   obtain⟨b,xs,rfl,q,hl,g,hg⟩:=C8 hx
   obtain⟨b0,q0,q0'⟩:=hg 0 hc.1
   rw [Pm (e:=.cell p n z) tb rfl,Hl] at k
   have bad:tb.length<=p\/wid tb<=n->Bad t H .far i ch E:=fun h=>by rw [if_pos h] at k;exact k.2
   refine a9 ⟨_,_,_,_,ea,Z1,(Z2 _ (by decide)),rfl,(.inl ⟨xs,.inr q,?_⟩)⟩
   have w0:((tb.getD 0 []).map V.str).length=wid tb:=by rw [aw];unfold wid;cases tb <;> rfl
   refine B7 (fun g=>?_) (fun g=>?_)
   ·have g:(xs.length:Int)<=(p:Int):=of_decide_eq_true g
    exact a9 ⟨_,_,_,_,ea,Z1,(Z2 _ (by decide)),rfl,⟨(show 2<=1000 by decide),By Z (bad (.inl (by omega))) rfl rfl⟩⟩
   ·have g:¬ (xs.length:Int)<=(p:Int):=fun h=>g (decide_eq_true h)
    refine a9 ⟨_,_,_,_,ea,Z1,(Z2 _ (by decide)),rfl,⟨xs,_,.inr q,A4 q0,.inl ⟨_,.inr q0',?_⟩⟩⟩
    refine B7 (fun g2=>?_) (fun g2=>?_)
    ·have g2:((((tb.getD 0 []).map V.str).length:Nat):Int)<=(n:Int):=of_decide_eq_true g2
     rw [w0] at g2
     exact a9 ⟨_,_,_,_,ea,Z1,(Z2 _ (by decide)),rfl,⟨(show 2<=1000 by decide),By Z (bad (.inr (by omega))) rfl rfl⟩⟩
    ·have g2:¬ ((((tb.getD 0 []).map V.str).length:Nat):Int)<=(n:Int):=fun h=>g2 (decide_eq_true h)
     rw [w0] at g2
     rw [if_neg (by omega)] at k
     have e1:∀ r,Mo (some (tb.set p r))=.good (.tab (tb.set p r)):=fun r=>if_neg (by have:=hc.2.1;rw [cQ];omega)
     rw [e1] at k
     exact k.1 rfl H (Same.refl _)
theorem Va (tb:Tb):((tb.getD 0 []).map V.str).length=wid tb:=by rw [aw];unfold wid;cases tb <;> rfl
theorem bv5 {f:Addr} {fd:ai} (Z:Facts K t) (F:FunD K "need_table" "AddRow.need_table" Rq f fd .none) (T:Tab P w K mg base 2 (Di K t) bl):FnOk P w K mg base (CXE P w) 3 f fd X2 (au3 K t):=by
 refine F.okWX b29 ca5 T (b01 K t) (fun vs H Q E h=>?_) (fun vs H Q E h=>?_)
 ·obtain⟨a,i,e,c,x,ch,rfl,_⟩:=h;rfl
 ·obtain⟨a,i,e,c,x,ch,rfl,hk,⟨dx,y,ea,hy⟩,ho,hx,hc,ht,k⟩:=h
  cases e <;> first|cases hk;done|skip
  rename_i p r
  cases c with
  | txt o=>cases ht
  | tab tb=>
   have Z1:=Z.cl (.addrow p r)
   have Z2:=fun f h=>Z.fld (.addrow p r) (f:=f) h
   obtain⟨b,xs,rfl,q,hl,g,hg⟩:=C8 hx
   obtain⟨b0,q0,q0'⟩:=hg 0 hc.1
   obtain⟨b1,rfl,q1⟩:=Ea hy
   rw [Pm (e:=.addrow p r) tb rfl,M1] at k
   have bad:tb.length<p\/r.length≠wid tb->Bad t H .far i ch E:=fun h=>by rw [if_pos h] at k;exact k.2
   refine a9 ⟨_,_,_,_,ea,Z1,(Z2 _ (by decide)),rfl,(.inl ⟨xs,.inr q,?_⟩)⟩
   have w1:(r.map V.str).length=r.length:=aw ..
   refine B7 (fun g=>?_) (fun g=>?_)
   ·have g:(xs.length:Int)<(p:Int):=of_decide_eq_true g
    exact a9 ⟨_,_,_,_,ea,Z1,(Z2 _ (by decide)),rfl,⟨(show 2<=1000 by decide),By Z (bad (.inl (by omega))) rfl rfl⟩⟩
   ·have g:¬ (xs.length:Int)<(p:Int):=fun h=>g (decide_eq_true h)
    refine a9 ⟨_,_,_,_,ea,Z1,(Z2 _ (by decide)),rfl,(.inl ⟨_,.inr q1,⟨xs,_,.inr q,A4 q0,.inl ⟨_,.inr q0',?_⟩⟩⟩)⟩
    refine B7 (c:=(!decide ((((r.map V.str).length:Nat):Int)=((((tb.getD 0 []).map V.str).length:Nat):Int)))=true) (fun g2=>?_) (fun g2=>?_)
    ·rw [Va,w1] at g2
     have g2:r.length≠wid tb:=fun h=>by rw [h] at g2;simp at g2
     exact a9 ⟨_,_,_,_,ea,Z1,(Z2 _ (by decide)),rfl,⟨(show 2<=1000 by decide),By Z (bad (.inr g2)) rfl rfl⟩⟩
    ·rw [Va,w1] at g2
     have g2:r.length=wid tb:=by
      have:((r.length:Nat):Int)=((wid tb:Nat):Int):=by simpa using g2
      omega
     rw [if_neg (by omega)] at k
     have l2:(tb.take p++r::tb.drop p).length=tb.length+1:=by rw [aH,aS,aZ,br];omega
     refine .inl ⟨xs,.inr q,B7 (fun g3=>?_) (fun g3=>?_)⟩
     ·have g3:(6:Int)<=(xs.length:Int):=of_decide_eq_true g3
      have e1:Mo (some (tb.take p++r::tb.drop p))=.long:=if_pos (by omega)
      rw [e1] at k
      exact a9 ⟨_,_,_,_,ea,Z1,(Z2 _ (by decide)),rfl,⟨(show 2<=1000 by decide),By Z k.2 rfl rfl⟩⟩
     ·have g3:¬ (6:Int)<=(xs.length:Int):=fun h=>g3 (decide_eq_true h)
      have e1:Mo (some (tb.take p++r::tb.drop p))=.good (.tab (tb.take p++r::tb.drop p)):=if_neg (by omega)
      rw [e1] at k
      exact k.1 rfl H (Same.refl _)
theorem bv6 {f:Addr} {fd:ai} (Z:Facts K t) (F:FunD K "need_table" "CutRow.need_table" Rr f fd .none) (T:Tab P w K mg base 2 (Di K t) bl):FnOk P w K mg base (CXE P w) 3 f fd X3 (au4 K t):=by
 refine F.okWX b30 ca6 T (b02 K t) (fun vs H Q E h=>?_) (fun vs H Q E h=>?_)
 ·obtain⟨a,i,e,c,x,ch,rfl,_⟩:=h;rfl
 ·obtain⟨a,i,e,c,x,ch,rfl,hk,⟨dx,y,ea,hy⟩,ho,hx,hc,ht,k⟩:=h
  cases e <;> first|cases hk;done|skip
  rename_i p
  cases c with
  | txt o=>cases ht
  | tab tb=>
   have Z1:=Z.cl (.cutrow p)
   have Z2:=fun f h=>Z.fld (.cutrow p) (f:=f) h
   obtain⟨b,xs,rfl,q,hl,g,hg⟩:=C8 hx
   rw [Pm (e:=.cutrow p) tb rfl,M2] at k
   have bad:tb.length<=p\/tb.length=1->Bad t H .far i ch E:=fun h=>by rw [if_pos h] at k;exact k.2
   refine a9 ⟨_,_,_,_,ea,Z1,(Z2 _ (by decide)),rfl,(.inl ⟨xs,.inr q,?_⟩)⟩
   refine B7 (fun g=>?_) (fun g=>?_)
   ·have g:(xs.length:Int)<=(p:Int):=of_decide_eq_true g
    exact a9 ⟨_,_,_,_,ea,Z1,(Z2 _ (by decide)),rfl,⟨(show 2<=1000 by decide),By Z (bad (.inl (by omega))) rfl rfl⟩⟩
   ·have g:¬ (xs.length:Int)<=(p:Int):=fun h=>g (decide_eq_true h)
    refine .inl ⟨xs,.inr q,B7 (fun g2=>?_) (fun g2=>?_)⟩
    ·have g2:(xs.length:Int)=1:=of_decide_eq_true g2
     exact a9 ⟨_,_,_,_,ea,Z1,(Z2 _ (by decide)),rfl,⟨(show 2<=1000 by decide),By Z (bad (.inr (by omega))) rfl rfl⟩⟩
    ·have g2:¬ (xs.length:Int)=1:=fun h=>g2 (decide_eq_true h)
     rw [if_neg (by omega)] at k
     have e1:Mo (some (tb.take p++tb.drop (p+1)))=.good (.tab (tb.take p++tb.drop (p+1))):=if_neg (by have:=hc.2.1;rw [aH,aZ,br];omega)
     rw [e1] at k
     exact k.1 rfl H (Same.refl _)
theorem Mn {e:Ed} {tb:Tb} {c:Ct} (ht:Bs e=true) (h:De e (.tab tb)=.good c):∃ tb',Kx e tb=some tb'/\c=.tab tb':=by
 rw [Pm tb ht] at h
 unfold Mo at h
 split at h
 ·cases h
 ·rename_i t' e1
  split at h
  ·cases h
  ·cases h;exact⟨t',e1,rfl⟩
theorem Zb {e:Ed} {z:Str} {c:Ct} (ht:Bs e=true) (h:De e (.txt z)=.good c):False:=by
 rw [Mz,ht] at h
 cases h
theorem aq5 {e:Ed} {z:Tb} {c:Ct} (ht:Bs e=false) (h:De e (.tab z)=.good c):False:=by
 rw [Mx,ht] at h
 cases h
theorem Tt {e:Ed} {o:Str} {c:Ct} (ht:Bs e=false) (h:De e (.txt o)=.good c):∃ z,Z9 e o=some z/\c=.txt z:=by
 rw [Ug o ht] at h
 unfold Qp at h
 split at h
 ·cases h
 ·rename_i t' e1
  split at h
  ·cases h
  ·cases h;exact⟨t',e1,rfl⟩
theorem bw7 {f:Addr} {fd:ai} (Z:Facts K t) (F:FunD K "new_text" "Write.new_text" R9 f fd .none) (T:Tab P w K mg base 0 (Az K t) bl):FnOk P w K mg base CX0 1 f fd Yi (av8 K t):=by
 refine F.okW0 b45 cc1 T (b19 K t) (fun vs H Q E h=>?_) (fun vs H Q E h=>?_)
 ·obtain⟨a,i,e,c,c',x,rfl,_⟩:=h;rfl
 ·obtain⟨a,i,e,c,c',x,rfl,hk,⟨dx,y,ea,hy⟩,ho,hx,hc,hn,k⟩:=h
  cases e <;> first|cases hk;done|skip
  rename_i z
  cases c with
  | tab tb=>exact (aq5 rfl hn).elim
  | txt o=>
   obtain⟨_,e1,rfl⟩:=Tt rfl hn
   cases e1
   exact a9 ⟨_,_,_,_,ea,(Z.cl (.write z)),(Z.fld (.write z) (by decide)),rfl,(k H _ (Same.refl _) Bf)⟩
theorem bw3 {f:Addr} {fd:ai} (Z:Facts K t) (F:FunD K "new_text" "Splice.new_text" R0 f fd .none) (T:Tab P w K mg base 0 (Az K t) bl):FnOk P w K mg base CX0 1 f fd Yb (av2 K t):=by
 refine F.okW0 b38 cb4 T (b12 K t) (fun vs H Q E h=>?_) (fun vs H Q E h=>?_)
 ·obtain⟨a,i,e,c,c',x,rfl,_⟩:=h;rfl
 ·obtain⟨a,i,e,c,c',x,rfl,hk,⟨dx,y,ea,hy⟩,ho,hx,hc,hn,k⟩:=h
  cases e <;> first|cases hk;done|skip
  rename_i p n z
  cases c with
  | tab tb=>exact (aq5 rfl hn).elim
  | txt o=>
   obtain⟨z',e1,rfl⟩:=Tt rfl hn
   rw [M0] at e1
   split at e1
   ·cases e1
   ·rename_i hlt
    cases e1
    have hx:=Kn hx
    subst hx
    have Z1:=Z.cl (.splice p n z)
    have Z2:=fun f h=>Z.fld (.splice p n z) (f:=f) h
    have ho1:o.length<=60:=hc.1
    have lo:o.length<=sizeLine:=aD ho1 (by decide)
    have lz:z.length<=60:=ho.2.2.1
    have l1:=Txt.slice_le o none (some (p:Int))
    have l2:=Txt.slice_le o (some ((p:Int)+(n:Int))) none
    have l200:200<=sizeLine:=by decide
    refine a9 ⟨_,_,_,_,ea,Z1,(Z2 _ (by decide)),rfl,⟨lo,a9 ⟨_,_,_,_,ea,Z1,(Z2 _ (by decide)),rfl,⟨by omega,a9 ⟨_,_,_,_,ea,Z1,(Z2 _ (by decide)),rfl,(a9 ⟨_,_,_,_,ea,Z1,(Z2 _ (by decide)),rfl,⟨lo,?_,k H _ (Same.refl _) Bf⟩⟩)⟩⟩⟩⟩⟩
    rw [Hf]
    omega
theorem mid {H H0:Hp} {b:Addr} {xs:List V} {y:V} {Q:VK} (S0:Same H0 H) (q:SqT K H b xs) (hl:xs.length<=50) (k:∀ H' c,Same H0 H'->Same H H'->SqT K H' c (xs++[y])->Q (.ref c) H'):∀ p,H p=none->Ar K (.ref b) (.ref p) (upd H p (.tup [y])) Q:=fun p hp=>
 O4 ((Same.upd hp).seqT q) (SqT.of Ad) (by show xs.length+1<=100;omega) fun H3 c S3 q3=>k H3 c ((S0.trans (Same.upd hp)).trans S3) ((Same.upd hp).trans S3) q3
theorem Nc {α:Type} {l:List α} {i:Nat} (h:i<l.length) (a:α):l.take i++[a]++l.drop (i+1)=l.set i a:=by
 rw [List.set_eq_take_append_cons_drop,if_pos h]
 simp
theorem bw5 {f:Addr} {fd:ai} (Z:Facts K t) (F:FunD K "new_table" "Cell.new_table" R6 f fd .none) (T:Tab P w K mg base 0 (Az K t) bl):FnOk P w K mg base CX0 1 f fd Ye (av5 K t):=by
 refine F.okW0 b41 cb7 T (b15 K t) (fun vs H Q E h=>?_) (fun vs H Q E h=>?_)
 ·obtain⟨a,i,e,c,c',x,rfl,_⟩:=h;rfl
 ·obtain⟨a,i,e,c,c',x,rfl,hk,⟨dx,y,ea,hy⟩,ho,hx,hc,hn,k⟩:=h
  cases e <;> first|cases hk;done|skip
  rename_i p n z
  cases c with
  | txt tb=>exact (Zb rfl hn).elim
  | tab tb=>
   obtain⟨tb',e1,rfl⟩:=Mn rfl hn
   rw [Hl] at e1
   split at e1
   ·cases e1
   ·rename_i hlt
    cases e1
    have Z1:=Z.cl (.cell p n z)
    have Z2:=fun f h=>Z.fld (.cell p n z) (f:=f) h
    obtain⟨m,m1,m6,hw,hr⟩:=Nm hc
    obtain⟨b,xs,rfl,q,hl,g,hg⟩:=C8 hx
    have h6:xs.length<=6:=by rw [hl];exact hc.2.1
    obtain⟨b0,q0,q0'⟩:=hg p (by omega)
    have lr:(tb.getD p []).length=m:=(hr _ (by rw [ar,aq (show p<tb.length by omega)];exact cg _)).1
    have lv:((tb.getD p []).map V.str).length=m:=by rw [aw,lr]
    refine a9 ⟨_,_,_,_,ea,Z1,(Z2 _ (by decide)),rfl,⟨xs,.ref b0,.inr q,A4 q0,?_⟩⟩
    refine a9 ⟨_,_,_,_,ea,Z1,(Z2 _ (by decide)),rfl,(U0 q0' (by omega) fun H1 b1 S1 q1=>?_)⟩
    refine a9 ⟨_,_,_,_,(S1 _ _ ea),Z1,(Z2 _ (by decide)),rfl,⟨(show 1<=sizeLine by decide),mid S1 q1 (by rw [aZ];omega) fun H3 b3 S3 _ q3=>?_⟩⟩
    refine a9 ⟨_,_,_,_,(S3 _ _ ea),Z1,(Z2 _ (by decide)),rfl,?_⟩
    dsimp only [dC,Ar,Bi,nI]
    refine Ho (p:=n+1) (i:=(n:Int)+1) (S3.seqT q0') (by omega) (by omega) fun H4 b4 S4 q4=>?_
    refine O4 (S4.seqT q3) q4 (by rw [aH,aZ,br];show _+1+_<=100;omega) fun H5 b5 S5 q5=>?_
    rw [Nc (by omega)] at q5
    have S6:=(S3.trans S4).trans S5
    have row:At K H5 (Dz ((tb.getD p []).set n z)) (.ref b5):=Fq (by rw [List.map_set];exact q5)
    refine a9 ⟨_,_,_,_,(S6 _ _ ea),Z1,(Z2 _ (by decide)),rfl,(U0 (S6.seqT q) (by omega) fun H7 b7 S7 q7=>?_)⟩
    refine⟨(show 1<=sizeLine by decide),mid S7 q7 (by rw [aZ];omega) fun H8 b8 S8 _ q8=>?_⟩
    have S9:=S6.trans S8
    refine a9 ⟨_,_,_,_,(S9 _ _ ea),Z1,(Z2 _ (by decide)),rfl,?_⟩
    dsimp only [dC,Ar,Bi,nI]
    refine Ho (p:=p+1) (i:=(p:Int)+1) (S9.seqT q) (by omega) (by omega) fun H10 b10 S10 q10=>?_
    refine O4 (S10.seqT q8) q10 (by rw [aH,aZ,br];show _+1+_<=100;omega) fun H11 b11 S11 q11=>?_
    have S12:=(S9.trans S10).trans S11
    refine k H11 _ S12 (Ck q11 ?_)
    have g2:=Bz S12 g
    have r2:=D1 ((S8.trans S10).trans S11) row
    have:=Bp (Bp (Cw (n:=p) g2) (Al r2 Aw)) (Cv (n:=p+1) g2)
    rw [<- d7,<- d6,<- fA (f:=Dz),<- bn,<- bn,Nc (by omega)] at this
    exact this
theorem bv7 {f:Addr} {fd:ai} (Z:Facts K t) (F:FunD K "new_table" "AddRow.new_table" Rt f fd .none) (T:Tab P w K mg base 0 (Az K t) bl):FnOk P w K mg base CX0 1 f fd X4 (au5 K t):=by
 refine F.okW0 b31 ca7 T (b03 K t) (fun vs H Q E h=>?_) (fun vs H Q E h=>?_)
 ·obtain⟨a,i,e,c,c',x,rfl,_⟩:=h;rfl
 ·obtain⟨a,i,e,c,c',x,rfl,hk,⟨dx,y,ea,hy⟩,ho,hx,hc,hn,k⟩:=h
  cases e <;> first|cases hk;done|skip
  rename_i p r
  cases c with
  | txt tb=>exact (Zb rfl hn).elim
  | tab tb=>
   obtain⟨tb',e1,rfl⟩:=Mn rfl hn
   rw [M1] at e1
   split at e1
   ·cases e1
   ·rename_i hlt
    cases e1
    have Z1:=Z.cl (.addrow p r)
    have Z2:=fun f h=>Z.fld (.addrow p r) (f:=f) h
    obtain⟨b,xs,rfl,q,hl,g,hg⟩:=C8 hx
    have h6:xs.length<=6:=by rw [hl];exact hc.2.1
    refine a9 ⟨_,_,_,_,ea,Z1,(Z2 _ (by decide)),rfl,(U0 q (by omega) fun H1 b1 S1 q1=>?_)⟩
    refine a9 ⟨_,_,_,_,(S1 _ _ ea),Z1,(Z2 _ (by decide)),rfl,⟨(show 1<=sizeLine by decide),mid S1 q1 (by rw [aZ];omega) fun H3 b3 S3 _ q3=>?_⟩⟩
    refine a9 ⟨_,_,_,_,(S3 _ _ ea),Z1,(Z2 _ (by decide)),rfl,?_⟩
    dsimp only [Bi,nI]
    refine Ho (p:=p) (S3.seqT q) rfl (by omega) fun H4 b4 S4 q4=>?_
    refine O4 (S4.seqT q3) q4 (by rw [aH,aZ,br];show _+1+_<=100;omega) fun H5 b5 S5 q5=>?_
    have S6:=(S3.trans S4).trans S5
    refine k H5 _ S6 (Ck q5 ?_)
    have g2:=Bz S6 g
    have r2:At K H5 (Dz r) y:=D1 S6 hy
    have:=Bp (Bp (Cw (n:=p) g2) (Al r2 Aw)) (Cv (n:=p) g2)
    rw [<- d7,<- d6,<- fA (f:=Dz),<- bn,<- bn,List.append_assoc] at this
    exact this
theorem bv8 {f:Addr} {fd:ai} (Z:Facts K t) (F:FunD K "new_table" "CutRow.new_table" Ru f fd .none) (T:Tab P w K mg base 0 (Az K t) bl):FnOk P w K mg base CX0 1 f fd X5 (au6 K t):=by
 refine F.okW0 b32 ca8 T (b04 K t) (fun vs H Q E h=>?_) (fun vs H Q E h=>?_)
 ·obtain⟨a,i,e,c,c',x,rfl,_⟩:=h;rfl
 ·obtain⟨a,i,e,c,c',x,rfl,hk,⟨dx,y,ea,hy⟩,ho,hx,hc,hn,k⟩:=h
  cases e <;> first|cases hk;done|skip
  rename_i p
  cases c with
  | txt tb=>exact (Zb rfl hn).elim
  | tab tb=>
   obtain⟨tb',e1,rfl⟩:=Mn rfl hn
   rw [M2] at e1
   split at e1
   ·cases e1
   ·rename_i hlt
    cases e1
    have Z1:=Z.cl (.cutrow p)
    have Z2:=fun f h=>Z.fld (.cutrow p) (f:=f) h
    obtain⟨b,xs,rfl,q,hl,g,hg⟩:=C8 hx
    have h6:xs.length<=6:=by rw [hl];exact hc.2.1
    refine a9 ⟨_,_,_,_,ea,Z1,(Z2 _ (by decide)),rfl,(U0 q (by omega) fun H1 b1 S1 q1=>?_)⟩
    refine a9 ⟨_,_,_,_,(S1 _ _ ea),Z1,(Z2 _ (by decide)),rfl,?_⟩
    dsimp only [dC,Ar,Bi,nI]
    refine Ho (p:=p+1) (i:=(p:Int)+1) (S1.seqT q) (by omega) (by omega) fun H4 b4 S4 q4=>?_
    refine O4 (S4.seqT q1) q4 (by rw [aZ,br];omega) fun H5 b5 S5 q5=>?_
    have S6:=(S1.trans S4).trans S5
    refine k H5 _ S6 (Ck q5 ?_)
    have g2:=Bz S6 g
    have:=Bp (Cw (n:=p) g2) (Cv (n:=p+1) g2)
    rw [<- d7,<- d6,<- bn] at this
    exact this
theorem NeedO.call {H:Hp} {d:Due} {i:Nat} {ch:V} {Q:VK} {E:XK} (k:NeedO t H d i ch Q E):NeedO t H d i ch (fun _ H'=>Q .non H') (fun v _ H'=>∃ a,v=.ref a/\E (.ref a) none H'):=
 ⟨k.1,fun n C h1 h2 H' a S f=>⟨a,rfl,k.2 n C h1 h2 H' a S f⟩⟩
theorem Bg (i:Nat) (x:V) (e:Ed):(edF i x e).lookup ("part" : Str)=some (V.str (nm i)):=rfl
theorem as9 {e:Ed} {c:Ct} (h:Bs e=false) (g:D4 c=true):De e c=.wrong:=by
 cases c with
 | txt o=>cases g
 | tab tb=>rw [Mx,h];rfl
theorem at0 {e:Ed} {c:Ct} (h:Bs e=true) (g:D4 c=false):De e c=.wrong:=by
 cases c with
 | tab o=>cases g
 | txt tb=>rw [Mz,h];rfl
theorem at1 {f:Addr} {fd:ai} (Z:Facts K t) (F:FunD K "need_rest" "TextEdit.need_rest" Rp f fd .none) (T:Tab P w K mg base 4 (Pf K t) bl):FnOk P w K mg base (CXE P w) 5 f fd X1 (au2 K t):=by
 refine F.okWX b28 ca4 T (b00 K t) (fun vs H Q E h=>?_) (fun vs H Q E h=>?_)
 ·obtain⟨a,p,d,S,i,e,r,ch,rfl,_⟩:=h;rfl
 ·obtain⟨a,p,d,S,i,e,r,ch,rfl,ht,hE,ho,hP,o,hr,k⟩:=h
  obtain⟨dx,x,ea,hx⟩:=id hE
  obtain⟨⟨dp,ep⟩,_⟩:=id hP
  have hk:decide (r.kd = "table")=D4 r.ct:=(o.rc hr).2
  refine⟨p,dp,_,⟨t.c_zcc,Zv K t⟩,rfl,.head _,ep,rfl,⟨ae _,ae _⟩,a9 ⟨_,_,_,_,ea,(Z.cl e),(Z.fld e (by decide)),(Bg i x e),⟨p,d,S,i,r,rfl,hP,o,hr,?_⟩⟩⟩
  refine B7 (c:=decide (r.kd = "table")=true) (fun g=>?_) (fun g=>?_)
  ·rw [as9 ht (hk.symm.trans g)] at k
   exact a9 ⟨_,_,_,_,ea,(Z.cl e),(Z.fld e (by decide)),(Bg i x e),⟨(show 2<=1000 by decide),By Z k.2 rfl rfl⟩⟩
  ·have g:D4 r.ct=false:=by rw [hk] at g;simpa using g
   have ht2:D4 r.ct=Bs e:=g.trans ht.symm
   have k2:=k.call
   cases e with
   | write z=>exact⟨a,dx,_,⟨t.c_zcd,a30 K t⟩,rfl,.head _,ea,rfl,⟨ae _,ae _⟩,p,dp,_,⟨t.c_zcc,Hc K t⟩,rfl,.head _,ep,rfl,⟨ae _,ae _⟩,a9 ⟨_,_,_,_,ea,(Z.cl (.write z)),(Z.fld (.write z) (by decide)),(Bg i x (.write z)),⟨p,d,S,i,r,rfl,hP,o,hr,fun y hy=>⟨a,i,.write z,r.ct,y,ch,rfl,rfl,hE,ho,hy,(o.rc hr).1,ht2,k2⟩⟩⟩⟩
   | splice m n z=>exact⟨a,dx,_,⟨t.c_zcb,a26 K t⟩,rfl,.tail _ (.head _),ea,rfl,⟨ae _,ae _⟩,p,dp,_,⟨t.c_zcc,Hc K t⟩,rfl,.head _,ep,rfl,⟨ae _,ae _⟩,a9 ⟨_,_,_,_,ea,(Z.cl (.splice m n z)),(Z.fld (.splice m n z) (by decide)),(Bg i x (.splice m n z)),⟨p,d,S,i,r,rfl,hP,o,hr,fun y hy=>⟨a,i,.splice m n z,r.ct,y,ch,rfl,rfl,hE,ho,hy,(o.rc hr).1,ht2,k2⟩⟩⟩⟩
   | _=>cases ht
theorem aa7 {f:Addr} {fd:ai} (Z:Facts K t) (F:FunD K "need_rest" "TableEdit.need_rest" Ro f fd .none) (T:Tab P w K mg base 4 (Pf K t) bl):FnOk P w K mg base (CXE P w) 5 f fd X0 (au1 K t):=by
 refine F.okWX b27 ca3 T (bz9 K t) (fun vs H Q E h=>?_) (fun vs H Q E h=>?_)
 ·obtain⟨a,p,d,S,i,e,r,ch,rfl,_⟩:=h;rfl
 ·obtain⟨a,p,d,S,i,e,r,ch,rfl,ht,hE,ho,hP,o,hr,k⟩:=h
  obtain⟨dx,x,ea,hx⟩:=id hE
  obtain⟨⟨dp,ep⟩,_⟩:=id hP
  have hk:decide (r.kd = "table")=D4 r.ct:=(o.rc hr).2
  refine⟨p,dp,_,⟨t.c_zcc,Zv K t⟩,rfl,.head _,ep,rfl,⟨ae _,ae _⟩,a9 ⟨_,_,_,_,ea,(Z.cl e),(Z.fld e (by decide)),(Bg i x e),⟨p,d,S,i,r,rfl,hP,o,hr,?_⟩⟩⟩
  refine B7 (c:=(!decide (r.kd = "table"))=true) (fun g=>?_) (fun g=>?_)
  ·rw [hk] at g
   rw [at0 ht (by simpa using g)] at k
   exact a9 ⟨_,_,_,_,ea,(Z.cl e),(Z.fld e (by decide)),(Bg i x e),⟨(show 2<=1000 by decide),By Z k.2 rfl rfl⟩⟩
  ·have g:D4 r.ct=true:=by rw [hk] at g;simpa using g
   have ht2:D4 r.ct=Bs e:=g.trans ht.symm
   have k2:=k.call
   cases e with
   | cell m n z=>exact⟨a,dx,_,⟨t.c_zce,a27 K t⟩,rfl,.head _,ea,rfl,⟨ae _,ae _⟩,p,dp,_,⟨t.c_zcc,Hc K t⟩,rfl,.head _,ep,rfl,⟨ae _,ae _⟩,a9 ⟨_,_,_,_,ea,(Z.cl (.cell m n z)),(Z.fld (.cell m n z) (by decide)),(Bg i x (.cell m n z)),⟨p,d,S,i,r,rfl,hP,o,hr,fun y hy=>⟨a,i,.cell m n z,r.ct,y,ch,rfl,rfl,hE,ho,hy,(o.rc hr).1,ht2,k2⟩⟩⟩⟩
   | addrow m n=>exact⟨a,dx,_,⟨t.c_zby,a22 K t⟩,rfl,.tail _ (.head _),ea,rfl,⟨ae _,ae _⟩,p,dp,_,⟨t.c_zcc,Hc K t⟩,rfl,.head _,ep,rfl,⟨ae _,ae _⟩,a9 ⟨_,_,_,_,ea,(Z.cl (.addrow m n)),(Z.fld (.addrow m n) (by decide)),(Bg i x (.addrow m n)),⟨p,d,S,i,r,rfl,hP,o,hr,fun y hy=>⟨a,i,.addrow m n,r.ct,y,ch,rfl,rfl,hE,ho,hy,(o.rc hr).1,ht2,k2⟩⟩⟩⟩
   | cutrow m=>exact⟨a,dx,_,⟨t.c_zbz,a23 K t⟩,rfl,.tail _ (.tail _ (.head _)),ea,rfl,⟨ae _,ae _⟩,p,dp,_,⟨t.c_zcc,Hc K t⟩,rfl,.head _,ep,rfl,⟨ae _,ae _⟩,a9 ⟨_,_,_,_,ea,(Z.cl (.cutrow m)),(Z.fld (.cutrow m) (by decide)),(Bg i x (.cutrow m)),⟨p,d,S,i,r,rfl,hP,o,hr,fun y hy=>⟨a,i,.cutrow m,r.ct,y,ch,rfl,rfl,hE,ho,hy,(o.rc hr).1,ht2,k2⟩⟩⟩⟩
   | _=>cases ht
theorem Re {H:Hp} {i n:Nat} {e:Ed} {a:Addr} {m:Str} {iT iB:FI} {vs:List V} {Q:VK} {E:EK} (hE:EdAt K t H i e a) (hm:∀ x,(edF i x e).lookup m=none)
  (hT:Bs e=false->(n+1<=iT.ps.length/\iT.ps.length<=n+1+iT.dfs.length)/\spE iT.sp (iT.dfs.drop (n+1+iT.dfs.length - iT.ps.length)) (.ref a::vs) H Q E)
  (hB:Bs e=true->(n+1<=iB.ps.length/\iB.ps.length<=n+1+iB.dfs.length)/\spE iB.sp (iB.dfs.drop (n+1+iB.dfs.length - iB.ps.length)) (.ref a::vs) H Q E) :
  ∃ a' dx fs mi,V.ref a=.ref a'/\mi∈[(⟨t.c_zcd,iT⟩:MI),⟨t.c_zcb,iT⟩,⟨t.c_zce,iB⟩,⟨t.c_zby,iB⟩,⟨t.c_zbz,iB⟩]/\H a'=some (.ins mi.C dx fs)/\fs.lookup m=none/\(n+1<=mi.i.ps.length/\mi.i.ps.length<=n+1+mi.i.dfs.length)/\spE mi.i.sp (mi.i.dfs.drop (n+1+mi.i.dfs.length - mi.i.ps.length)) (.ref a'::vs) H Q E:=by
 obtain⟨dx,x,ea,hx⟩:=hE
 cases e with
 | write z=>exact⟨a,dx,_,⟨t.c_zcd,iT⟩,rfl,.head _,ea,hm x,hT rfl⟩
 | splice m n z=>exact⟨a,dx,_,⟨t.c_zcb,iT⟩,rfl,.tail _ (.head _),ea,hm x,hT rfl⟩
 | cell m n z=>exact⟨a,dx,_,⟨t.c_zce,iB⟩,rfl,.tail _ (.tail _ (.head _)),ea,hm x,hB rfl⟩
 | addrow m n=>exact⟨a,dx,_,⟨t.c_zby,iB⟩,rfl,.tail _ (.tail _ (.tail _ (.head _))),ea,hm x,hB rfl⟩
 | cutrow m=>exact⟨a,dx,_,⟨t.c_zbz,iB⟩,rfl,.tail _ (.tail _ (.tail _ (.tail _ (.head _)))),ea,hm x,hB rfl⟩
theorem ab1 {H:Hp} {i n:Nat} {e:Ed} {a:Addr} {m:Str} {i0:FI} {vs:List V} {Q:VK} {E:EK} (hE:EdAt K t H i e a) (hm:∀ x,(edF i x e).lookup m=none)
  (hb:n+1<=i0.ps.length/\i0.ps.length<=n+1+i0.dfs.length) (h:spE i0.sp (i0.dfs.drop (n+1+i0.dfs.length - i0.ps.length)) (.ref a::vs) H Q E) :
  ∃ a' dx fs mi,V.ref a=.ref a'/\mi∈[(⟨t.c_zcd,i0⟩:MI),⟨t.c_zcb,i0⟩,⟨t.c_zce,i0⟩,⟨t.c_zby,i0⟩,⟨t.c_zbz,i0⟩]/\H a'=some (.ins mi.C dx fs)/\fs.lookup m=none/\(n+1<=mi.i.ps.length/\mi.i.ps.length<=n+1+mi.i.dfs.length)/\spE mi.i.sp (mi.i.dfs.drop (n+1+mi.i.dfs.length - mi.i.ps.length)) (.ref a'::vs) H Q E:=
 Re hE hm (fun _=>⟨hb,h⟩) (fun _=>⟨hb,h⟩)
theorem Y6 {S:Rs} {i:Nat} {e:Ed} (h:S[i]? = none):A3 S i e=.noPart:=by unfold A3;rw [h]
theorem Pc {S:Rs} {i:Nat} {e:Ed} {r:Rc} (h:S[i]? = some r):A3 S i e=De e r.ct:=by unfold A3;rw [h]
theorem bv2 (i:Nat):(!decide (nm i = ""))=true:=by
 match i with
 | 0=>rfl
 | 1=>rfl
 | 2=>rfl
 | n+3=>rfl
theorem Tg {H:Hp} {i:Nat} {e:Ed} {a:Addr} {Q:VK} {E:EK} (hE:EdAt K t H i e a) (k:Q (.str (nm i)) H) :
  ∃ a' dx fs mi,V.ref a=.ref a'/\mi∈Ci K t/\H a'=some (.ins mi.C dx fs)/\fs.lookup ("about" : Str)=none/\(0+1<=mi.i.ps.length/\mi.i.ps.length<=0+1+mi.i.dfs.length)/\spE mi.i.sp (mi.i.dfs.drop (0+1+mi.i.dfs.length - mi.i.ps.length)) [.ref a'] H Q E:=
 ab1 (i0:=Ii K t) hE (fun x=>by cases e <;> rfl) ⟨ae _,ae _⟩ ⟨a,i,e,rfl,hE,k⟩
theorem Jb {f:Addr} {fd:ai} (Z:Facts K t) (F:FunD K "need" "Edit.need" Dn f fd t.dv_zar) (T:Tab P w K mg base 5 (Hb K t) bl):FnOk P w K mg base (CXE P w) 6 f fd N6 (ag8 K t):=by
 refine F.okWX bk3 bp7 T (bg2 K t) (fun vs H Q E h=>?_) (fun vs H Q E h=>?_)
 ·obtain⟨a,p,d,S,i,e,ch,rfl,_⟩:=h;rfl
 ·obtain⟨a,p,d,S,i,e,ch,rfl,hE,ho,hP,o,k⟩:=h
  obtain⟨⟨dp,ep⟩,_⟩:=id hP
  refine Tg hE (Zx (bv2 i) ?_)
  refine⟨p,dp,_,⟨t.c_zcc,Zs K t⟩,rfl,.head _,ep,rfl,⟨ae _,ae _⟩,Tg hE ⟨p,d,S,i,rfl,hP,o,?_⟩⟩
  refine B7 (c:=(!decide (i<3))=true) (fun g=>?_) (fun g=>?_)
  ·have g:¬ i<3:=by simpa using g
   rw [Y6 (bI (by have:=o.1;omega))] at k
   exact Tg hE ⟨(show 2<=1000 by decide),By Z k.2 rfl rfl⟩
  ·have g:i<3:=by simpa using g
   obtain⟨r,hr⟩:=o.at g
   rw [Pc hr] at k
   exact Re (iT:=Zt K t) (iB:=Qv K t) hE (fun x=>by cases e <;> rfl)
    (fun h=>⟨⟨ae _,ae _⟩,a,p,d,S,i,e,r,ch,rfl,h,hE,ho,hP,o,hr,k.call⟩) (fun h=>⟨⟨ae _,ae _⟩,a,p,d,S,i,e,r,ch,rfl,h,hE,ho,hP,o,hr,k.call⟩)
theorem at2 {f:Addr} {fd:ai} (Z:Facts K t) (F:FunD K "change" "TextEdit.change" R3 f fd .none) (T:Tab P w K mg base 5 (Hb K t) bl):FnOk P w K mg base CX0 6 f fd Yc (av3 K t):=by
 refine F.okW0 b39 cb5 T (b13 K t) (fun vs H Q E h=>?_) (fun vs H Q E h=>?_)
 ·obtain⟨a,p,d,S,i,e,r,c,rfl,_⟩:=h;rfl
 ·obtain⟨a,p,d,S,i,e,r,c,rfl,ht,hE,ho,hP,o,hr,hn,k⟩:=h
  obtain⟨dx,x,ea,hx⟩:=id hE
  obtain⟨⟨dp,ep⟩,_⟩:=id hP
  have k2:∀ H1 y1,Same H H1->At K H1 (ctD c) y1->G1 K t [.ref p,.str (nm i),y1] H1 (fun _ H'=>Q .non H') (fun v _ H'=>∃ a,v=.ref a/\E (.ref a) none H'):=fun H1 y1 S1 hy1=>⟨p,d,S,i,c,y1,rfl,hP.up S1,o,o.lt hr,hy1,fun H2 B R=>k H2 ((But.of S1).trans B) R⟩
  refine a9 ⟨_,_,_,_,ea,(Z.cl e),(Z.fld e (by decide)),(Bg i x e),?_⟩
  cases e with
  | write z=>exact⟨a,dx,_,⟨t.c_zcd,a33 K t⟩,rfl,.head _,ea,rfl,⟨ae _,ae _⟩,p,dp,_,⟨t.c_zcc,Hc K t⟩,rfl,.head _,ep,rfl,⟨ae _,ae _⟩,a9 ⟨_,_,_,_,ea,(Z.cl (.write z)),(Z.fld (.write z) (by decide)),(Bg i x (.write z)),⟨p,d,S,i,r,rfl,hP,o,hr,fun y hy=>⟨a,i,.write z,r.ct,c,y,rfl,rfl,hE,ho,hy,(o.rc hr).1,hn,k2⟩⟩⟩⟩
  | splice m n z=>exact⟨a,dx,_,⟨t.c_zcb,a29 K t⟩,rfl,.tail _ (.head _),ea,rfl,⟨ae _,ae _⟩,p,dp,_,⟨t.c_zcc,Hc K t⟩,rfl,.head _,ep,rfl,⟨ae _,ae _⟩,a9 ⟨_,_,_,_,ea,(Z.cl (.splice m n z)),(Z.fld (.splice m n z) (by decide)),(Bg i x (.splice m n z)),⟨p,d,S,i,r,rfl,hP,o,hr,fun y hy=>⟨a,i,.splice m n z,r.ct,c,y,rfl,rfl,hE,ho,hy,(o.rc hr).1,hn,k2⟩⟩⟩⟩
  | _=>cases ht
theorem aa8 {f:Addr} {fd:ai} (Z:Facts K t) (F:FunD K "change" "TableEdit.change" Rx f fd .none) (T:Tab P w K mg base 5 (Hb K t) bl):FnOk P w K mg base CX0 6 f fd X8 (au9 K t):=by
 refine F.okW0 b35 cb1 T (b07 K t) (fun vs H Q E h=>?_) (fun vs H Q E h=>?_)
 ·obtain⟨a,p,d,S,i,e,r,c,rfl,_⟩:=h;rfl
 ·obtain⟨a,p,d,S,i,e,r,c,rfl,ht,hE,ho,hP,o,hr,hn,k⟩:=h
  obtain⟨dx,x,ea,hx⟩:=id hE
  obtain⟨⟨dp,ep⟩,_⟩:=id hP
  have k2:∀ H1 y1,Same H H1->At K H1 (ctD c) y1->G1 K t [.ref p,.str (nm i),y1] H1 (fun _ H'=>Q .non H') (fun v _ H'=>∃ a,v=.ref a/\E (.ref a) none H'):=fun H1 y1 S1 hy1=>⟨p,d,S,i,c,y1,rfl,hP.up S1,o,o.lt hr,hy1,fun H2 B R=>k H2 ((But.of S1).trans B) R⟩
  refine a9 ⟨_,_,_,_,ea,(Z.cl e),(Z.fld e (by decide)),(Bg i x e),?_⟩
  cases e with
  | cell m n z=>exact⟨a,dx,_,⟨t.c_zce,a31 K t⟩,rfl,.head _,ea,rfl,⟨ae _,ae _⟩,p,dp,_,⟨t.c_zcc,Hc K t⟩,rfl,.head _,ep,rfl,⟨ae _,ae _⟩,a9 ⟨_,_,_,_,ea,(Z.cl (.cell m n z)),(Z.fld (.cell m n z) (by decide)),(Bg i x (.cell m n z)),⟨p,d,S,i,r,rfl,hP,o,hr,fun y hy=>⟨a,i,.cell m n z,r.ct,c,y,rfl,rfl,hE,ho,hy,(o.rc hr).1,hn,k2⟩⟩⟩⟩
  | addrow m n=>exact⟨a,dx,_,⟨t.c_zby,a24 K t⟩,rfl,.tail _ (.head _),ea,rfl,⟨ae _,ae _⟩,p,dp,_,⟨t.c_zcc,Hc K t⟩,rfl,.head _,ep,rfl,⟨ae _,ae _⟩,a9 ⟨_,_,_,_,ea,(Z.cl (.addrow m n)),(Z.fld (.addrow m n) (by decide)),(Bg i x (.addrow m n)),⟨p,d,S,i,r,rfl,hP,o,hr,fun y hy=>⟨a,i,.addrow m n,r.ct,c,y,rfl,rfl,hE,ho,hy,(o.rc hr).1,hn,k2⟩⟩⟩⟩
  | cutrow m=>exact⟨a,dx,_,⟨t.c_zbz,a25 K t⟩,rfl,.tail _ (.tail _ (.head _)),ea,rfl,⟨ae _,ae _⟩,p,dp,_,⟨t.c_zcc,Hc K t⟩,rfl,.head _,ep,rfl,⟨ae _,ae _⟩,a9 ⟨_,_,_,_,ea,(Z.cl (.cutrow m)),(Z.fld (.cutrow m) (by decide)),(Bg i x (.cutrow m)),⟨p,d,S,i,r,rfl,hP,o,hr,fun y hy=>⟨a,i,.cutrow m,r.ct,c,y,rfl,rfl,hE,ho,hy,(o.rc hr).1,hn,k2⟩⟩⟩⟩
  | _=>cases ht
theorem O1 {S:Rs} {i:Nat} {e:Ed} (h:D3 (A3 S i e)=none):∃ r c,S[i]? = some r/\De e r.ct=.good c:=by
 cases hs:S[i]? with
 | none=>rw [Y6 hs] at h;cases h
 | some r=>
  rw [Pc hs] at h
  cases hn:De e r.ct with
  | good c=>exact⟨r,c,rfl,hn⟩
  | _=>rw [hn] at h;cases h
theorem Jc {f:Addr} {fd:ai} (Z:Facts K t) (F:FunD K "on" "Edit.on" Do f fd t.dv_zbe) (T:Tab P w K mg base 6 (aj9 K t) bl):FnOk P w K mg base (CXE P w) 7 f fd Oj (ah1 K t):=by
 refine F.okWX bl6 br0 T (bh5 K t) (fun vs H Q E h=>?_) (fun vs H Q E h=>?_)
 ·obtain⟨a,p,d,S,i,e,ch,rfl,_⟩:=h;rfl
 ·obtain⟨a,p,d,S,i,e,ch,rfl,hE,ho,hP,o,k,kb⟩:=h
  refine ab1 (i0:=Ih K t) hE (fun x=>by cases e <;> rfl) ⟨ae _,(show 3<=4 by decide)⟩ ⟨a,p,d,S,i,e,ch,rfl,hE,ho,hP,o,fun h H1 S1=>?_,fun n C h1 h2 H' a S f=>⟨a,rfl,kb n C h1 h2 H' a S f⟩⟩
  obtain⟨r,c,hr,hn⟩:=O1 h
  have k2:∀ H2,But d H1 H2->RsAt K H2 d (upS S i (.good c))->Q .non H2:=fun H2 B R=>k h H2 ((But.of S1).trans B) (by rw [Pc hr,hn];exact R)
  exact Re (iT:=Zu K t) (iB:=Qw K t) (hE.up S1) (fun x=>by cases e <;> rfl)
   (fun h=>⟨⟨ae _,ae _⟩,a,p,d,S,i,e,r,c,rfl,h,hE.up S1,ho,hP.up S1,o,hr,hn,k2⟩) (fun h=>⟨⟨ae _,ae _⟩,a,p,d,S,i,e,r,c,rfl,h,hE.up S1,ho,hP.up S1,o,hr,hn,k2⟩)
theorem ce0 {a b c d:Int} {v:V} (ha:0<=a/\a<=1000000000) (hb:0<=b/\b<=1000000000) (hc:0<=c/\c<=1000000000) (hd:0<=d/\d<=1000000000) (h:v∈[V.int a,.int b,.int c,.int d]):∃ m:Nat,v=nI m/\m<=big:=by
 have go:∀ d:Int,0<=d/\d<=1000000000 -> ∃ m:Nat,V.int d=.int (m:Int)/\m<=big:=fun d hd=>⟨d.toNat,by rw [dM (by omega)],by unfold big;omega⟩
 simp only [ax,aK,or_false] at h
 rcases h with rfl|rfl|rfl|rfl
 ·exact go _ ha
 ·exact go _ hb
 ·exact go _ hc
 ·exact go _ hd
theorem ab9 (x:Int) (s:Nat) (hs:s<=100):∃ m:Nat,m<=big/\atI [V.int (x / 8 % ((s:Int)+1)),.int (x / 8 % ((s:Int)+1)),.int (if (s:Int) - x / 8 % 2 > 0 then (s:Int) - x / 8 % 2 else 0),.int (x / 8 % (10 ^ (9:Int).toNat+1))] (x % 8 % 4)=some (nI m):=by
 obtain⟨v,hv,ev⟩:=atM (xs:=[V.int (x / 8 % ((s:Int)+1)),.int (x / 8 % ((s:Int)+1)),.int (if (s:Int) - x / 8 % 2 > 0 then (s:Int) - x / 8 % 2 else 0),.int (x / 8 % (10 ^ (9:Int).toNat+1))]) (x % 8) 4 rfl (by decide)
 have a1:=cO (x / 8) (show (s:Int)+1≠0 by omega)
 have a2:=cf (x / 8) (show (0:Int)<(s:Int)+1 by omega)
 have b:(10:Int) ^ (9:Int).toNat+1=1000000001:=rfl
 obtain⟨m,rfl,hm⟩:=ce0 (by omega) (by omega) (by split <;> omega) (by rw [b];omega) hv
 exact⟨m,hm,ev⟩
theorem a71 {f:Addr} {fd:ai} (Z:Facts K t) (F:FunD K "_law_place" "_law_place" J2 f fd .none) (T:Tab P w K mg base 0 (Az K t) bl):FnOk P w K mg base CX0 1 f fd Ob (Fl K t):=by
 refine F.okW0 bk8 bq2 T (bg7 K t) (fun vs H Q E h=>?_) (fun vs H Q E h=>?_)
 ·obtain⟨x,s,rfl,_⟩:=h;rfl
 ·obtain⟨x,s,rfl,hx,hs,k⟩:=h
  obtain⟨m,hm,ev⟩:=ab9 x s hs
  have s1:(0:Int)<(s:Int)+1:=by omega
  exact⟨⟨by decide,by decide⟩,s1,⟨by decide,by decide⟩,s1,⟨by decide,by decide⟩,by decide,⟨by decide,by decide⟩,⟨by decide,by decide,by decide⟩,by decide,(show 4<=sizeLine by decide),fun p hp=>⟨by decide,by decide,_,_,.inl (SqL.of Ad),ev,k m _ (Same.upd hp) hm⟩⟩
theorem Uc {n i:Nat} (h:i<n):ixN n (i:Int)=some i:=by
 unfold ixN
 simp
 omega
theorem a39 {n i:Nat} (h:i<n):iJ (i:Int) n=some i:=by
 unfold iJ
 simp
 omega
theorem ae9 {H:Hp} {xs:List V} {tb:Tb} {i:Nat} {row:List Str} {y:V} (g:AtL K H (tb.map Dz) xs) (hi:i<tb.length) (hy:At K H (Dz row) y):AtL K H ((tb.set i row).map Dz) (xs.set i y):=by
 have l:xs.length=tb.length:=by rw [g.length,aw]
 have:=Bp (Bp (Cw (n:=i) g) (Al hy Aw)) (Cv (n:=i+1) g)
 rw [<- d7,<- d6,<- fA (f:=Dz),<- bn,<- bn,Nc hi,Nc (by omega)] at this
 exact this
theorem bx5 {f:Addr} {fd:ai} (Z:Facts K t) (F:FunD K "_law_rows_due" "_law_rows_due" Sh f fd .none) (T:Tab P w K mg base 0 (Az K t) bl):FnOk P w K mg base CX0 1 f fd Yp (ah4 K t):=by
 refine F.okW0 b52 cc8 T (b26 K t) (fun vs H Q E h=>?_) (fun vs H Q E h=>?_)
 ·obtain⟨x,p,tb,i,e,rfl,_⟩:=h;rfl
 ·obtain⟨x,p,tb,i,e,rfl,hx,hw,⟨y,q,hy⟩,ho,ht,kf,kg⟩:=h
  obtain⟨b,xs,rfl,qb,hl,g,hg⟩:=C8 hx
  obtain⟨b0,q0,q0'⟩:=hg 0 hw.1
  have h6:xs.length<=6:=by rw [hl];exact hw.2.1
  refine .inl ⟨xs,.inr qb,fun l hl0=>?_⟩
  have S1:=Same.upd (o:=.lst xs) hl0
  have el:upd H l (.lst xs) l=some (.lst xs):=Ad
  generalize upd H l (.lst xs)=H1 at S1 el ⊢
  have q1:=S1.seqT q
  have qb1:=S1.seqT qb
  have q01:=S1.seqT q0'
  have w0:=Va tb
  cases e with
  | cell m n z=>
   rw [Hl] at kf kg
   refine⟨_,_,.inr q1,rfl,_,_,.inr q1,rfl,.inl ⟨xs,.inr qb1,?_⟩⟩
   refine B7 (fun g1=>?_) (fun g1=>?_)
   ·have g1:(xs.length:Int)<=(m:Int):=of_decide_eq_true g1
    exact kf (if_pos (.inl (by omega))) H1 S1
   ·have g1:¬ (xs.length:Int)<=(m:Int):=fun h=>g1 (decide_eq_true h)
    refine⟨_,_,.inr q1,rfl,xs,_,.inr qb1,A4 q0,.inl ⟨_,.inr q01,?_⟩⟩
    refine B7 (fun g2=>?_) (fun g2=>?_)
    ·have g2:((((tb.getD 0 []).map V.str).length:Nat):Int)<=(n:Int):=of_decide_eq_true g2
     rw [w0] at g2
     exact kf (if_pos (.inr (by omega))) H1 S1
    ·have g2:¬ ((((tb.getD 0 []).map V.str).length:Nat):Int)<=(n:Int):=fun h=>g2 (decide_eq_true h)
     rw [w0] at g2
     rw [if_neg (by omega)] at kg
     obtain⟨c,qc,qc'⟩:=hg m (by omega)
     obtain⟨m',m1,m6,hwd,hr⟩:=Nm hw
     have lr:(tb.getD m []).length=m':=(hr _ (by rw [ar,aq (show m<tb.length by omega)];exact cg _)).1
     have lv:((tb.getD m []).map V.str).length=m':=by rw [aw,lr]
     refine⟨_,_,.inr q1,rfl,xs,_,.inl (SqL.of el),A4 qc,.inl ⟨_,.inr (S1.seqT qc'),fun l2 hl2=>?_⟩⟩
     have S2:=Same.upd (o:=.lst ((tb.getD m []).map V.str)) hl2
     have el2:upd H1 l2 (.lst ((tb.getD m []).map V.str)) l2=some (.lst ((tb.getD m []).map V.str)):=Ad
     generalize upd H1 l2 (.lst ((tb.getD m []).map V.str))=H2 at S2 el2 ⊢
     have q2:=S2.seqT q1
     refine⟨_,_,.inr q2,rfl,_,_,.inr q2,rfl,.inl ⟨_,n,el2,Uc (by omega),?_⟩⟩
     have ne:l≠l2:=fun h=>by rw [h,hl2] at el;cases el
     have el3:upd H2 l2 (.lst (((tb.getD m []).map V.str).set n (.str z))) l=some (.lst xs):=by rw [Ak ne];exact S2 _ _ el
     have k3:TKeep K H2 (upd H2 l2 (.lst (((tb.getD m []).map V.str).set n (.str z)))):=TKeep.lst el2
     have h3:Same H (upd H2 l2 (.lst (((tb.getD m []).map V.str).set n (.str z)))):=(S1.trans S2).set (S1.free hl2)
     have el4:upd H2 l2 (.lst (((tb.getD m []).map V.str).set n (.str z))) l2=some (.lst (((tb.getD m []).map V.str).set n (.str z))):=Ad
     generalize upd H2 l2 (.lst (((tb.getD m []).map V.str).set n (.str z)))=H3 at el3 h3 el4 k3 ⊢
     refine⟨_,.inl ⟨SqL.of el4,fun r hr=>?_⟩⟩
     have S4:=Same.upd (o:=.tup (((tb.getD m []).map V.str).set n (.str z))) hr
     have er:upd H3 r (.tup (((tb.getD m []).map V.str).set n (.str z))) r=some (.tup (((tb.getD m []).map V.str).set n (.str z))):=Ad
     generalize upd H3 r (.tup (((tb.getD m []).map V.str).set n (.str z)))=H4 at S4 er ⊢
     have q4:=S4.seqT (h3.seqT q)
     refine⟨_,_,.inr q4,rfl,.inl ⟨xs,m,S4 _ _ el3,Uc (by omega),?_⟩⟩
     refine⟨_,.inl ⟨SqL.of Ad,fun u hu=>?_⟩⟩
     have S5:Same H (upd (upd H4 l (.lst (xs.set m (.ref r)))) u (.tup (xs.set m (.ref r)))):=((h3.trans S4).set hl0).trans (Same.upd hu)
     have k5:TKeep K H4 (upd (upd H4 l (.lst (xs.set m (.ref r)))) u (.tup (xs.set m (.ref r)))):=(TKeep.lst (S4 _ _ el3)).trans (TKeep.of (Same.upd hu))
     refine kg _ rfl _ _ S5 (Ck (SqT.of Ad) (ae9 (Bz S5 g) (by omega) (E3 (Fq (by rw [List.map_set];exact SqT.of er)) k5)))
  | addrow m r=>
   rw [M1] at kf kg
   obtain⟨b1,rfl,qr⟩:=Ea hy
   have w1:(r.map V.str).length=r.length:=aw ..
   refine⟨_,_,.inr q1,rfl,_,_,.inr q1,rfl,_,_,.inr q1,rfl,.inl ⟨xs,.inr qb1,?_⟩⟩
   refine B7 (fun g1=>?_) (fun g1=>?_)
   ·have g1:(xs.length:Int)<(m:Int):=of_decide_eq_true g1
    exact kf (if_pos (.inl (by omega))) H1 S1
   ·have g1:¬ (xs.length:Int)<(m:Int):=fun h=>g1 (decide_eq_true h)
    refine⟨_,_,.inr q1,rfl,.inl ⟨_,.inr (S1.seqT qr),xs,_,.inr qb1,A4 q0,.inl ⟨_,.inr q01,?_⟩⟩⟩
    refine B7 (c:=(!decide ((((r.map V.str).length:Nat):Int)=((((tb.getD 0 []).map V.str).length:Nat):Int)))=true) (fun g2=>?_) (fun g2=>?_)
    ·rw [w0,w1] at g2
     have g2:r.length≠wid tb:=fun h=>by rw [h] at g2;simp at g2
     exact kf (if_pos (.inr g2)) H1 S1
    ·rw [w0,w1] at g2
     have g2:r.length=wid tb:=by
      have:((r.length:Nat):Int)=((wid tb:Nat):Int):=by simpa using g2
      omega
     rw [if_neg (by omega)] at kg
     refine⟨.inl ⟨rfl,_,SqL.of el⟩,_,_,.inr q1,rfl,_,_,.inr q1,rfl,l,xs,_,m,rfl,rfl,el,by omega,cD h6 (by decide),?_⟩
     refine⟨_,.inl ⟨SqL.of Ad,fun u hu=>?_⟩⟩
     have S5:Same H (upd (upd H1 l (.lst (xs.take m++V.ref b1::xs.drop m))) u (.tup (xs.take m++V.ref b1::xs.drop m))):=(S1.set hl0).trans (Same.upd hu)
     refine kg _ rfl _ _ S5 (Ck (SqT.of Ad) ?_)
     have g5:=Bz S5 g
     have:=Bp (Cw (n:=m) g5) (Al (D1 S5 hy) (Cv (n:=m) g5))
     rw [<- d7,<- d6,<- ba,<- bn] at this
     exact this
  | cutrow m=>
   rw [M2] at kf kg
   refine⟨_,_,.inr q1,rfl,_,_,.inr q1,rfl,_,_,.inr q1,rfl,.inl ⟨xs,.inr qb1,?_⟩⟩
   refine B7 (fun g1=>?_) (fun g1=>?_)
   ·have g1:(xs.length:Int)<=(m:Int):=of_decide_eq_true g1
    exact kf (if_pos (.inl (by omega))) H1 S1
   ·have g1:¬ (xs.length:Int)<=(m:Int):=fun h=>g1 (decide_eq_true h)
    refine .inl ⟨xs,.inr qb1,B7 (fun g2=>?_) (fun g2=>?_)⟩
    ·have g2:(xs.length:Int)=1:=of_decide_eq_true g2
     exact kf (if_pos (.inr (by omega))) H1 S1
    ·have g2:¬ (xs.length:Int)=1:=fun h=>g2 (decide_eq_true h)
     rw [if_neg (by omega)] at kg
     refine⟨.inl ⟨rfl,_,SqL.of el⟩,_,_,.inr q1,rfl,.inr ⟨l,xs,m,m,xs[m]'(by omega),rfl,rfl,el,by omega,by omega,a39 (by omega),aq _,?_⟩⟩
     rw [List.eraseIdx_eq_take_drop_succ]
     refine⟨_,.inl ⟨SqL.of Ad,fun u hu=>?_⟩⟩
     have S5:Same H (upd (upd H1 l (.lst (xs.take m++xs.drop (m+1)))) u (.tup (xs.take m++xs.drop (m+1)))):=(S1.set hl0).trans (Same.upd hu)
     refine kg _ rfl _ _ S5 (Ck (SqT.of Ad) ?_)
     have g5:=Bz S5 g
     have:=Bp (Cw (n:=m) g5) (Cv (n:=m+1) g5)
     rw [<- d7,<- d6,<- bn] at this
     exact this
  | _=>cases ht
theorem a37 {c:Bool} {j:Nat} {e:DE} {D:Hs} {σ:St} {H:Hp} (W:V->Hp->Prop) (h1:∀ N:VK,(∀ v H',W v H'->N v H')->e σ H N (D.ex σ)) (v0:V) (h0:σ.set j (some v0)=σ) (w0:W v0 H) (hR:∀ v H',W v H'->D.nx (σ.set j (some v)) H') :
  if c=true then Ah (A2 j e) Af D σ H else Af D σ H:=by
 cases c
 ·rw [if_neg (by decide)]
  have:=hR v0 H w0
  rw [h0] at this
  exact this
 ·rw [if_pos rfl]
  exact h1 _ hR
theorem ce2 {v:V} (h:v∈[V.str "a", .str "a.b", .str "t", .str "t", .str "ab"]):∃ i,i<=3/\v=.str (nm i):=by
 simp only [ax,aK,or_false] at h
 rcases h with rfl|rfl|rfl|rfl|rfl
 ·exact⟨0,by decide,rfl⟩
 ·exact⟨1,by decide,rfl⟩
 ·exact⟨2,by decide,rfl⟩
 ·exact⟨2,by decide,rfl⟩
 ·exact⟨3,by decide,rfl⟩
theorem ce1 {v:V} (h:v∈[V.str "a", .str "a.b", .str "t", .str "ab"]):∃ i,i<=3/\v=.str (nm i):=by
 simp only [ax,aK,or_false] at h
 rcases h with rfl|rfl|rfl|rfl
 ·exact⟨0,by decide,rfl⟩
 ·exact⟨1,by decide,rfl⟩
 ·exact⟨2,by decide,rfl⟩
 ·exact⟨3,by decide,rfl⟩
noncomputable def szC:Ct->Nat
 | .txt z=>z.length
 | .tab tb=>tb.length
theorem b56 {c:Ct} (h:c.wf):szC c<=60:=by
 cases c with
 | txt z=>exact h.1
 | tab tb=>exact aD h.2.1 (by decide)
theorem a08 {H:Hp} {c:Ct} {y:V} {Q:VK} (hy:At K H (ctD c) y) (hw:c.wf) (k:Q (.int (szC c)) H):Bu K [y] H Q:=by
 cases c with
 | txt z=>
  have:=Kn hy
  subst this
  exact⟨aD hw.1 (by decide),k⟩
 | tab tb=>
  obtain⟨b,xs,rfl,qb,hl,_⟩:=C8 hy
  exact .inl ⟨xs,.inr qb,by rw [hl];exact k⟩
theorem ao8 {i j:Nat} {R:DS} {D:Hs} {σ:St} {H:Hp} {c:Ct} {y:V} (hy:At K H (ctD c) y) (hw:c.wf) (hσ:σ[i]? = some (some y)) (k:R D (σ.set j (some (.int (szC c)))) H):Ah (A2 j (dFn (fun vs H Q _=>Bu K vs H Q) (Ab (Ac i) Ag))) R D σ H:=by
 show Ac i σ H (fun x H1=>Bu K [x] H1 fun v H2=>R D (σ.set j (some v)) H2) (D.ex σ)
 unfold Ac
 rw [hσ]
 exact a08 hy hw k
theorem a02:(Ct.txt "abc").wf:=⟨by decide +kernel,by decide +kernel⟩
theorem a07 {H:Hp} {d tp:Addr} {S:Rs} (i:Nat) (hR:RsAt K H d S) (o:Ok S) (et:H tp=some (.tup [.str "", .str "", .int 0,.str "abc"])) :
  ∃ v c y xs a,E5 H d (.str (nm i)) v/\v.getD (.ref tp)=.ref a/\SqT K H a xs/\atI xs 3=some y/\At K H (ctD c) y/\c.wf:=by
 by_cases hi:i<3
 ·obtain⟨r,er⟩:=o.at hi
  obtain⟨x,g,hx⟩:=hR.get o er
  obtain⟨a,y,rfl,q,hy⟩:=F8 hx
  exact⟨_,_,y,_,a,g,rfl,q,rfl,hy,(o.rc er).1⟩
 ·exact⟨_,.txt "abc", _,_,tp,hR.no o (bI (by have:=o.1;omega)),rfl,SqT.of et,rfl,Bf,a02⟩
theorem by6 (b:Bool) {x y:Int} (hx:1<=x/\x<=6) (hy:1<=y/\y<=6):∃ wd:Nat,1<=wd/\wd<=6/\atI [V.int x,.int y] (if b then 1 else 0)=some (.int (wd:Int)):=by
 cases b
 ·exact⟨x.toNat,by omega,by omega,by rw [dM (by omega)];rfl⟩
 ·exact⟨y.toNat,by omega,by omega,by rw [dM (by omega)];rfl⟩
theorem bn1 {n:Nat} (h:1<=n) (x:V):[x,V.int ((n:Int) - 1)]=[x,V.int ((n - 1:Nat):Int)]:=by
 rw [show ((n:Int) - 1)=((n - 1:Nat):Int) by omega]
theorem cf7 (n m:Nat) (x:V):[x,V.int (if (n:Int) - (m:Int) > 0 then (n:Int) - (m:Int) else 0)]=[x,V.int ((n - m:Nat):Int)]:=by
 congr 3
 split <;> omega
theorem a75 {f:Addr} {fd:ai} (Z:Facts K t) (F:FunD K "_law_deed" "_law_deed" J6 f fd .none) (T:Tab P w K mg base 2 (Di K t) bl):FnOk P w K mg base CX0 3 f fd Of (Sq K t):=by
 refine F.okW0 bl2 bq6 T (bh1 K t) (fun vs H Q E h=>?_) (fun vs H Q E h=>?_)
 ·obtain⟨d,S,c,rfl,_⟩:=h;rfl
 ·obtain⟨d,S,c,rfl,hR,o,k⟩:=h
  refine⟨c,8,rfl,by decide,fun H1 l ns S1 hl el en eb=>?_⟩
  match ns,en,eb with
  | [n0,n1,n2,n3,n4,n5,n6,n7],_,eb=>
   have q1:SqL K H1 l [.int n0,.int n1,.int n2,.int n3,.int n4,.int n5,.int n6,.int n7]:=SqL.of el
   have hn2:0<=n2:=(eb n2 (by simp)).1
   have hn5:0<=n5:=(eb n5 (by simp)).1
   refine⟨(show 5<=sizeLine by decide),fun p hp=>?_⟩
   have Sp:=Same.upd (o:=.lst [V.str "a", .str "a.b", .str "t", .str "t", .str "ab"]) hp
   have ep:upd H1 p (.lst [V.str "a", .str "a.b", .str "t", .str "t", .str "ab"]) p=some (.lst [V.str "a", .str "a.b", .str "t", .str "t", .str "ab"]):=Ad
   generalize upd H1 p (.lst [V.str "a", .str "a.b", .str "t", .str "t", .str "ab"])=H2 at Sp ep ⊢
   have S2:=S1.trans Sp
   have q2:=Sp.seqL q1
   obtain⟨v,hv,ev⟩:=atM (xs:=[V.str "a", .str "a.b", .str "t", .str "t", .str "ab"]) n0 5 rfl (by decide)
   obtain⟨i0,hi0,rfl⟩:=ce2 hv
   refine⟨_,_,.inl q2,rfl,by decide,_,_,.inl (SqL.of ep),ev,?_⟩
   obtain⟨vs0,ed,_⟩:=id (hR.up S2)
   refine⟨.inr (.inr (.inl ⟨rfl,.inl ⟨_,ed⟩⟩)),(show 4<=sizeLine by decide),fun tp htp=>?_⟩
   have St:=Same.upd (o:=.tup [.str "", .str "", .int 0,.str "abc"]) htp
   have et:upd H2 tp (.tup [.str "", .str "", .int 0,.str "abc"]) tp=some (.tup [.str "", .str "", .int 0,.str "abc"]):=Ad
   generalize upd H2 tp (.tup [.str "", .str "", .int 0,.str "abc"])=H3 at St et ⊢
   have S3:=S2.trans St
   have q3:=St.seqL q2
   obtain⟨ov,ct,y,ys,ra,gv,e1,qv,e2,hy,hw⟩:=a07 i0 (hR.up S3) o et
   refine⟨ov,gv,?_⟩
   dsimp only [dC]
   rw [e1]
   refine⟨ys,y,.inr qv,e2,?_⟩
   refine ao8 hy hw rfl ?_
   have hs:=b56 hw
   refine⟨_,_,.inl q3,rfl,_,rfl,fun z H4 S4 hz=>?_⟩
   have q4:=S4.seqL q3
   refine⟨_,_,.inl q4,rfl,n2,szC ct,rfl,hn2,by omega,fun m H5 S5 hm=>?_⟩
   have q5:=S5.seqL q4
   have hy5:=D1 (S4.trans S5) hy
   have S6:=(S3.trans S4).trans S5
   refine⟨_,_,.inl q5,rfl,by decide,?_⟩
   refine a37 (fun v H'=>(∃ i,i<=3/\v=.str (nm i))/\Same H5 H') (fun N hN=>?_) (.str (nm i0)) rfl ⟨⟨i0,hi0,rfl⟩,Same.refl _⟩ ?_
   ·refine⟨(show 4<=sizeLine by decide),fun p hp=>?_⟩
    obtain⟨v,hv,ev⟩:=atM (xs:=[V.str "a", .str "a.b", .str "t", .str "ab"]) n4 4 rfl (by decide)
    exact⟨_,_,.inl ((Same.upd hp).seqL q5),rfl,by decide,_,_,.inl (SqL.of Ad),ev,hN _ _ ⟨ce1 hv,Same.upd hp⟩⟩
   rintro v H6 ⟨⟨i,hi,rfl⟩,S56⟩
   have q6:=S56.seqL q5
   have hy6:=D1 S56 hy5
   have S7:=S6.trans S56
   clear hy5 hy q5 q4 q3 q2 q1 ep et ev hv St Sp S1 S2 S3 S4 S5 S56 S6 el hl ed
   cases ct with
   | txt o'=>
    have:=Kn hy6
    subst this
    refine⟨rfl,?_⟩
    refine⟨_,_,.inl q6,rfl,by decide,B7 (fun _=>?_) (fun _=>?_)⟩
    ·exact⟨(show 3<=sizeLine by decide),fun p hp=>k _ i (.write z) p (S7.trans (Same.upd hp)) hi hz ⟨.non,SqT.of Ad,aX⟩⟩
    ·refine⟨_,_,.inl q6,rfl,n5,szC (.txt o') - m,cf7 _ _ _,hn5,by omega,fun m2 H7 S8 hm2=>?_⟩
     exact⟨(show 5<=sizeLine by decide),fun p hp=>k _ i (.splice m m2 z) p ((S7.trans S8).trans (Same.upd hp)) hi ⟨hm,hm2,hz⟩ ⟨.non,SqT.of Ad,aX⟩⟩
   | tab tb=>
    obtain⟨b,xs,rfl,qb,hl,_,hg⟩:=C8 hy6
    obtain⟨b0,q0,q0'⟩:=hg 0 hw.1
    obtain⟨m',m1,m6,hwd,hr⟩:=Nm hw
    have w0:=Va tb
    rw [hwd] at w0
    have t1:1<=tb.length:=hw.1
    have t6:tb.length<=6:=hw.2.1
    refine⟨.type "tuple", true,.sqT rfl qb rfl,rfl,?_⟩
    refine⟨_,_,.inl q6,rfl,by decide,B7 (fun _=>?_) (fun _=>?_)⟩
    ·refine⟨_,_,.inl q6,rfl,n2,tb.length - 1,bn1 t1 _,hn2,by omega,fun r H7 S8 hr'=>?_⟩
     refine⟨_,_,.inl (S8.seqL q6),rfl,_,_,.inr (S8.seqT qb),A4 q0,.inl ⟨_,.inr (S8.seqT q0'),n5,m' - 1,by rw [w0];exact bn1 m1 _,hn5,by omega,fun c' H8 S9 hc'=>?_⟩⟩
     exact⟨(show 5<=sizeLine by decide),fun p hp=>k _ i (.cell r c' z) p (((S7.trans S8).trans S9).trans (Same.upd hp)) hi ⟨hr',hc',hz⟩ ⟨.non,SqT.of Ad,aX⟩⟩
    ·refine⟨_,_,.inl q6,rfl,by decide,B7 (fun _=>?_) (fun _=>?_)⟩
     ·refine⟨_,_,.inr qb,A4 q0,.inl ⟨_,.inr q0',_,_,.inl q6,rfl,by decide,(show 2<=sizeLine by decide),fun p hp=>?_⟩⟩
      have Sp:=Same.upd (o:=.lst [.int (((tb.getD 0 []).map V.str).length:Nat),.int (1+n5 % 6)]) hp
      have ep:upd H6 p (.lst [.int (((tb.getD 0 []).map V.str).length:Nat),.int (1+n5 % 6)]) p=some (.lst [.int (((tb.getD 0 []).map V.str).length:Nat),.int (1+n5 % 6)]):=Ad
      generalize upd H6 p (.lst [.int (((tb.getD 0 []).map V.str).length:Nat),.int (1+n5 % 6)])=H7 at Sp ep ⊢
      have q7:=Sp.seqL q6
      obtain⟨wd,wd1,wd6,ev⟩:=by6 (decide (n5 / 6 % 4=0)) (x:=(((tb.getD 0 []).map V.str).length:Nat)) (y:=1+n5 % 6) (by omega) (by omega)
      refine⟨_,_,.inl q7,rfl,⟨by decide,by decide⟩,by decide,_,_,.inl (SqL.of ep),ev,⟨by omega,by omega⟩,fun D hD=>?_⟩
      rw [cP]
      refine Hw (Gg 0 wd) (fun j σ' H'=>(∃ v,σ'=[v,some (.ref l)])/\Same H7 H' /\ ∃ zs:List Str,zs.length=j/\(∀ z∈zs,wfS z)/\H' D=some (.lst (zs.map V.str))) ⟨⟨_,rfl⟩,Same.upd hD,[],rfl,(fun z hz=>by cases hz),Ad⟩ (fun _ _ _ _ _=>aX) ?_ ?_
      ·rintro j xj σ' H8 hxj ⟨⟨v,rfl⟩,S8,zs,e1,e2,e3⟩
       obtain⟨hj,rfl⟩:=Nb hxj
       refine⟨_,_,.inl (S8.seqL q7),rfl,_,rfl,fun z' H9 S9 hz'=>?_⟩
       refine⟨_,S9 _ _ e3,?_,⟨_,rfl⟩,(S8.trans S9).set hD,zs++[z'],by rw [aH,e1];rfl,fun z2 hz2=>?_,by rw [Ad,bn];rfl⟩
       ·rw [aw,e1];exact av (show j<6 by omega) (by decide)
       ·rcases List.mem_append.mp hz2 with q|q
        ·exact e2 z2 q
        ·have:z2=z':=by simpa using q
         subst this;exact hz'
      ·rintro σ' H8 ⟨_,S8,zs,e1,e2,e3⟩
       rw [Cj] at e1
       exact⟨_,.inl ⟨SqL.of e3,fun rt hrt=>⟨(show 4<=sizeLine by decide),fun p hp=>k _ i (.addrow m zs) p ((((S7.trans Sp).trans S8).trans (Same.upd hrt)).trans (Same.upd hp)) hi ⟨hm,by omega,by omega,e2⟩ ⟨.ref rt,SqT.of Ad,D1 (Same.upd hp) (Fq (SqT.of Ad))⟩⟩⟩⟩
     ·refine⟨_,_,.inl q6,rfl,n2,tb.length - 1,bn1 t1 _,hn2,by omega,fun r H7 S8 hr'=>?_⟩
      exact⟨(show 3<=sizeLine by decide),fun p hp=>k _ i (.cutrow r) p ((S7.trans S8).trans (Same.upd hp)) hi hr' ⟨.non,SqT.of Ad,aX⟩⟩
end
end K24
set_option maxHeartbeats 4000000
namespace K24
open PySem L2
section
variable {P:aE} {w:bq} {K:aa} {mg:Str->Option Value} {base:Heap} {t:Adr}
theorem Tp (r:List Str):dep (Dz r)<=1:=by
 unfold Dz dep
 exact dI (Eh Eg r)
theorem Tq (tb:Tb):dep (Kl tb)<=2:=by
 unfold Kl dep
 exact dI (Eh Tp tb)
theorem a12 (c:Ct):dep (ctD c)<=2:=by
 cases c with
 | txt z=>exact aD (Eg z) (by decide)
 | tab tb=>exact Tq tb
theorem bn4 (tb:Tb) (z:Str):deq (Kl tb) (B0 z)=false:=by unfold Kl B0 deq;rfl
theorem Ms (e:Ed):inV (.str (edW e)) [.str "cell", .str "addrow", .str "cutrow"]=Bs e:=by cases e <;> rfl
theorem at4 {a b:V} {c:Prop} [Decidable c]:atI [a,b] (if decide c=true then 1 else 0)=some (if c then b else a):=by
 by_cases h:c
 ·rw [if_pos h,decide_eq_true h];rfl
 ·rw [if_neg h,decide_eq_false h];rfl
theorem Ia {H H1:Hp} {S:Rs} {i:Nat} {e:Ed} {d:Due} {Q:VK} {z:Str} (S1:Same H H1) (k:∀ H' q,Same H H'->aw9 K H' (A3 S i e) q->Q (.ref q) H') (hd:A3 S i e=d) (hz:z=D8 d) (hn:D3 d≠none):∀ q,H1 q=none->Q (.ref q) (upd H1 q (.tup [.str z,.str ""])):=fun q hq=>by
 subst hz hd
 refine k _ q (S1.trans (Same.upd hq)) ⟨.str "", SqT.of Ad,?_⟩
 cases h:A3 S i e <;> first|rfl|(rw [h] at hn;exact (hn rfl).elim)
theorem ab6 {H H1:Hp} {S:Rs} {i:Nat} {e:Ed} {Q:VK} {c:Prop} [Decidable c] {y:V} {ct:Ct} {t1 t2 l:Addr} (S1:Same H H1) (k:∀ H' q,Same H H'->aw9 K H' (A3 S i e) q->Q (.ref q) H') (hd:A3 S i e=if c then .long else .good ct) (hy:At K H1 (ctD ct) y)
  (h1:H1 t1=none) (h2:upd H1 t1 (.tup [.str "good", y]) t2=none) (h3:upd (upd H1 t1 (.tup [.str "good", y])) t2 (.tup [.str "long", .str ""]) l=none) :
  Q (if c then .ref t2 else .ref t1) (upd (upd (upd H1 t1 (.tup [.str "good", y])) t2 (.tup [.str "long", .str ""])) l (.lst [.ref t1,.ref t2])):=by
 have a1:=Same.upd (o:=.tup [.str "good", y]) h1
 have a2:=Same.upd (o:=.tup [.str "long", .str ""]) h2
 have a3:=Same.upd (o:=.lst [.ref t1,.ref t2]) h3
 have sa:=(a1.trans a2).trans a3
 by_cases hc:c
 ·rw [if_pos hc] at hd ⊢
  exact k _ _ (S1.trans sa) (by rw [hd];exact⟨.str "", a3.seqT (SqT.of Ad),rfl⟩)
 ·rw [if_neg hc] at hd ⊢
  exact k _ _ (S1.trans sa) (by rw [hd];exact⟨y,(a2.trans a3).seqT (SqT.of Ad),D1 sa hy⟩)
theorem a82 {f:Addr} {fd:ai} (Z:Facts K t) (F:FunD K "_law_due" "_law_due" Kd f fd .none) (T:Tab P w K mg base 1 (Ha K t) bl):FnOk P w K mg base CX0 2 f fd Oo (Su K t):=by
 refine F.okW0 bm0 br4 T (bh9 K t) (fun vs H Q E h=>?_) (fun vs H Q E h=>?_)
 ·obtain⟨d,p,S,i,e,rfl,_⟩:=h;rfl
 ·obtain⟨d,p,S,i,e,rfl,hR,o,hT,ho,k⟩:=h
  obtain⟨x,q,hx⟩:=id hT
  refine⟨_,.str (nm i),.inr q,A4 (i:=1) rfl,.inr ?_⟩
  by_cases hi:i<3
  ·obtain⟨r,er⟩:=o.at hi
   obtain⟨v,g,hv⟩:=hR.get o er
   obtain⟨ra,y,rfl,qr,hy⟩:=F8 hv
   have hw:r.ct.wf:=(o.rc er).1
   have due:=Pc (e:=e) er
   refine⟨_,g,_,.str (nm i),.inr q,A4 (i:=1) rfl,_,g,_,_,.inr qr,rfl,?_⟩
   cases hc:r.ct with
   | txt o'=>
    rw [hc] at hy hw due
    have:=Kn hy
    subst this
    refine⟨rfl,_,.str (edW e),.inr q,A4 (i:=0) rfl,(show 3<=sizeLine by decide),fun tp htp=>.inl ⟨tp,_,rfl,.inr (SqT.of Ad),rfl,rfl,?_⟩⟩
    have S1:=Same.upd (o:=.tup [.str "cell", .str "addrow", .str "cutrow"]) htp
    generalize upd H tp (.tup [.str "cell", .str "addrow", .str "cutrow"])=H1 at S1 ⊢
    have q1:=S1.seqT q
    refine B7 (c:=(!(false==inV (.str (edW e)) [.str "cell", .str "addrow", .str "cutrow"]))=true) (fun g=>?_) (fun g=>?_)
    ·rw [Ms] at g
     exact⟨(show 2<=sizeLine by decide),Ia S1 k (d:=.wrong) (due.trans (at0 (by simpa using g) rfl)) rfl (by decide)⟩
    ·rw [Ms] at g
     refine⟨rfl,?_⟩
     cases e with
     | write z=>
      rw [Pn ho] at due
      exact⟨_,_,.inr q1,rfl,_,_,.inr q1,rfl,(show 2<=sizeLine by decide),fun u hu=>k _ u (S1.trans (Same.upd hu)) (by rw [due];exact⟨_,SqT.of Ad,Bf⟩)⟩
     | splice m n z=>
      rw [Ug (e:=.splice m n z) o' rfl,M0] at due
      have lo:o'.length<=sizeLine:=aD hw.1 (by decide)
      refine⟨_,_,.inr q1,rfl,_,_,.inr q1,rfl,_,_,.inr q1,rfl,lo,B7 (fun g1=>?_) (fun g1=>?_)⟩
      ·have g1:(o'.length:Int)<(m:Int)+(n:Int):=of_decide_eq_true g1
       rw [if_pos (by omega)] at due
       exact⟨(show 2<=sizeLine by decide),Ia S1 k (d:=.far) due rfl (by decide)⟩
      ·have g1:¬ (o'.length:Int)<(m:Int)+(n:Int):=fun h=>g1 (decide_eq_true h)
       rw [if_neg (by omega)] at due
       have sl:=U6 (p:=m) (n:=n) (z:=z) (o:=o') (by omega)
       have hz:=ho.2.2.1
       have h60:=hw.1
       have hc1:(d_ o' none (some (m:Int))).length=m:=by rw [<- B9,Yz (by omega),aZ,B9];omega
       have hc2:(d_ o' (some ((m:Int)+(n:Int))) none).length<=60:=by rw [<- B9,O5 (by omega) (by omega),br,B9];omega
       have big:1000<=sizeLine:=by decide
       refine⟨_,_,.inr q1,rfl,lo,_,_,.inr q1,rfl,by omega,_,_,.inr q1,rfl,_,_,.inr q1,rfl,lo,?_,(show 2<=sizeLine by decide),fun t1 h1=>⟨(show 2<=sizeLine by decide),fun t2 h2=>⟨(show 2<=sizeLine by decide),fun l hl=>⟨?_,_,_,.inl (SqL.of Ad),at4,ab6 (c:=(60:Int)<((spl m n z o').length:Int)) (ct:=.txt (spl m n z o')) S1 k (due.trans ?_) Bf h1 h2 hl⟩⟩⟩⟩
       ·rw [Hf];omega
       ·exact aD (show (spl m n z o').length<=1000 by omega) big
       ·show (if 60<(spl m n z o').length then Due.long else .good (.txt (spl m n z o')))=_
        by_cases h:60<(spl m n z o').length
        ·rw [if_pos h,if_pos (by omega)]
        ·rw [if_neg h,if_neg (by omega)]
     | _=>cases g rfl
   | tab tb=>
    rw [hc] at hy hw due
    obtain⟨b,xs,rfl,qb,hl,_⟩:=C8 hy
    refine⟨.type "tuple", true,.sqT rfl qb rfl,rfl,_,.str (edW e),.inr q,A4 (i:=0) rfl,(show 3<=sizeLine by decide),fun tp htp=>.inl ⟨tp,_,rfl,.inr (SqT.of Ad),rfl,rfl,?_⟩⟩
    have S1:=Same.upd (o:=.tup [.str "cell", .str "addrow", .str "cutrow"]) htp
    generalize upd H tp (.tup [.str "cell", .str "addrow", .str "cutrow"])=H1 at S1 ⊢
    refine B7 (c:=(!(true==inV (.str (edW e)) [.str "cell", .str "addrow", .str "cutrow"]))=true) (fun g=>?_) (fun g=>?_)
    ·rw [Ms] at g
     exact⟨(show 2<=sizeLine by decide),Ia S1 k (d:=.wrong) (due.trans (as9 (by simpa using g) rfl)) rfl (by decide)⟩
    ·rw [Ms] at g
     have ht:Bs e=true:=by simpa using g
     rw [Pm tb ht] at due
     refine⟨.type "tuple", true,.sqT rfl (S1.seqT qb) rfl,rfl,.ref b,p,tb,i,e,rfl,D1 S1 hy,hw,hT.up S1,ho,ht,fun hn H2 S2=>?_,fun tb' hn H2 y S2 hy2=>?_⟩
     ·rw [hn] at due
      exact⟨(show 2<=sizeLine by decide),Ia (S1.trans S2) k (d:=.far) due rfl (by decide)⟩
     ·rw [hn] at due
      obtain⟨b2,xs2,rfl,qb2,hl2,_⟩:=C8 hy2
      refine⟨Kl tb',B0 "far", hy2,Bf,aD (Tq _) (by decide),Zw (bn4 tb' "far") ?_⟩
      refine⟨(show 2<=sizeLine by decide),fun t1 h1=>⟨(show 2<=sizeLine by decide),fun t2 h2=>⟨(show 2<=sizeLine by decide),fun l hl0=>.inl ⟨xs2,.inr ((((Same.upd h1).trans (Same.upd h2)).trans (Same.upd hl0)).seqT qb2),_,_,.inl (SqL.of Ad),at4,ab6 (c:=(6:Int)<(xs2.length:Int)) (ct:=.tab tb') (S1.trans S2) k (due.trans ?_) hy2 h1 h2 hl0⟩⟩⟩⟩
      show (if 6<tb'.length then Due.long else .good (.tab tb'))=_
      by_cases h:6<tb'.length
      ·rw [if_pos h,if_pos (by omega)]
      ·rw [if_neg h,if_neg (by omega)]
  ·refine⟨_,hR.no o (bI (by have:=o.1;omega)),(show 2<=sizeLine by decide),Ia (Same.refl _) k (d:=.noPart) (Y6 (bI (by have:=o.1;omega))) rfl (by decide)⟩
theorem Oz {H:Hp} {b:Bool}:At K H (.at_ (.bl b)) (.bl b):=by unfold At;exact⟨rfl,rfl⟩
theorem cd6 (a b c d:Bool):B3 [.at_ (.bl a),.at_ (.bl b),.at_ (.bl c),.at_ (.bl d)]<=40:=by simp [B3,dep]
theorem cd4:∀ m,m<4->decide (((([Dt.at_ (.bl (decide (0=m))),.at_ (.bl (decide (1=m))),.at_ (.bl (decide (2=m))),.at_ (.bl (decide (3=m)))].countP fun c=>deq c (.at_ (.bl true))):Nat):Int)=1)=true:=by decide +kernel
theorem ix4:∀ m,m<4->eqV ([V.bl (decide (0=m)),.bl (decide (1=m)),.bl (decide (2=m)),.bl (decide (3=m))].getD m .non) (.bl true)=true:=by decide +kernel
theorem ce3:∀ m,m<4 -> ∀ j,j<m->eqV ([V.bl (decide (0=m)),.bl (decide (1=m)),.bl (decide (2=m)),.bl (decide (3=m))].getD j .non) (.bl true)=false:=by decide +kernel
noncomputable def a19 (K:aa) (t:Adr):DS:=(Ah (A2 5 (dUn (Ao K "part") (Ac 7))) (Ah (A2 6 (dUn (Ao K "choice") (Ac 7))) (Ah (A2 4 (dC (.str "other"))) (Ah (A2 8 (Dg (Ab (dFn (fun vs H Q _=>(Dx K) vs H Q) (Ab (Ac 7) (Ab (dC (.ref t.c_zca)) Ag))) (Ab (dFn (fun vs H Q _=>(Dx K) vs H Q) (Ab (Ac 7) (Ab (dC (.ref t.c_zbv)) Ag))) (Ab (dFn (fun vs H Q _=>(Dx K) vs H Q) (Ab (Ac 7) (Ab (dC (.ref t.c_zcf)) Ag))) (Ab (dFn (fun vs H Q _=>(Dx K) vs H Q) (Ab (Ac 7) (Ab (dC (.ref t.c_zbx)) Ag))) Ag)))))) (Ah (dIf (A5 (Ae (Bj K false) (dMt (rMt K [⟨"list", "list.count", Je K⟩]) (Ac 8) (Ab (dC (.bl true)) Ag)) (dC (.int 1)))) (Ah (A2 4 (Ae (Am K) (Dg (Ab (dC (.str "no part")) (Ab (dC (.str "wrong kind")) (Ab (dC (.str "far")) (Ab (dC (.str "long")) Ag))))) (dMt (rMt K [⟨"list", "list.index", Jf⟩]) (Ac 8) (Ab (dC (.bl true)) Ag)))) Af) Af) Af)))))
theorem Lh (Z:Facts K t) {due:Due} {i m:Nat} {n:V} {C x:Addr} {D:Hs} {H:Hp} {a p b v7 v8:Option V} {v4 v5 v6:Option V} (hb:D3 due=some m) (hC:(O0 t)[m]? = some C) (f:bs7 H x C i n)
  (k:∀ H' v,Same H H'->D.nx [a,p,some n,b,some (.str (D8 due)),some (.str (nm i)),some n,none,v] H'):asD x (a19 K t) (.as 7) D [a,p,some n,b,v4,v5,v6,v7,v8] H:=by
 obtain⟨dx,ne,e1,e2⟩:=f
 obtain⟨ec,n1,n2,mr,kit⟩:=Z.bx m C hC
 have ex:ExcAt H x C [("part", .str (nm i)),("choice", n)]:=.inr ⟨dx,ne,.inr (.inl e1),e2⟩
 have k0:=kit 0 _ rfl
 have k1:=kit 1 _ rfl
 have k2:=kit 2 _ rfl
 have k3:=kit 3 _ rfl
 refine Or.inr ⟨C,_,.str (nm i),ex,ec,n1,rfl,Or.inr ⟨C,_,n,ex,ec,n2,rfl,?_⟩⟩
 refine .inl ⟨.ref C,_,.exc rfl ex ec rfl,k0,.inl ⟨.ref C,_,.exc rfl ex ec rfl,k1,.inl ⟨.ref C,_,.exc rfl ex ec rfl,k2,.inl ⟨.ref C,_,.exc rfl ex ec rfl,k3,(show 4<=sizeLine by decide),fun l hl=>?_⟩⟩⟩⟩
 have S1:=Same.upd (o:=.lst [.bl (decide (0=m)),.bl (decide (1=m)),.bl (decide (2=m)),.bl (decide (3=m))]) hl
 have el:upd H l (.lst [.bl (decide (0=m)),.bl (decide (1=m)),.bl (decide (2=m)),.bl (decide (3=m))]) l=some (.lst [.bl (decide (0=m)),.bl (decide (1=m)),.bl (decide (2=m)),.bl (decide (3=m))]):=Ad
 generalize upd H l (.lst [.bl (decide (0=m)),.bl (decide (1=m)),.bl (decide (2=m)),.bl (decide (3=m))])=H1 at S1 el ⊢
 have h4:m<4:=by
  cases due <;> first|(cases hb;done)|(cases hb;decide)
 have hwd:atI [V.str "no part", .str "wrong kind", .str "far", .str "long"] (m:Int)=some (.str (D8 due)):=by
  cases due <;> first|(cases hb;done)|(cases hb;rfl)
 refine⟨.inl ⟨rfl,_,SqL.of el⟩,l,.bl true,_,.at_ (.bl true),_,rfl,rfl,SqL.of el,Al Oz (Al Oz (Al Oz (Al Oz Aw))),Oz,cd6 _ _ _ _,Zx (cd4 m h4) ?_⟩
 exact⟨(show 4<=sizeLine by decide),fun q hq=>⟨.inl ⟨rfl,_,SqL.of (Same.upd hq _ _ el)⟩,l,_,.bl true,rfl,rfl,Same.upd hq _ _ el,rfl,rfl,m,h4,ix4 m h4,ce3 m h4,_,_,.inl (SqL.of Ad),hwd,k _ _ (S1.trans (Same.upd hq))⟩⟩
theorem a78 {f:Addr} {fd:ai} (Z:Facts K t) (F:FunD K "_law_told" "_law_told" J9 f fd .none) (T:Tab P w K mg base 7 (Fv K t) bl):FnOk P w K mg base CX0 8 f fd Oi (Nh K t):=by
 refine F.okW0 bl5 bq9 T (bh4 K t) (fun vs H Q E h=>?_) (fun vs H Q E h=>?_)
 ·obtain⟨a,p,d,S,i,e,n,b,rfl,_⟩:=h;rfl
 ·obtain⟨a,p,d,S,i,e,n,b,rfl,hE,ho,hP,o,k⟩:=h
  have rb:∀ m,D3 (A3 S i e)=some m->He (A3 S i e) i (.int n)=[.str (D8 (A3 S i e)),.str (nm i),.int n]:=fun m h=>by unfold He;rw [h]
  have rg:D3 (A3 S i e)=none->He (A3 S i e) i (.int n)=[.str "good", .non,.non]:=fun h=>by unfold He;rw [h]
  cases b with
  | true=>
   refine ab1 (i0:=Ih K t) hE (fun x=>by cases e <;> rfl) ⟨ae _,(show 3<=4 by decide)⟩ ⟨a,p,d,S,i,e,.int n,rfl,hE,ho,hP,o,fun h H1 S1=>?_,fun m C h1 h2 H' x S' f=>⟨x,rfl,C,?_⟩⟩
   ·rw [rg h] at k
    exact⟨(show 3<=sizeLine by decide),fun q hq=>k _ q (S1.trans (Same.upd hq)) (SqT.of Ad)⟩
   ·rw [rb m h1] at k
    obtain⟨dx,ne,e1,e2⟩:=id f
    obtain⟨ec,n1,n2,mr,kit⟩:=Z.bx m C h2
    exact⟨some dx,.inl e1,ec,true,mr,Lh Z h1 h2 f fun H2 v S2=>⟨(show 3<=sizeLine by decide),fun q hq=>k _ q ((S'.trans S2).trans (Same.upd hq)) (SqT.of Ad)⟩⟩
  | false=>
   refine ab1 (i0:=Lj K t) hE (fun x=>by cases e <;> rfl) ⟨ae _,(show 3<=4 by decide)⟩ ⟨a,p,d,S,i,e,.int n,rfl,hE,ho,hP,o,fun h H1 B1 R1=>?_,fun m C h1 h2 H' x S' f=>⟨x,rfl,C,?_⟩⟩
   ·rw [rg h] at k
    exact⟨(show 3<=sizeLine by decide),fun q hq=>k _ q ⟨B1.trans (But.of (Same.upd hq)),R1.up (Same.upd hq)⟩ (SqT.of Ad)⟩
   ·rw [rb m h1] at k
    obtain⟨dx,ne,e1,e2⟩:=id f
    obtain⟨ec,n1,n2,mr,kit⟩:=Z.bx m C h2
    have up:upS S i (A3 S i e)=S:=by
     cases hd:A3 S i e <;> first|rfl|(rw [hd] at h1;cases h1)
    exact⟨some dx,.inl e1,ec,true,mr,Lh Z h1 h2 f fun H2 v S2=>⟨(show 3<=sizeLine by decide),fun q hq=>k _ q ⟨But.of ((S'.trans S2).trans (Same.upd hq)),by rw [up];exact hP.2.up ((S'.trans S2).trans (Same.upd hq))⟩ (SqT.of Ad)⟩⟩
theorem aa1 {j:Nat} {x:V} (h:[V.str "a", .str "a.b", .str "t"][j]? = some x):j<3/\x=.str (nm j):=by
 match j,h with
 | 0,h=>cases h;exact⟨by decide,rfl⟩
 | 1,h=>cases h;exact⟨by decide,rfl⟩
 | 2,h=>cases h;exact⟨by decide,rfl⟩
theorem Bt {x:Dt} {xs:List Dt} {n:Nat} (h:dep x<=n) (g:B3 xs<=n):B3 (x::xs)<=n:=by
 unfold B3
 exact Nat.max_le.mpr ⟨h,g⟩
theorem a13 (r:Rc):dep (rcD r)<=3:=by
 unfold rcD dep
 refine dI (Bt (aD (Eg _) (by decide)) (Bt (aD (Eg _) (by decide)) (Bt ?_ (Bt (a12 _) ?_))))
 ·unfold Gq dep;decide
 ·unfold B3;decide
theorem a14 (S:Rs):dep (.lst (S.map rcD))<=40:=by
 have:=Eh a13 S
 unfold dep
 omega
theorem Yq {H:Hp} {l:Addr} {xs:List V} {ds:List Dt} (q:SqL K H l xs) (g:AtL K H ds xs):At K H (.lst ds) (.ref l):=by
 unfold At
 exact⟨l,xs,rfl,q,g⟩
theorem ap5 {S:Rs} {j:Nat} {r:Rc} (h:S[j]? = some r):(S.take (j+1)).map rcD=(S.take j).map rcD++[rcD r]:=by
 rw [fQ,h,bn]
 rfl
theorem cf6 {H:Hp} {S:Rs} {L1 L2:Addr} {xs ys:List V} {Q:VK} (e1:H L1=some (.lst xs)) (g1:AtL K H (S.map rcD) xs) (e2:H L2=some (.lst ys)) (g2:AtL K H (S.map rcD) ys) (k:Q (.bl true) H):Pz K false (.ref L1) (.ref L2) H Q:=by
 have a1:=Yq (SqL.of e1) g1
 refine⟨_,_,a1,Yq (SqL.of e2) g2,a14 S,?_⟩
 rw [Dh a1]
 exact k
noncomputable def SoAt (K:aa) (H0:Hp) (D:Addr) (S:Rs) (j:Nat) (H':Hp):Prop:=Same H0 H' /\ ∃ xs,H' D=some (.lst xs)/\xs.length=j/\AtL K H' ((S.take j).map rcD) xs
theorem SoAt.put {H0 H':Hp} {D:Addr} {S:Rs} {j:Nat} {r:Rc} {x:V} (h:SoAt K H0 D S j H') (hD:H0 D=none) (er:S[j]? = some r) (hx:At K H' (rcD r) x) (hj:j<3):∃ ys,H' D=some (.lst ys)/\ys.length<sizeLine/\SoAt K H0 D S (j+1) (upd H' D (.lst (ys++[x]))):=by
 obtain⟨s,xs,e,l,g⟩:=h
 refine⟨xs,e,av (show xs.length<3 by omega) (by decide),s.set hD,xs++[x],Ad,by rw [aH,l];rfl,?_⟩
 rw [ap5 er]
 exact Bp (Dy (TKeep.lst e) g) (Al (Uw (TKeep.lst e) hx) Aw)
theorem a86 {f:Addr} {fd:ai} (Z:Facts K t) (F:FunD K "_law_so" "_law_so" Kh f fd .none) (T:Tab P w K mg base 3 (Fu K t) bl):FnOk P w K mg base CX0 4 f fd Ot (Ni K t):=by
 refine F.okW0 bm4 br8 T (bi3 K t) (fun vs H Q E h=>?_) (fun vs H Q E h=>?_)
 ·obtain⟨p,d,d0,S,rfl,_⟩:=h;rfl
 ·obtain⟨p,d,d0,S,rfl,hP,hR,o,k⟩:=h
  obtain⟨⟨dp,ep⟩,_⟩:=id hP
  have s3:S.take 3=S:=cx (by have:=o.1;omega)
  refine⟨p,dp,_,⟨t.c_zcc,Zo K t⟩,rfl,.head _,ep,rfl,⟨ae _,ae _⟩,p,d,S,rfl,hP,o,fun l hl=>⟨(show 3<=sizeLine by decide),fun l2 hl2=>?_⟩⟩
  have S1:=(Same.upd (o:=.lst (nms.map V.str)) hl).trans (Same.upd (o:=.lst [.str "a", .str "a.b", .str "t"]) hl2)
  have e1:=Same.upd (o:=.lst [.str "a", .str "a.b", .str "t"]) hl2 _ _ (Ad (H:=H) (a:=l) (o:=.lst (nms.map V.str)))
  have e2:upd (upd H l (.lst (nms.map V.str))) l2 (.lst [.str "a", .str "a.b", .str "t"]) l2=some (.lst [.str "a", .str "a.b", .str "t"]):=Ad
  generalize upd (upd H l (.lst (nms.map V.str))) l2 (.lst [.str "a", .str "a.b", .str "t"])=H1 at S1 e1 e2 ⊢
  refine .inl ⟨l,l2,_,_,rfl,rfl,SqL.of e1,SqL.of e2,rfl,rfl,Zw (show (!Ml (nms.map V.str) [.str "a", .str "a.b", .str "t"])=false by decide +kernel) ?_⟩
  refine⟨(show 3<=sizeLine by decide),fun l3 hl3=>.inl ⟨⟨_,SqL.of Ad⟩,fun D hD=>?_⟩⟩
  have S2:=S1.trans (Same.upd (o:=.lst [.str "a", .str "a.b", .str "t"]) hl3)
  have e3:upd H1 l3 (.lst [.str "a", .str "a.b", .str "t"]) l3=some (.lst [.str "a", .str "a.b", .str "t"]):=Ad
  generalize upd H1 l3 (.lst [.str "a", .str "a.b", .str "t"])=H2 at S2 e3 hD ⊢
  refine Hw (Hq [V.str "a", .str "a.b", .str "t"]) (fun j σ' H'=>(∃ v,σ'=[v,some (.ref p)])/\SoAt K H2 D S j H') ⟨⟨_,rfl⟩,Same.upd hD,[],Ad,rfl,Aw⟩ (fun i σ' H' _ h=>h.2.1.seqL (SqL.of e3)) ?_ ?_
  ·rintro j x σ' H3 hx ⟨⟨v,rfl⟩,A⟩
   obtain⟨hj,rfl⟩:=aa1 hx
   obtain⟨r,er⟩:=o.at hj
   have S3:=S2.trans A.1
   refine⟨p,dp,_,⟨t.c_zcc,Ig K t⟩,rfl,.head _,S3 _ _ ep,rfl,⟨ae _,ae _⟩,p,d,S,j,r,rfl,hP.up S3,o,er,fun x hx=>?_⟩
   obtain⟨ys,h1,h2,h3⟩:=A.put hD er hx hj
   exact⟨ys,h1,h2,⟨_,rfl⟩,h3⟩
  ·rintro σ' H3 ⟨_,S3,xs1,ex1,_,g1⟩
   rw [show [V.str "a", .str "a.b", .str "t"].length=3 from rfl,s3] at g1
   refine⟨(show 3<=sizeLine by decide),fun l4 hl4=>.inl ⟨⟨_,SqL.of Ad⟩,fun D2 hD2=>?_⟩⟩
   have S4:=Same.upd (o:=.lst [.str "a", .str "a.b", .str "t"]) hl4
   have e4:upd H3 l4 (.lst [.str "a", .str "a.b", .str "t"]) l4=some (.lst [.str "a", .str "a.b", .str "t"]):=Ad
   generalize upd H3 l4 (.lst [.str "a", .str "a.b", .str "t"])=H4 at S4 e4 hD2 ⊢
   have S5:=(S2.trans S3).trans S4
   refine Hw (Hq [V.str "a", .str "a.b", .str "t"]) (fun j σ' H'=>(∃ v,σ'=[v,some (.ref d0)])/\SoAt K H4 D2 S j H') ⟨⟨_,rfl⟩,Same.upd hD2,[],Ad,rfl,Aw⟩ (fun i σ' H' _ h=>h.2.1.seqL (SqL.of e4)) ?_ ?_
   ·rintro j x σ' H5 hx ⟨⟨v,rfl⟩,A⟩
    obtain⟨hj,rfl⟩:=aa1 hx
    obtain⟨r,er⟩:=o.at hj
    obtain⟨x,gx,hx⟩:=(hR.up (S5.trans A.1)).get o er
    obtain⟨ys,h1,h2,h3⟩:=A.put hD2 er hx hj
    exact⟨x,gx,ys,h1,h2,⟨_,rfl⟩,h3⟩
   ·rintro σ' H5 ⟨_,S6,xs2,ex2,_,g2⟩
    rw [show [V.str "a", .str "a.b", .str "t"].length=3 from rfl,s3] at g2
    exact .inr (.inl (cf6 (S6 _ _ (S4 _ _ ex1)) (Bz (S4.trans S6) g1) ex2 g2 (k _ (S5.trans S6))))
theorem Zy (Z:Facts K t) (e:Ed):ce K (.ref (edC t e)) (.ref t.c_Edit)=some true:=by
 have hm:=(Z.ed _ (Cn e)).2.1.2.2
 unfold ce
 by_cases q:(aC (edC t e)==aC t.c_Edit)=true
 ·rw [if_pos q]
 ·rw [if_neg q]
  unfold PySem.W.kitCls
  dsimp only
  have hs:(PySem.W.clsIn K t.c_Edit).isSome=true:=by
   have:=Z.mr
   unfold aV at this
   cases q:PySem.W.clsIn K t.c_Edit with
   | none=>rw [q] at this;cases this
   | some c=>rfl
  rw [hs,Z.ty,if_pos (by rfl)]
  exact hm
theorem ap6 (Z:Facts K t) {H:Hp} {i:Nat} {e:Ed} {a:Addr} (hE:EdAt K t H i e a):TyX K H (.ref a) (.ref (edC t e)):=by
 obtain⟨dx,x,ea,_⟩:=hE
 obtain⟨c,⟨c1,c2,_⟩,_⟩:=Z.ed _ (Cn (t:=t) e)
 exact .of (.ins ea c c1 Z.hn Z.htk c2)
theorem ah7 {H:Hp} {i:Nat} {e:Ed} {a:Addr} {Q:VK} {E:EK} (hE:EdAt K t H i e a) (k:∀ H' p,Same H H'->TdAt K H' i e p->Q (.ref p) H') :
  ∃ a' dx fs mi,V.ref a=.ref a'/\mi∈F0 K t/\H a'=some (.ins mi.C dx fs)/\fs.lookup ("told" : Str)=none/\(0+1<=mi.i.ps.length/\mi.i.ps.length<=0+1+mi.i.dfs.length)/\spE mi.i.sp (mi.i.dfs.drop (0+1+mi.i.dfs.length - mi.i.ps.length)) [.ref a'] H Q E:=by
 obtain⟨dx,x,ea,hx⟩:=id hE
 cases e with
 | write z=>exact⟨a,dx,_,⟨t.c_zcd,Zq K t⟩,rfl,.head _,ea,rfl,⟨ae _,ae _⟩,a,i,.write z,rfl,rfl,hE,k⟩
 | splice m n z=>exact⟨a,dx,_,⟨t.c_zcb,Zp K t⟩,rfl,.tail _ (.head _),ea,rfl,⟨ae _,ae _⟩,a,i,.splice m n z,rfl,rfl,hE,k⟩
 | cell m n z=>exact⟨a,dx,_,⟨t.c_zce,Zr K t⟩,rfl,.tail _ (.tail _ (.head _)),ea,rfl,⟨ae _,ae _⟩,a,i,.cell m n z,rfl,rfl,hE,k⟩
 | addrow m n=>exact⟨a,dx,_,⟨t.c_zby,Zm K t⟩,rfl,.tail _ (.tail _ (.tail _ (.head _))),ea,rfl,⟨ae _,ae _⟩,a,i,.addrow m n,rfl,rfl,hE,k⟩
 | cutrow m=>exact⟨a,dx,_,⟨t.c_zbz,Zn K t⟩,rfl,.tail _ (.tail _ (.tail _ (.tail _ (.head _)))),ea,rfl,⟨ae _,ae _⟩,a,i,.cutrow m,rfl,rfl,hE,k⟩
noncomputable def edD:Ed->List Dt
 | .write z=>[B0 z]
 | .splice p n z=>[Gq p,Gq n,B0 z]
 | .cell r c z=>[Gq r,Gq c,B0 z]
 | .addrow p r=>[Gq p,Dz r]
 | .cutrow p=>[Gq p]
theorem ah6 {H:Hp} {i:Nat} {e:Ed} {p:Addr} (h:TdAt K H i e p):At K H (.tup (B0 (edW e)::B0 (nm i)::edD e)) (.ref p):=by
 obtain⟨x,q,hx⟩:=h
 refine Ck q (Al Bf (Al Bf ?_))
 cases e with
 | write z=>exact Al Bf Aw
 | splice m n z=>exact Al Ds (Al Ds (Al Bf Aw))
 | cell m n z=>exact Al Ds (Al Ds (Al Bf Aw))
 | addrow m n=>exact Al Ds (Al hx Aw)
 | cutrow m=>exact Al Ds Aw
theorem O8 (z:Str):dep (B0 z)<=2:=aD (Eg z) (by decide)
theorem Le (z:Int):dep (Gq z)<=2:=by unfold Gq dep;decide
theorem Hy:B3 []<=2:=by unfold B3;decide
theorem a15 (i:Nat) (e:Ed):dep (.tup (B0 (edW e)::B0 (nm i)::edD e))<=40:=by
 unfold dep
 refine aD (dI (Bt (O8 _) (Bt (O8 _) (n:=2) ?_))) (by decide)
 cases e with
 | write z=>exact Bt (O8 _) Hy
 | splice m n z=>exact Bt (Le _) (Bt (Le _) (Bt (O8 _) Hy))
 | cell m n z=>exact Bt (Le _) (Bt (Le _) (Bt (O8 _) Hy))
 | addrow m n=>exact Bt (Le _) (Bt (aD (Tp _) (by decide)) Hy)
 | cutrow m=>exact Bt (Le _) Hy
theorem bt9 {H:Hp} {i:Nat} {e:Ed} {p q:Addr} {Q:VK} (h1:TdAt K H i e p) (h2:TdAt K H i e q) (k:Q (.bl false) H):Pz K true (.ref p) (.ref q) H Q:=by
 refine⟨_,_,ah6 h1,ah6 h2,a15 i e,?_⟩
 rw [Dh (ah6 h1)]
 exact k
theorem Hu {H:Hp}:∀ {xs:List V},xs.all Bd=true->AtL K H (xs.map Dt.at_) xs
 | [],_=>Aw
 | x::xs,h=>by
  rw [bj,au] at h
  exact Al (by unfold At;exact⟨rfl,h.1⟩) (Hu h.2)
theorem Tr {H:Hp} {xs:List V} {p q:Addr} {Q:VK} (h1:SqT K H p xs) (h2:SqT K H q xs) (hf:xs.all Bd=true) (k:Q (.bl false) H):Pz K true (.ref p) (.ref q) H Q:=by
 have a1:=Ck h1 (Hu (H:=H) hf)
 refine⟨_,_,a1,Ck h2 (Hu hf),?_,?_⟩
 ·have:=Eh (f:=Dt.at_) (n:=0) (fun v=>by unfold dep;exact ae _) xs
  unfold dep
  omega
 ·rw [Dh a1]
  exact k
theorem P6 (d:Due) (i:Nat) (n:Int):(He d i (.int n)).all Bd=true:=by
 unfold He
 split <;> rfl
theorem E4 (d:Due):decide (D8 d = "good")=(D3 d).isNone:=by cases d <;> rfl
theorem ak3 {c:Bool} {j:Nat} {e:DE} {D:Hs} {σ:St} {H:Hp} (W:V->Hp->Prop) (h1:c=true -> ∀ N:VK,(∀ v H',W v H'->N v H')->e σ H N (D.ex σ)) (h0:c=false -> ∃ v0,σ.set j (some v0)=σ/\W v0 H) (hR:∀ v H',W v H'->D.nx (σ.set j (some v)) H') :
  if c=true then Ah (A2 j e) Af D σ H else Af D σ H:=by
 cases c
 ·rw [if_neg (by decide)]
  obtain⟨v0,e0,w0⟩:=h0 rfl
  have:=hR v0 H w0
  rw [e0] at this
  exact this
 ·rw [if_pos rfl]
  exact h1 rfl _ hR
theorem a46 {vs:List V} {i:Nat} (h:vs.length=i) (hi:i<3) (v:V):B8 (kv3 vs) (.inr (nm i)) v=kv3 (vs++[v]):=by
 subst h
 match vs,hi with
 | [],_=>rfl
 | [a],_=>rfl
 | [a,b],_=>rfl
theorem Ph {a b c:V} {i:Nat} {x y:V} (h:((kv3 [a,b,c]).map fun q=>(kV q.1,q.2))[i]? = some (x,y)):i<3/\x=.str (nm i)/\[a,b,c][i]? = some y:=by
 match i,h with
 | 0,h=>cases h;exact⟨by decide,rfl,rfl⟩
 | 1,h=>cases h;exact⟨by decide,rfl,rfl⟩
 | 2,h=>cases h;exact⟨by decide,rfl,rfl⟩
theorem TKeep.thaw {H:Hp} {d:Addr} {o:Obj} {kvs:List (Key×V)} {u:HO} (e:H d=some (.frz o (.dK kvs))):TKeep K H (upd H d u):=fun b xs q=>by
 rcases q with (q|⟨o',q⟩)|q
 ·exact .inl (.inl (by rw [Ak (fun z=>by rw [z,e] at q;cases q)];exact q))
 ·exact .inl (.inr ⟨o',by rw [Ak (fun z=>by rw [z,e] at q;cases q)];exact q⟩)
 ·exact .inr q
theorem bs8 {i j k:Int} {y z:Str} {tb:Tb} (hy:wfS y) (hz:wfS z) (ht:wfT tb):Ok [⟨"chapter", "", i,.txt y⟩,⟨"para", "a", j,.txt z⟩,⟨"table", "", k,.tab tb⟩]:=by
 refine⟨rfl,fun r hr=>?_⟩
 simp only [ax,aK,or_false] at hr
 rcases hr with rfl|rfl|rfl
 ·exact⟨hy,rfl⟩
 ·exact⟨hz,rfl⟩
 ·exact⟨ht,rfl⟩
theorem F9 {H0 H1 H2:Hp} {d q:Addr} {kvs kvs':List (Key×V)} {S:Rs} {vs:List V} {r:Rc} {y:V} (s1:Same H0 H1) (g:AtL K H0 (S.map rcD) vs) (e:H0 d=some (.dK kvs)) (hy:At K H1 (ctD r.ct) y) (hq:H1 q=none) (hH:H2=upd (upd H1 q (.tup [.str r.kd,.str r.pr,.int r.rk,y])) d (.dK kvs')) :
  AtL K H2 ((S++[r]).map rcD) (vs++[.ref q]):=by
 have e1:=(Same.upd (o:=.tup [.str r.kd,.str r.pr,.int r.rk,y]) hq) _ _ (s1 _ _ e)
 have k:TKeep K (upd H1 q (.tup [.str r.kd,.str r.pr,.int r.rk,y])) H2:=by rw [hH];exact But.upd.tk e1
 rw [bn]
 refine Bp (Dy k (Bz (s1.trans (Same.upd hq)) g)) (Al (Uw k (Yr (SqT.of Ad) (D1 (Same.upd hq) hy))) Aw)
noncomputable def cd1 (K:aa) (t:Adr) (H:Hp) (pl d d0 l:Addr) (xs:List V):Prop:=H l=some (.lst xs) /\ ∃ S,Ok S/\PlAt K t H pl d S/\RsAt K H d0 S
theorem aj4 {ns:List Int} {lo hi:Option Int} {x:V} (h:x∈Ec (ns.map V.int) lo hi):∃ c,x=.int c:=by
 unfold Ec at h
 obtain⟨c,_,e⟩:=List.mem_map.mp (dE (dF h))
 exact⟨c,e.symm⟩
theorem ae8 {d:Due} (i:Nat) (ch:V) (h:decide (D8 d = "good")=true):[V.str (D8 d),.non,.non]=He d i ch:=by
 have hw:D8 d = "good" := of_decide_eq_true h
 rw [E4] at h
 unfold He
 rw [Option.isNone_iff_eq_none.mp h,hw]
theorem ao5 {d:Due} (i:Nat) (ch:V) (h:decide (D8 d = "good")=false):[V.str (D8 d),.str (nm i),ch]=He d i ch:=by
 rw [E4] at h
 unfold He
 cases hb:D3 d with
 | none=>rw [hb] at h;cases h
 | some n=>rfl
theorem a87 {f:Addr} {fd:ai} (Z:Facts K t) (F:FunD K "law" "law" Dp f fd .none) (T:Tab P w K mg base 10 (Zh K t) bl):FnOk P w K mg base CX0 11 f fd Ou (Nj K t):=by
 refine F.okW0 bm5 br9 T (bi4 K t) (fun vs H Q E h=>?_) (fun vs H Q E h=>?_)
 ·obtain⟨a,ns,rfl,_⟩:=h;rfl
 ·obtain⟨a,ns,rfl,hS,hl63,k⟩:=h
  intro d0 hd0
  refine⟨a,ns,0,rfl,(Same.upd hd0).seqL hS,fun r0=>⟨⟨by decide,by decide,by decide⟩,by decide,a,ns,1,rfl,(Same.upd hd0).seqL hS,fun r1=>⟨r1,rfl,fun z1 H1 S1 hz1=>⟨(show 4<=sizeLine by decide),fun q1 hq1=>?_⟩⟩⟩⟩
  have f1:upd H1 q1 (.tup [.str "chapter", .str "", .int (r0 % (10 ^ (9:Int).toNat+1)),.str z1]) d0=some (.dK []):=(Same.upd hq1) _ _ (S1 _ _ Ad)
  refine⟨f1,[(.inr "a", .ref q1)],rfl,(show 1<=15 by decide),?_⟩
  have SA:Same H (upd (upd H1 q1 (.tup [.str "chapter", .str "", .int (r0 % (10 ^ (9:Int).toNat+1)),.str z1])) d0 (.dK (Dd [] [(.inr "a", .ref q1)]))):=(((Same.upd hd0).trans S1).trans (Same.upd hq1)).set hd0
  have eA:upd (upd H1 q1 (.tup [.str "chapter", .str "", .int (r0 % (10 ^ (9:Int).toNat+1)),.str z1])) d0 (.dK (Dd [] [(.inr "a", .ref q1)])) d0=some (.dK [(.inr "a", .ref q1)]):=Ad
  have gA:=F9 (K:=K) (S:=[]) (vs:=[]) (r:=⟨"chapter", "", r0 % (10 ^ (9:Int).toNat+1),.txt z1⟩) (Same.refl _) Aw (S1 _ _ Ad) Bf hq1 (rfl:upd (upd H1 q1 (.tup [.str "chapter", .str "", .int (r0 % (10 ^ (9:Int).toNat+1)),.str z1])) d0 (.dK (Dd [] [(.inr "a", .ref q1)]))=_)
  generalize upd (upd H1 q1 (.tup [.str "chapter", .str "", .int (r0 % (10 ^ (9:Int).toNat+1)),.str z1])) d0 (.dK (Dd [] [(.inr "a", .ref q1)]))=HA at SA eA gA ⊢
  clear f1 S1 hq1
  refine⟨a,ns,2,rfl,SA.seqL hS,fun r2=>⟨⟨by decide,by decide,by decide⟩,by decide,a,ns,3,rfl,SA.seqL hS,fun r3=>⟨r3,rfl,fun z2 H2 S2 hz2=>⟨(show 4<=sizeLine by decide),fun q2 hq2=>⟨_,DPut.k (k:=.inr "a.b") ((Same.upd hq2) _ _ (S2 _ _ eA)) (show 1<sizeLine by decide),?_⟩⟩⟩⟩⟩
  have SB:Same H (upd (upd H2 q2 (.tup [.str "para", .str "a", .int (r2 % (10 ^ (9:Int).toNat+1)),.str z2])) d0 (.dK (B8 [(.inr "a", .ref q1)] (.inr "a.b") (.ref q2)))):=((SA.trans S2).trans (Same.upd hq2)).set hd0
  have eB:upd (upd H2 q2 (.tup [.str "para", .str "a", .int (r2 % (10 ^ (9:Int).toNat+1)),.str z2])) d0 (.dK (B8 [(.inr "a", .ref q1)] (.inr "a.b") (.ref q2))) d0=some (.dK [(.inr "a", .ref q1),(.inr "a.b", .ref q2)]):=Ad
  have gB:=F9 (r:=⟨"para", "a", r2 % (10 ^ (9:Int).toNat+1),.txt z2⟩) S2 gA eA Bf hq2 (rfl:upd (upd H2 q2 (.tup [.str "para", .str "a", .int (r2 % (10 ^ (9:Int).toNat+1)),.str z2])) d0 (.dK (B8 [(.inr "a", .ref q1)] (.inr "a.b") (.ref q2)))=_)
  generalize upd (upd H2 q2 (.tup [.str "para", .str "a", .int (r2 % (10 ^ (9:Int).toNat+1)),.str z2])) d0 (.dK (B8 [(.inr "a", .ref q1)] (.inr "a.b") (.ref q2)))=HB at SB eB gB ⊢
  clear SA eA gA S2 hq2
  refine⟨a,ns,4,rfl,SB.seqL hS,fun r4=>⟨⟨by decide,by decide,by decide⟩,by decide,a,ns,5,rfl,SB.seqL hS,fun r5=>⟨r5,rfl,fun tb H3 y3 S3 htb hy3=>⟨(show 4<=sizeLine by decide),fun q3 hq3=>⟨_,DPut.k (k:=.inr "t") ((Same.upd hq3) _ _ (S3 _ _ eB)) (show 2<sizeLine by decide),?_⟩⟩⟩⟩⟩
  have SC:Same H (upd (upd H3 q3 (.tup [.str "table", .str "", .int (r4 % (10 ^ (9:Int).toNat+1)),y3])) d0 (.dK (B8 [(.inr "a", .ref q1),(.inr "a.b", .ref q2)] (.inr "t") (.ref q3)))):=((SB.trans S3).trans (Same.upd hq3)).set hd0
  have eC:upd (upd H3 q3 (.tup [.str "table", .str "", .int (r4 % (10 ^ (9:Int).toNat+1)),y3])) d0 (.dK (B8 [(.inr "a", .ref q1),(.inr "a.b", .ref q2)] (.inr "t") (.ref q3))) d0=some (.dK (kv3 [.ref q1,.ref q2,.ref q3])):=Ad
  have gC:=F9 (r:=⟨"table", "", r4 % (10 ^ (9:Int).toNat+1),.tab tb⟩) S3 gB eB hy3 hq3 (rfl:upd (upd H3 q3 (.tup [.str "table", .str "", .int (r4 % (10 ^ (9:Int).toNat+1)),y3])) d0 (.dK (B8 [(.inr "a", .ref q1),(.inr "a.b", .ref q2)] (.inr "t") (.ref q3)))=_)
  generalize upd (upd H3 q3 (.tup [.str "table", .str "", .int (r4 % (10 ^ (9:Int).toNat+1)),y3])) d0 (.dK (B8 [(.inr "a", .ref q1),(.inr "a.b", .ref q2)] (.inr "t") (.ref q3)))=HC at SC eC gC ⊢
  clear SB eB gB S3 hq3 hy3
  have o0:Ok [⟨"chapter", "", r0 % (10 ^ (9:Int).toNat+1),.txt z1⟩,⟨"para", "a", r2 % (10 ^ (9:Int).toNat+1),.txt z2⟩,⟨"table", "", r4 % (10 ^ (9:Int).toNat+1),.tab tb⟩]:=bs8 hz1 hz2 htb
  have g0:AtL K HC (([⟨"chapter", "", r0 % (10 ^ (9:Int).toNat+1),.txt z1⟩,⟨"para", "a", r2 % (10 ^ (9:Int).toNat+1),.txt z2⟩,⟨"table", "", r4 % (10 ^ (9:Int).toNat+1),.tab tb⟩]:Rs).map rcD) [.ref q1,.ref q2,.ref q3]:=gC
  generalize ([⟨"chapter", "", r0 % (10 ^ (9:Int).toNat+1),.txt z1⟩,⟨"para", "a", r2 % (10 ^ (9:Int).toNat+1),.txt z2⟩,⟨"table", "", r4 % (10 ^ (9:Int).toNat+1),.tab tb⟩]:Rs)=S0 at o0 g0
  clear gC hz1 hz2 htb
  refine fun pl dp hpl hdp nep=>⟨pl,dp,rfl,Ad,fun d hd=>⟨rfl,?_⟩⟩
  have SD:Same HC (upd (upd (upd (upd HC dp (.own pl)) pl (.ins t.c_zcc dp [])) d (.dK [])) pl (.ins t.c_zcc dp [("records", .ref d)])):=(((Same.upd hdp).set hpl).trans (Same.upd hd)).set hpl
  have epl:upd (upd (upd (upd HC dp (.own pl)) pl (.ins t.c_zcc dp [])) d (.dK [])) pl (.ins t.c_zcc dp [("records", .ref d)]) pl=some (.ins t.c_zcc dp [("records", .ref d)]):=Ad
  have nd:d≠pl:=fun z=>by rw [z,Ad] at hd;cases hd
  have ed:upd (upd (upd (upd HC dp (.own pl)) pl (.ins t.c_zcc dp [])) d (.dK [])) pl (.ins t.c_zcc dp [("records", .ref d)]) d=some (.dK []):=by rw [Ak nd,Ad]
  have hdC:HC d=none:=((Same.upd hdp).set hpl).free hd
  have n0:d0≠d:=fun z=>by rw [z,hdC] at eC;cases eC
  have hdH:H d=none:=SC.free hdC
  generalize upd (upd (upd (upd HC dp (.own pl)) pl (.ins t.c_zcc dp [])) d (.dK [])) pl (.ins t.c_zcc dp [("records", .ref d)])=HD at SD epl ed ⊢
  have eD:=SD _ _ eC
  have gD:=Bz SD g0
  have SHD:=SC.trans SD
  clear hd hdC hpl hdp nep SD eC g0 SC
  refine .inl ⟨_,eD,fun ob=>?_⟩
  have bE:But d0 HD (upd HD d0 (.frz ob (.dK (kv3 [.ref q1,.ref q2,.ref q3])))):=But.upd
  have eE:upd HD d0 (.frz ob (.dK (kv3 [.ref q1,.ref q2,.ref q3]))) d0=some (.frz ob (.dK (kv3 [.ref q1,.ref q2,.ref q3]))):=Ad
  generalize upd HD d0 (.frz ob (.dK (kv3 [.ref q1,.ref q2,.ref q3])))=HE at bE eE ⊢
  have gE:=Dy (bE.tk eD) gD
  have eplE:=bE _ _ (fun z=>by rw [z,eD] at epl;cases epl) epl
  have edE:=bE _ _ (cK n0) ed
  refine aj8 (ai6 (kv3 [.ref q1,.ref q2,.ref q3])) (fun i σ H'=>(∃ v3 v4,σ=[some (.ref a),some (.ref d0),some (.ref pl),v3,v4,none,none,none,none,none,none,none,none,none,none,none])/\But d HE H' /\ ∃ vs,vs.length=i/\H' d=some (.dK (kv3 vs))/\AtL K H' ((S0.take i).map rcD) vs)
   ⟨⟨_,_,rfl⟩,(fun b o _ h=>h),[],rfl,edE,Aw⟩ (fun i σ H' _ h=>h.2.1 _ _ n0 eE) ?_ ?_
  ·rintro i x y T σ H' hx hT ⟨⟨v3,v4,rfl⟩,B,vs,lv,e1,g1⟩
   obtain⟨hi,rfl,hy⟩:=Ph hx
   obtain⟨r,er⟩:=o0.at hi
   obtain⟨y',ey,ay⟩:=Dr gE (d:=rcD r) (i:=i) (by rw [aY,er];rfl)
   rw [hy] at ey
   cases ey
   have tk1:TKeep K HE H':=B.tk edE
   have s1:=Same.upd (o:=.tup [.str (nm i),y]) hT
   obtain⟨ra,cy,rfl,qr,hc⟩:=F8 (D1 s1 (Uw tk1 ay))
   have epl1:=s1 _ _ (B _ _ (cK nd) eplE)
   have e11:=s1 _ _ e1
   refine⟨_,SqT.of Ad,rfl,pl,dp,_,⟨t.c_zcc,Ub K t⟩,rfl,.head _,epl1,rfl,⟨ae _,ae _⟩,_,_,.inr qr,rfl,_,_,.inr qr,rfl,_,_,.inr qr,rfl,_,_,.inr qr,rfl,pl,dp,d,kv3 vs,nm i,_,_,_,_,rfl,epl1,e11,?_,fun q hq=>⟨⟨_,_,rfl⟩,((B.trans (But.of s1)).trans (But.of (Same.upd hq))).trans But.upd,vs++[.ref q],by rw [aH,lv];rfl,by rw [Ad,a46 lv hi],?_⟩⟩
   ·show ((nms.map fh).zip vs).length<100
    rw [List.length_zip]
    exact cD (Nat.min_le_left _ _) (by decide)
   ·rw [fQ,er]
    exact F9 (r:=r) s1 g1 e1 hc hq rfl
  ·rintro σ H' ⟨⟨v3,v4,rfl⟩,B,vs,lv,e1,g1⟩
   refine .inr ⟨d0,ob,_,eD,B _ _ n0 eE,?_⟩
   have l3:((kv3 [V.ref q1,.ref q2,.ref q3]).map fun q=>(kV q.1,q.2)).length=3:=rfl
   rw [l3,cx (by have:=o0.1;omega)] at g1
   have tF:TKeep K H' (upd H' d0 (.dK (kv3 [.ref q1,.ref q2,.ref q3]))):=TKeep.thaw (B _ _ n0 eE)
   have SF:Same H (upd H' d0 (.dK (kv3 [.ref q1,.ref q2,.ref q3]))):=fun b o hb=>by
    have b0:b≠d0:=fun z=>by rw [z,hd0] at hb;cases hb
    have b1:b≠d:=fun z=>by rw [z,hdH] at hb;cases hb
    rw [Ak b0]
    exact B _ _ b1 (bE _ _ b0 (SHD _ _ hb))
   have np:pl≠d0:=fun z=>by rw [z,eD] at epl;cases epl
   have hPF:PlAt K t (upd H' d0 (.dK (kv3 [.ref q1,.ref q2,.ref q3]))) pl d S0:=⟨⟨dp,by rw [Ak np];exact B _ _ (cK nd) eplE⟩,vs,by rw [Ak (cK n0)];exact e1,Dy tF g1⟩
   have hRF:RsAt K (upd H' d0 (.dK (kv3 [.ref q1,.ref q2,.ref q3]))) d0 S0:=⟨_,Ad,Dy tF (Dy (B.tk edE) gE)⟩
   generalize upd H' d0 (.dK (kv3 [.ref q1,.ref q2,.ref q3]))=HF at SF hPF hRF ⊢
   clear tF g1 e1 lv B gE eplE edE bE eE gD epl ed eD SHD np l3
   refine .inl ⟨_,SF.seqL hS,fun l6 hl6=>.inl ⟨⟨_,SqL.of Ad⟩,?_⟩⟩
   have S6:=Same.upd (o:=.lst (Ec (ns.map V.int) (some 6) (some 46))) hl6
   refine Mp (Hq (Ec (ns.map V.int) (some 6) (some 46))) (fun _ σ H'=>(∃ v3 v4 v5 v6 v7 v8 v9 v10 v11 v12 v13 v14 v15,σ=[some (.ref a),some (.ref d0),some (.ref pl),v3,v4,v5,v6,v7,v8,v9,v10,v11,v12,v13,v14,v15])/\cd1 K t H' pl d d0 l6 (Ec (ns.map V.int) (some 6) (some 46)))
    ⟨⟨_,_,_,_,_,_,_,_,_,_,_,_,_,rfl⟩,Ad,S0,o0,hPF.up S6,hRF.up S6⟩ (fun _ σ H' _ h=>SqL.of h.2.1) ?_ ?_
   ·rintro j x σ H1 hx ⟨⟨v3,v4,v5,v6,v7,v8,v9,v10,v11,v12,v13,v14,v15,rfl⟩,el,S,o,hP,hR⟩
    obtain⟨c,rfl⟩:=aj4 (bC hx)
    refine⟨d0,S,c,rfl,hR,o,fun H2 i e p S2 hi ho hT=>⟨p,i,e,rfl,hT,ho,fun H3 a' S3 hE=>?_⟩⟩
    refine .inl ⟨_,true,ap6 Z hE,Zy Z e,?_⟩
    refine ah7 hE fun H4 p2 S4 hT2=>.inr (.inl (bt9 hT2 (hT.up (S3.trans S4)) ?_))
    obtain⟨xt,qt,_⟩:=hT.up (S3.trans S4)
    refine Tg (hE.up S4) ⟨_,.str (nm i),.inr qt,A4 (i:=1) rfl,Zw (show (!decide (nm i=nm i))=false by simp) ?_⟩
    refine ab1 (i0:=Ej K t) (hE.up S4) (fun x=>by cases e <;> rfl) ⟨ae _,ae _⟩ ⟨_,rfl,?_⟩
    have S24:=(S2.trans S3).trans S4
    refine⟨d0,p,S,i,e,rfl,hR.up S24,o,hT.up (S3.trans S4),ho,fun H5 q S5 hD=>?_⟩
    obtain⟨x,qx,hx⟩:=hD
    have qt5:=S5.seqT qt
    refine⟨_,qx,rfl,by decide,_,.str (nm i),.inr qt5,A4 (i:=1) rfl,(show 3<=sizeLine by decide),fun u hu=>?_⟩
    have S6:=Same.upd (o:=.tup [.str (D8 (A3 S i e)),.str (nm i),.int (c % 256)]) hu
    have eu:upd H5 u (.tup [.str (D8 (A3 S i e)),.str (nm i),.int (c % 256)]) u=some (.tup [.str (D8 (A3 S i e)),.str (nm i),.int (c % 256)]):=Ad
    generalize upd H5 u (.tup [.str (D8 (A3 S i e)),.str (nm i),.int (c % 256)])=H6 at S6 eu ⊢
    refine ak3 (c:=decide (D8 (A3 S i e) = "good")) (fun v H'=>∃ u,v=.ref u/\SqT K H' u (He (A3 S i e) i (.int (c % 256)))/\Same H6 H') (fun hg N hN=>⟨(show 3<=sizeLine by decide),fun u2 hu2=>hN _ _ ⟨u2,rfl,by rw [<- ae8 i _ hg];exact SqT.of Ad,Same.upd hu2⟩⟩) (fun hb=>⟨.ref u,rfl,u,rfl,by rw [<- ao5 i _ hb];exact SqT.of eu,Same.refl _⟩) ?_
    rintro v H7 ⟨u',rfl,qu,S7⟩
    have S47:=(S5.trans S6).trans S7
    have S17:=S24.trans S47
    refine⟨a',pl,d,S,i,e,c % 256,true,rfl,(hE.up S4).up S47,ho,hP.up S17,o,fun H8 q8 S8 qr=>.inr (.inl (Tr qr (Same.seqT S8 qu) (P6 _ _ _) ?_))⟩
    have S8:Same H7 H8:=S8
    have S18:=S17.trans S8
    refine⟨pl,d,d0,S,rfl,hP.up S18,hR.up S18,o,fun H9 S9=>?_⟩
    have S19:=S18.trans S9
    have S79:=S8.trans S9
    refine⟨a',pl,d,S,i,e,c % 256,false,rfl,(hE.up S4).up (S47.trans S79),ho,hP.up S19,o,fun H10 q10 hBR qr10=>?_⟩
    have hBR:But d H9 H10/\RsAt K H10 d (upS S i (A3 S i e)):=hBR
    obtain⟨B,R10⟩:=hBR
    obtain⟨⟨dx,e9⟩,vs9,ed9,_⟩:=hP.up S19
    have tk:TKeep K H9 H10:=B.tk ed9
    refine .inr (.inl (Tr qr10 (tk _ _ (S79.seqT qu)) (P6 _ _ _) ?_))
    have nd2:pl≠d:=fun z=>by rw [z,ed9] at e9;cases e9
    have hP10:PlAt K t H10 pl d (upS S i (A3 S i e)):=⟨⟨dx,B _ _ nd2 e9⟩,R10⟩
    have hR10:RsAt K H10 d0 S:=(hR.up S19).but n0 ed9 B
    have el9:=S19 _ _ el
    have el10:=B _ _ (fun z=>by rw [z,ed9] at el9;cases el9) el9
    have qt10:=tk _ _ ((S6.trans S7).trans S79 |>.seqT qt5)
    have o':=o.ups (i:=i) ho
    refine B7 (c:=decide (D8 (A3 S i e) = "good")=true) (fun hg=>?_) (fun hg=>?_)
    ·rw [E4] at hg
     obtain⟨r,cc,er,hn⟩:=O1 (Option.isNone_iff_eq_none.mp hg)
     have hd:=(Pc (e:=e) er).trans hn
     rw [hd] at hx hP10 o'
     have hx10:=Yy tk (D1 ((S6.trans S7).trans S79) hx)
     obtain⟨y,gy,hy⟩:=hR10.get o er
     obtain⟨ra,cy,rfl,qr',_⟩:=F8 hy
     obtain⟨vs,ed0,g0⟩:=hR10
     refine⟨_,.str (nm i),.inr qt10,A4 (i:=1) rfl,_,gy,_,qr',rfl,(show 4<=sizeLine by decide),fun q' hq'=>⟨_,.str (nm i),.inr ((Same.upd hq').seqT qt10),A4 (i:=1) rfl,_,DPut.k (k:=.inr (nm i)) ((Same.upd hq') _ _ ed0) ?_,?_⟩⟩
     ·show ((nms.map fh).zip vs).length<sizeLine
      rw [List.length_zip]
      exact cD (Nat.min_le_left _ _) (by decide)
     ·have R11:=RsAt.put (c:=cc) o ed0 g0 er hq' hx10
      have B11:But d0 H10 (upd (upd H10 q' (.tup [.str r.kd,.str r.pr,.int r.rk,x])) d0 (.dK (B8 (kv3 vs) (.inr (nm i)) (.ref q')))):=(But.of (Same.upd hq')).trans But.upd
      generalize upd (upd H10 q' (.tup [.str r.kd,.str r.pr,.int r.rk,x])) d0 (.dK (B8 (kv3 vs) (.inr (nm i)) (.ref q')))=H11 at R11 B11 ⊢
      obtain⟨⟨dx',e10⟩,hR'⟩:=hP10
      have np:pl≠d0:=fun z=>by rw [z,ed0] at e10;cases e10
      have hP11:PlAt K t H11 pl d (upS S i (.good cc)):=⟨⟨dx',B11 _ _ np e10⟩,hR'.but (cK n0) ed0 B11⟩
      have el11:=B11 _ _ (fun z=>by rw [z,ed0] at el10;cases el10) el10
      exact⟨pl,d,d0,_,rfl,hP11,R11,o',fun H12 S12=>⟨⟨_,_,_,_,_,_,_,_,_,_,_,_,_,rfl⟩,S12 _ _ el11,_,o',hP11.up S12,R11.up S12⟩⟩
    ·have up:upS S i (A3 S i e)=S:=by
      rw [E4] at hg
      cases hd:A3 S i e <;> first|rfl|(rw [hd] at hg;exact (hg rfl).elim)
     rw [up] at hP10
     exact⟨pl,d,d0,_,rfl,hP10,hR10,o,fun H12 S12=>⟨⟨_,_,_,_,_,_,_,_,_,_,_,_,_,rfl⟩,S12 _ _ el10,_,o,hP10.up S12,hR10.up S12⟩⟩
   ·rintro σ H1 ⟨⟨v3,v4,v5,v6,v7,v8,v9,v10,v11,v12,v13,v14,v15,rfl⟩,_⟩
    exact .inl (k _)
end
theorem bx4 {K:aa} {L E a b c d:Addr} (nd:[L,E,a,b,c,d].Nodup) (xa:XC K a (.ref E::.ref L::valTail)) (xb:XC K b (.ref E::.ref L::valTail)) (xc:XC K c (.ref E::.ref L::valTail)) (xd:XC K d (.ref E::.ref L::valTail)) (i:Nat) (C:Addr) (hC:[a,b,c,d][i]? = some C) (j:Nat) (D:Addr) (hD:[a,b,c,d][j]? = some D) :
  ce K (.ref C) (.ref D)=some (decide (j=i)):=by
 have x:∀ (i:Nat) C,[a,b,c,d][i]? = some C->XC K C (.ref E::.ref L::valTail):=fun i C h=>by
  match i,h with
  | 0,h=>cases h;exact xa
  | 1,h=>cases h;exact xb
  | 2,h=>cases h;exact xc
  | 3,h=>cases h;exact xd
 have h:∀ a:Addr,D≠a->(aC D==aC a)=false:=fun a n=>by
  rw [Bool.eq_false_iff]
  intro z
  exact n (Value.ref.inj (bG z))
 have n1:=List.nodup_cons.mp nd
 have n2:=List.nodup_cons.mp n1.2
 have mD:=bC hD
 refine (x i C hC).kit (x j D hD) ?_
 rw [a_,a_,a_,h E (fun z=>n2.1 (z▸mD)),h L (fun z=>n1.1 (.tail _ (z▸mD)))]
 by_cases ji:j=i
 ·subst ji
  rw [hC] at hD
  cases hD
  simp
 ·have ne:D≠C:=fun z=>by
   subst z
   exact ji ((List.getElem?_inj (List.getElem?_eq_some_iff.mp hD).1 n2.2).mp (hD.trans hC.symm))
  rw [h C ne,decide_eq_false ji]
  rfl
structure ap8 (K:aa) (mg:Str->Option Value) (t:Adr):Prop where
 g_zaj:MOk K "__init__" "Plain.__init__" Jq t.f_zaj t.d_zaj Ny
 g_zat:MOk K "lay" "Plain.lay" Jz t.f_zat t.d_zat N8
 g_zaq:MOk K "made" "Edit.made" Jx t.f_zaq t.d_zaq N5
 g_zq:MOk K "about" "PartEdit.about" R7 t.f_zq t.d_zq Yg
 g_zal:MOk K "told" "Write.told" Js t.f_zal t.d_zal N0
 g_zah:MOk K "told" "Splice.told" Jo t.f_zah t.d_zah Nw
 g_zap:MOk K "told" "Cell.told" Jw t.f_zap t.d_zap N4
 g_zab:MOk K "told" "AddRow.told" Ji t.f_zab t.d_zab Np
 g_zad:MOk K "told" "CutRow.told" Jk t.f_zad t.d_zad Nr
 g_zaz:DOk K mg "_law_cell" J5 t.f_zaz t.d_zaz Oe
 g_zan:DOk K mg "_law_stream" Ju t.f_zan t.d_zan N2
 g_zbc:DOk K mg "_law_text" J8 t.f_zbc t.d_zbc Oh
 g_zax:DOk K mg "_law_table" J3 t.f_zax t.d_zax Oc
 g_zaw:DOk K mg "_law_place" J2 t.f_zaw t.d_zaw Ob
 g_zba:DOk K mg "_law_deed" J6 t.f_zba t.d_zba Of
 g_zam:DOk K mg "has_length" Jt t.f_zam t.d_zam N1
 g_zy:DOk K mg "is_text_sign" Sf t.f_zy t.d_zy Yo
 g_zbh:DOk K mg "is_text" Kc t.f_zbh t.d_zbh On
 g_zav:DOk K mg "is_letter" J1 t.f_zav t.d_zav Oa
 g_zau:DOk K mg "is_figure" J0 t.f_zau t.d_zau N9
 g_zx:DOk K mg "is_name_sign" Se t.f_zx t.d_zx Yn
 g_zbf:DOk K mg "is_name" Ka t.f_zbf t.d_zbf Ol
 g_zbk:DOk K mg "insist" Kf t.f_zbk t.d_zbk Oq
 g_zt:MOk K "__init__" "PartEdit.__init__" Sa t.f_zt t.d_zt Yj
 g_zw:MOk K "__init__" "TextEdit.__init__" Sd t.f_zw t.d_zw Ym
 g_zak:MOk K "__init__" "Write.__init__" Jr t.f_zak t.d_zak Nz
 g_zay:DOk K mg "is_whole" J4 t.f_zay t.d_zay Od
 g_zbg:DOk K mg "is_rank" Kb t.f_zbg t.d_zbg Om
 g_zag:MOk K "__init__" "Splice.__init__" Jn t.f_zag t.d_zag Nv
 g_zr:MOk K "__init__" "TableEdit.__init__" R8 t.f_zr t.d_zr Yh
 g_zao:MOk K "__init__" "Cell.__init__" Jv t.f_zao t.d_zao N3
 g_zai:DOk K mg "is_tuple_of" Jp t.f_zai t.d_zai Nx
 g_zbl:DOk K mg "is_row" Kg t.f_zbl t.d_zbl Os
 g_zaa:MOk K "__init__" "AddRow.__init__" Jh t.f_zaa t.d_zaa No
 g_zac:MOk K "__init__" "CutRow.__init__" Jj t.f_zac t.d_zac Nq
 g_zbb:DOk K mg "_law_made" J7 t.f_zbb t.d_zbb Og
 g_zz:DOk K mg "_law_rows_due" Sh t.f_zz t.d_zz Yp
 g_zbi:DOk K mg "_law_due" Kd t.f_zbi t.d_zbi Oo
 F_zp:FunD K "__init__" "EditError.__init__" Gy t.f_zp t.d_zp t.dv_zp
 b_zp:∀ j,j<=1->Binds K t.d_zp Yf (t.du_zp.drop j)
 w_zp:Vals [.non] t.du_zp
 if_zp:bK K (.ref t.f_zp)=true
 g_zas:MOk K "has" "Plain.has" Jy t.f_zas t.d_zas N7
 g_zaf:MOk K "state" "Plain.state" Jm t.f_zaf t.d_zaf Nu
 g_zu:MOk K "kind_of" "Plain.kind_of" Sb t.f_zu t.d_zu Yk
 g_zg:MOk K "content_of" "Plain.content_of" Rv t.f_zg t.d_zg X6
 g_zn:MOk K "need_text" "Write.need_text" R5 t.f_zn t.d_zn Yd
 g_zh:MOk K "need_text" "Splice.need_text" Rw t.f_zh t.d_zh X7
 g_zb:MOk K "need_rest" "TextEdit.need_rest" Rp t.f_zb t.d_zb X1
 g_zj:MOk K "need_table" "Cell.need_table" Ry t.f_zj t.d_zj X9
 g_zc:MOk K "need_table" "AddRow.need_table" Rq t.f_zc t.d_zc X2
 g_zd:MOk K "need_table" "CutRow.need_table" Rr t.f_zd t.d_zd X3
 g_za:MOk K "need_rest" "TableEdit.need_rest" Ro t.f_za t.d_za X0
 F_zar:FunD K "need" "Edit.need" Dn t.f_zar t.d_zar t.dv_zar
 b_zar:∀ j,j<=1->Binds K t.d_zar N6 (t.du_zar.drop j)
 w_zar:Vals [.non] t.du_zar
 if_zar:bK K (.ref t.f_zar)=true
 g_zs:MOk K "new_text" "Write.new_text" R9 t.f_zs t.d_zs Yi
 g_zl:MOk K "new_text" "Splice.new_text" R0 t.f_zl t.d_zl Yb
 g_zk:MOk K "parent_of" "Plain.parent_of" Rz t.f_zk t.d_zk Ya
 g_zv:MOk K "rank_of" "Plain.rank_of" Sc t.f_zv t.d_zv Yl
 g_zbj:DOk K mg "rewrite" Ke t.f_zbj t.d_zbj Op
 g_zm:MOk K "change" "TextEdit.change" R3 t.f_zm t.d_zm Yc
 g_zo:MOk K "new_table" "Cell.new_table" R6 t.f_zo t.d_zo Ye
 g_ze:MOk K "new_table" "AddRow.new_table" Rt t.f_ze t.d_ze X4
 g_zf:MOk K "new_table" "CutRow.new_table" Ru t.f_zf t.d_zf X5
 g_zi:MOk K "change" "TableEdit.change" Rx t.f_zi t.d_zi X8
 F_zbe:FunD K "on" "Edit.on" Do t.f_zbe t.d_zbe t.dv_zbe
 b_zbe:∀ j,j<=1->Binds K t.d_zbe Oj (t.du_zbe.drop j)
 w_zbe:Vals [.non] t.du_zbe
 if_zbe:bK K (.ref t.f_zbe)=true
 g_zbd:DOk K mg "_law_told" J9 t.f_zbd t.d_zbd Oi
 g_zae:MOk K "names" "Plain.names" Jl t.f_zae t.d_zae Nt
 g_zbm:DOk K mg "_law_so" Kh t.f_zbm t.d_zbm Ot
 F_zbn:FunD K "law" "law" Dp t.f_zbn t.d_zbn .none
 b_zbn:∀ j,j<=0->Binds K t.d_zbn Ou (([]:List Value).drop j)
 w_zbn:Vals [] ([]:List Value)
 m_zbn:mg "law" = some (.ref t.f_zbn)
 at_zbt:mg "LeafError" = some (.ref t.c_zbt)
 kp_zbt:ak K (.ref t.c_zbt)=true
 ec_zbt:ECls K t.c_zbt
 in_zbt:ac K (.ref t.c_zbt) "__init__" = some (some (.builtin "ValueError.__init__"))
 at_zbw:mg "BadEdit" = some (.ref t.c_zbw)
 kp_zbw:ak K (.ref t.c_zbw)=true
 ec_zbw:ECls K t.c_zbw
 in_zbw:ac K (.ref t.c_zbw) "__init__" = some (some (.builtin "ValueError.__init__"))
 at_zbs:mg "EditError" = some (.ref t.c_zbs)
 kp_zbs:ak K (.ref t.c_zbs)=true
 ec_zbs:ECls K t.c_zbs
 in_zbs:ac K (.ref t.c_zbs) "__init__" = some (some (.ref t.f_zp))
 at_zca:mg "NoPart" = some (.ref t.c_zca)
 kp_zca:ak K (.ref t.c_zca)=true
 ec_zca:ECls K t.c_zca
 in_zca:ac K (.ref t.c_zca) "__init__" = some (some (.ref t.f_zp))
 at_zbv:mg "WrongKind" = some (.ref t.c_zbv)
 kp_zbv:ak K (.ref t.c_zbv)=true
 ec_zbv:ECls K t.c_zbv
 in_zbv:ac K (.ref t.c_zbv) "__init__" = some (some (.ref t.f_zp))
 at_zcf:mg "Far" = some (.ref t.c_zcf)
 kp_zcf:ak K (.ref t.c_zcf)=true
 ec_zcf:ECls K t.c_zcf
 in_zcf:ac K (.ref t.c_zcf) "__init__" = some (some (.ref t.f_zp))
 at_zbx:mg "TooLong" = some (.ref t.c_zbx)
 kp_zbx:ak K (.ref t.c_zbx)=true
 ec_zbx:ECls K t.c_zbx
 in_zbx:ac K (.ref t.c_zbx) "__init__" = some (some (.ref t.f_zp))
 at_zcc:mg "Plain" = some (.ref t.c_zcc)
 kp_zcc:ak K (.ref t.c_zcc)=true
 mk_zcc:aU K t.c_zcc=true
 in_zcc:ac K (.ref t.c_zcc) "__init__" = some (some (.ref t.f_zaj))
 cl_zcc:Cls K t.c_zcc
 at_zcd:mg "Write" = some (.ref t.c_zcd)
 kp_zcd:ak K (.ref t.c_zcd)=true
 mk_zcd:aU K t.c_zcd=true
 in_zcd:ac K (.ref t.c_zcd) "__init__" = some (some (.ref t.f_zak))
 cl_zcd:Cls K t.c_zcd
 at_zcb:mg "Splice" = some (.ref t.c_zcb)
 kp_zcb:ak K (.ref t.c_zcb)=true
 mk_zcb:aU K t.c_zcb=true
 in_zcb:ac K (.ref t.c_zcb) "__init__" = some (some (.ref t.f_zag))
 cl_zcb:Cls K t.c_zcb
 at_zce:mg "Cell" = some (.ref t.c_zce)
 kp_zce:ak K (.ref t.c_zce)=true
 mk_zce:aU K t.c_zce=true
 in_zce:ac K (.ref t.c_zce) "__init__" = some (some (.ref t.f_zao))
 cl_zce:Cls K t.c_zce
 at_zby:mg "AddRow" = some (.ref t.c_zby)
 kp_zby:ak K (.ref t.c_zby)=true
 mk_zby:aU K t.c_zby=true
 in_zby:ac K (.ref t.c_zby) "__init__" = some (some (.ref t.f_zaa))
 cl_zby:Cls K t.c_zby
 at_zbz:mg "CutRow" = some (.ref t.c_zbz)
 kp_zbz:ak K (.ref t.c_zbz)=true
 mk_zbz:aU K t.c_zbz=true
 in_zbz:ac K (.ref t.c_zbz) "__init__" = some (some (.ref t.f_zac))
 cl_zbz:Cls K t.c_zbz
 at_Edit:mg "Edit" = some (.ref t.c_Edit)
 at_PartEdit:mg "PartEdit" = some (.ref t.c_PartEdit)
 su_PartEdit:K3 K t.c_PartEdit t.f_zt
 at_TextEdit:mg "TextEdit" = some (.ref t.c_TextEdit)
 su_TextEdit:K3 K t.c_TextEdit t.f_zw
 at_TableEdit:mg "TableEdit" = some (.ref t.c_TableEdit)
 su_TableEdit:K3 K t.c_TableEdit t.f_zr
 mt_Write_about:A0 K t.c_zcd "about" t.f_zq
 mt_Splice_about:A0 K t.c_zcb "about" t.f_zq
 mt_Cell_about:A0 K t.c_zce "about" t.f_zq
 mt_AddRow_about:A0 K t.c_zby "about" t.f_zq
 mt_CutRow_about:A0 K t.c_zbz "about" t.f_zq
 mt_Write_change:A0 K t.c_zcd "change" t.f_zm
 mt_Splice_change:A0 K t.c_zcb "change" t.f_zm
 mt_Cell_change:A0 K t.c_zce "change" t.f_zi
 mt_AddRow_change:A0 K t.c_zby "change" t.f_zi
 mt_CutRow_change:A0 K t.c_zbz "change" t.f_zi
 mt_zg:A0 K t.c_zcc "content_of" t.f_zg
 mt_zas:A0 K t.c_zcc "has" t.f_zas
 mt_zu:A0 K t.c_zcc "kind_of" t.f_zu
 mt_zat:A0 K t.c_zcc "lay" t.f_zat
 mt_Write_made:A0 K t.c_zcd "made" t.f_zaq
 mt_Splice_made:A0 K t.c_zcb "made" t.f_zaq
 mt_Cell_made:A0 K t.c_zce "made" t.f_zaq
 mt_AddRow_made:A0 K t.c_zby "made" t.f_zaq
 mt_CutRow_made:A0 K t.c_zbz "made" t.f_zaq
 mt_zae:A0 K t.c_zcc "names" t.f_zae
 mt_Write_need:A0 K t.c_zcd "need" t.f_zar
 mt_Splice_need:A0 K t.c_zcb "need" t.f_zar
 mt_Cell_need:A0 K t.c_zce "need" t.f_zar
 mt_AddRow_need:A0 K t.c_zby "need" t.f_zar
 mt_CutRow_need:A0 K t.c_zbz "need" t.f_zar
 mt_Write_need_rest:A0 K t.c_zcd "need_rest" t.f_zb
 mt_Splice_need_rest:A0 K t.c_zcb "need_rest" t.f_zb
 mt_Cell_need_rest:A0 K t.c_zce "need_rest" t.f_za
 mt_AddRow_need_rest:A0 K t.c_zby "need_rest" t.f_za
 mt_CutRow_need_rest:A0 K t.c_zbz "need_rest" t.f_za
 mt_zj:A0 K t.c_zce "need_table" t.f_zj
 mt_zc:A0 K t.c_zby "need_table" t.f_zc
 mt_zd:A0 K t.c_zbz "need_table" t.f_zd
 mt_zn:A0 K t.c_zcd "need_text" t.f_zn
 mt_zh:A0 K t.c_zcb "need_text" t.f_zh
 mt_zo:A0 K t.c_zce "new_table" t.f_zo
 mt_ze:A0 K t.c_zby "new_table" t.f_ze
 mt_zf:A0 K t.c_zbz "new_table" t.f_zf
 mt_zs:A0 K t.c_zcd "new_text" t.f_zs
 mt_zl:A0 K t.c_zcb "new_text" t.f_zl
 mt_Write_on:A0 K t.c_zcd "on" t.f_zbe
 mt_Splice_on:A0 K t.c_zcb "on" t.f_zbe
 mt_Cell_on:A0 K t.c_zce "on" t.f_zbe
 mt_AddRow_on:A0 K t.c_zby "on" t.f_zbe
 mt_CutRow_on:A0 K t.c_zbz "on" t.f_zbe
 mt_zk:A0 K t.c_zcc "parent_of" t.f_zk
 mt_zv:A0 K t.c_zcc "rank_of" t.f_zv
 mt_zaf:A0 K t.c_zcc "state" t.f_zaf
 mt_zal:A0 K t.c_zcd "told" t.f_zal
 mt_zah:A0 K t.c_zcb "told" t.f_zah
 mt_zap:A0 K t.c_zce "told" t.f_zap
 mt_zab:A0 K t.c_zby "told" t.f_zab
 mt_zad:A0 K t.c_zbz "told" t.f_zad
 v_zbo:mg "GREATEST_RANK" = some t.u_zbo
 r_zbo:RelV (.int 1000000000) t.u_zbo
 v_zbp:mg "LONGEST_TEXT" = some t.u_zbp
 r_zbp:RelV (.int 60) t.u_zbp
 v_zbq:mg "PERCENT_SIGN" = some t.u_zbq
 r_zbq:RelV (.int 37) t.u_zbq
 v_zbu:mg "MOST_ROWS" = some t.u_zbu
 r_zbu:RelV (.int 6) t.u_zbu
 v_zbr:mg "MOST_CELLS" = some t.u_zbr
 r_zbr:RelV (.int 6) t.u_zbr
 v_zcg:mg "TOP" = some t.u_zcg
 r_zcg:RelV (.str "") t.u_zcg
 z:∀ x∈bl,mg x=none
 Z:Facts K t
theorem a47 {P:aE} {w:bq} {K:aa} {mg:Str->Option Value} {base:Heap} {t:Adr} (A:ap8 K mg t):FnOk P w K mg base CX0 11 t.f_zbn t.d_zbn Ou (Nj K t):=by
 have T0:Tab P w K mg base 0 (Az K t) bl:=((((((((((((((((((((Tab.nil A.z).consV A.v_zcg A.r_zcg).consV A.v_zbr A.r_zbr).consV A.v_zbu A.r_zbu).consV A.v_zbq A.r_zbq).consV A.v_zbp A.r_zbp).consV A.v_zbo A.r_zbo).consV (v:=.ref t.c_Edit) A.at_Edit rfl).consV (v:=.ref t.c_zbz) A.at_zbz rfl).consV (v:=.ref t.c_zby) A.at_zby rfl).consV (v:=.ref t.c_zce) A.at_zce rfl).consV (v:=.ref t.c_zcb) A.at_zcb rfl).consV (v:=.ref t.c_zcd) A.at_zcd rfl).consV (v:=.ref t.c_zcc) A.at_zcc rfl).consV (v:=.ref t.c_zbx) A.at_zbx rfl).consV (v:=.ref t.c_zcf) A.at_zcf rfl).consV (v:=.ref t.c_zbv) A.at_zbv rfl).consV (v:=.ref t.c_zca) A.at_zca rfl).consV (v:=.ref t.c_zbs) A.at_zbs rfl).consX (oi:=none) ⟨A.at_zbw,A.kp_zbw,A.ec_zbw,A.in_zbw⟩).consX (oi:=none) ⟨A.at_zbt,A.kp_zbt,A.ec_zbt,A.in_zbt⟩
 have T1:Tab P w K mg base 1 (Ha K t) bl:=(((((((((((((((((((T0.mono (show 0<=1 by decide)).con (bu6 K t) A.g_zz (bx5 (t:=t) A.Z A.g_zz.F T0)).con (aq7 K t) A.g_zai (a59 (t:=t) A.Z A.g_zai.F T0)).con (ar4 K t) A.g_zay (a73 (t:=t) A.Z A.g_zay.F T0)).con (as5 K t) A.g_zbk (a84 (t:=t) A.Z A.g_zbk.F T0)).con (ar0 K t) A.g_zau (a69 (t:=t) A.Z A.g_zau.F T0)).con (ar1 K t) A.g_zav (a70 (t:=t) A.Z A.g_zav.F T0)).con (bu5 K t) A.g_zy (bx3 (t:=t) A.Z A.g_zy.F T0)).con (aq8 K t) A.g_zam (a63 (t:=t) A.Z A.g_zam.F T0)).con (ar2 K t) A.g_zaw (a71 (t:=t) A.Z A.g_zaw.F T0)).con (aq9 K t) A.g_zan (a64 (t:=t) A.Z A.g_zan.F T0)).con (ar5 K t) A.g_zaz (a74 (t:=t) A.Z A.g_zaz.F T0)).consM (m := "told") (l:=F0 K t) (fun mi hm=>by
  simp only [F0,ax,aK,or_false] at hm
  rcases hm with rfl|rfl|rfl|rfl|rfl
  ·exact⟨A.cl_zcd,A.mt_zal,A.g_zal.fi (Zq K t) (a62 (t:=t) A.Z A.g_zal.F T0)⟩
  ·exact⟨A.cl_zcb,A.mt_zah,A.g_zah.fi (Zp K t) (a58 (t:=t) A.Z A.g_zah.F T0)⟩
  ·exact⟨A.cl_zce,A.mt_zap,A.g_zap.fi (Zr K t) (a66 (t:=t) A.Z A.g_zap.F T0)⟩
  ·exact⟨A.cl_zby,A.mt_zab,A.g_zab.fi (Zm K t) (a52 (t:=t) A.Z A.g_zab.F T0)⟩
  ·exact⟨A.cl_zbz,A.mt_zad,A.g_zad.fi (Zn K t) (a54 (t:=t) A.Z A.g_zad.F T0)⟩)).consM (m := "new_text") (l:=Da K t) (fun mi hm=>by
  simp only [Da,ax,aK,or_false] at hm
  rcases hm with rfl|rfl
  ·exact⟨A.cl_zcd,A.mt_zs,A.g_zs.fi (a33 K t) (bw7 (t:=t) A.Z A.g_zs.F T0)⟩
  ·exact⟨A.cl_zcb,A.mt_zl,A.g_zl.fi (a29 K t) (bw3 (t:=t) A.Z A.g_zl.F T0)⟩)).consM (m := "new_table") (l:=Cr K t) (fun mi hm=>by
  simp only [Cr,ax,aK,or_false] at hm
  rcases hm with rfl|rfl|rfl
  ·exact⟨A.cl_zce,A.mt_zo,A.g_zo.fi (a31 K t) (bw5 (t:=t) A.Z A.g_zo.F T0)⟩
  ·exact⟨A.cl_zby,A.mt_ze,A.g_ze.fi (a24 K t) (bv7 (t:=t) A.Z A.g_ze.F T0)⟩
  ·exact⟨A.cl_zbz,A.mt_zf,A.g_zf.fi (a25 K t) (bv8 (t:=t) A.Z A.g_zf.F T0)⟩)).consM (m := "names") (l:=Iw K t) (one ⟨A.cl_zcc,A.mt_zae,A.g_zae.fi (Zo K t) (a55 (t:=t) A.Z A.g_zae.F T0)⟩)).consM (m := "made") (l:=Hk K t) (fun mi hm=>by
  simp only [Hk,ax,aK,or_false] at hm
  rcases hm with rfl|rfl|rfl|rfl|rfl
  ·exact⟨A.cl_zcd,A.mt_Write_made,A.g_zaq.fi (Ej K t) (Ja (t:=t) A.Z A.g_zaq.F T0)⟩
  ·exact⟨A.cl_zcb,A.mt_Splice_made,A.g_zaq.fi (Ej K t) (Ja (t:=t) A.Z A.g_zaq.F T0)⟩
  ·exact⟨A.cl_zce,A.mt_Cell_made,A.g_zaq.fi (Ej K t) (Ja (t:=t) A.Z A.g_zaq.F T0)⟩
  ·exact⟨A.cl_zby,A.mt_AddRow_made,A.g_zaq.fi (Ej K t) (Ja (t:=t) A.Z A.g_zaq.F T0)⟩
  ·exact⟨A.cl_zbz,A.mt_CutRow_made,A.g_zaq.fi (Ej K t) (Ja (t:=t) A.Z A.g_zaq.F T0)⟩)).consM (m := "lay") (l:=Mw K t) (one ⟨A.cl_zcc,A.mt_zat,A.g_zat.fi (Ub K t) (a68 (t:=t) A.Z A.g_zat.F T0)⟩)).consM (m := "has") (l:=Q5 K t) (one ⟨A.cl_zcc,A.mt_zas,A.g_zas.fi (Zs K t) (a67 (t:=t) A.Z A.g_zas.F T0)⟩)).consM (m := "about") (l:=Ci K t) (fun mi hm=>by
  simp only [Ci,ax,aK,or_false] at hm
  rcases hm with rfl|rfl|rfl|rfl|rfl
  ·exact⟨A.cl_zcd,A.mt_Write_about,A.g_zq.fi (Ii K t) (Pr (t:=t) A.Z A.g_zq.F T0)⟩
  ·exact⟨A.cl_zcb,A.mt_Splice_about,A.g_zq.fi (Ii K t) (Pr (t:=t) A.Z A.g_zq.F T0)⟩
  ·exact⟨A.cl_zce,A.mt_Cell_about,A.g_zq.fi (Ii K t) (Pr (t:=t) A.Z A.g_zq.F T0)⟩
  ·exact⟨A.cl_zby,A.mt_AddRow_about,A.g_zq.fi (Ii K t) (Pr (t:=t) A.Z A.g_zq.F T0)⟩
  ·exact⟨A.cl_zbz,A.mt_CutRow_about,A.g_zq.fi (Ii K t) (Pr (t:=t) A.Z A.g_zq.F T0)⟩)
 have T2:Tab P w K mg base 2 (Di K t) bl:=(((((((((((T1.mono (show 1<=2 by decide)).consC (oi:=some (Ty K t)) ⟨A.at_zcc,A.kp_zcc,A.mk_zcc,A.in_zcc,A.g_zaj.i,A.g_zaj.fi (Ty K t) (a60 (t:=t) A.Z A.g_zaj.F T0),ae 2⟩).consX (oi:=some (Dc K t)) ⟨A.at_zbx,A.kp_zbx,A.ec_zbx,A.in_zbx,A.if_zp,A.F_zp.kp,⟨CX0,fun X' _ _=>C7 X',Pq (t:=t) A.Z A.F_zp T0⟩,ae 2,A.b_zp,A.w_zp⟩).consX (oi:=some (Dc K t)) ⟨A.at_zcf,A.kp_zcf,A.ec_zcf,A.in_zcf,A.if_zp,A.F_zp.kp,⟨CX0,fun X' _ _=>C7 X',Pq (t:=t) A.Z A.F_zp T0⟩,ae 2,A.b_zp,A.w_zp⟩).consX (oi:=some (Dc K t)) ⟨A.at_zbv,A.kp_zbv,A.ec_zbv,A.in_zbv,A.if_zp,A.F_zp.kp,⟨CX0,fun X' _ _=>C7 X',Pq (t:=t) A.Z A.F_zp T0⟩,ae 2,A.b_zp,A.w_zp⟩).consX (oi:=some (Dc K t)) ⟨A.at_zca,A.kp_zca,A.ec_zca,A.in_zca,A.if_zp,A.F_zp.kp,⟨CX0,fun X' _ _=>C7 X',Pq (t:=t) A.Z A.F_zp T0⟩,ae 2,A.b_zp,A.w_zp⟩).consX (oi:=some (Dc K t)) ⟨A.at_zbs,A.kp_zbs,A.ec_zbs,A.in_zbs,A.if_zp,A.F_zp.kp,⟨CX0,fun X' _ _=>C7 X',Pq (t:=t) A.Z A.F_zp T0⟩,ae 2,A.b_zp,A.w_zp⟩).con (as3 K t) A.g_zbi (a82 (t:=t) A.Z A.g_zbi.F T1)).con (as1 K t) A.g_zbg (a80 (t:=t) A.Z A.g_zbg.F T1)).con (bu4 K t) A.g_zx (bx2 (t:=t) A.Z A.g_zx.F T1)).con (as2 K t) A.g_zbh (a81 (t:=t) A.Z A.g_zbh.F T1)).con (ar8 K t) A.g_zbc (a77 (t:=t) A.Z A.g_zbc.F T1)
 have T3:Tab P w K mg base 3 (Fu K t) bl:=(((((((T2.mono (show 2<=3 by decide)).con (as6 K t) A.g_zbl (a85 (t:=t) A.Z A.g_zbl.F T2)).con (as0 K t) A.g_zbf (a79 (t:=t) A.Z A.g_zbf.F T2)).con (ar6 K t) A.g_zba (a75 (t:=t) A.Z A.g_zba.F T2)).con (ar3 K t) A.g_zax (a72 (t:=t) A.Z A.g_zax.F T2)).consM (m := "state") (l:=C5 K t) (one ⟨A.cl_zcc,A.mt_zaf,A.g_zaf.fi (Ig K t) (a56 (t:=t) A.Z A.g_zaf.F T2)⟩)).consM (m := "need_text") (l:=Cq K t) (fun mi hm=>by
  simp only [Cq,ax,aK,or_false] at hm
  rcases hm with rfl|rfl
  ·exact⟨A.cl_zcd,A.mt_zn,A.g_zn.fi (a30 K t) (bw4 (t:=t) A.Z A.g_zn.F T0)⟩
  ·exact⟨A.cl_zcb,A.mt_zh,A.g_zh.fiE (a26 K t) (bw0 (t:=t) A.Z A.g_zh.F T2)⟩)).consM (m := "need_table") (l:=Cg K t) (fun mi hm=>by
  simp only [Cg,ax,aK,or_false] at hm
  rcases hm with rfl|rfl|rfl
  ·exact⟨A.cl_zce,A.mt_zj,A.g_zj.fiE (a27 K t) (bw1 (t:=t) A.Z A.g_zj.F T2)⟩
  ·exact⟨A.cl_zby,A.mt_zc,A.g_zc.fiE (a22 K t) (bv5 (t:=t) A.Z A.g_zc.F T2)⟩
  ·exact⟨A.cl_zbz,A.mt_zd,A.g_zd.fiE (a23 K t) (bv6 (t:=t) A.Z A.g_zd.F T2)⟩)
 have T4:Tab P w K mg base 4 (Pf K t) bl:=((((((T3.mono (show 3<=4 by decide)).consI (i:=a34 K t) ⟨A.at_PartEdit,A.su_PartEdit,A.g_zt.fi (a34 K t) (bw8 (t:=t) A.Z A.g_zt.F T3)⟩).con (as7 K t) A.g_zbm (a86 (t:=t) A.Z A.g_zbm.F T3)).consM (m := "rank_of") (l:=Fg K t) (one ⟨A.cl_zcc,A.mt_zv,A.g_zv.fi (a35 K t) (bx0 (t:=t) A.Z A.g_zv.F T3)⟩)).consM (m := "parent_of") (l:=Dw K t) (one ⟨A.cl_zcc,A.mt_zk,A.g_zk.fi (a28 K t) (bw2 (t:=t) A.Z A.g_zk.F T3)⟩)).consM (m := "kind_of") (l:=C4 K t) (one ⟨A.cl_zcc,A.mt_zu,A.g_zu.fi (Zv K t) (bw9 (t:=t) A.Z A.g_zu.F T3)⟩)).consM (m := "content_of") (l:=Bl K t) (one ⟨A.cl_zcc,A.mt_zg,A.g_zg.fi (Hc K t) (bv9 (t:=t) A.Z A.g_zg.F T3)⟩)
 have T5:Tab P w K mg base 5 (Hb K t) bl:=((T4.mono (show 4<=5 by decide)).con (as4 K t) A.g_zbj (a83 (t:=t) A.Z A.g_zbj.F T4)).consM (m := "need_rest") (l:=Cp K t) (fun mi hm=>by
  simp only [Cp,ax,aK,or_false] at hm
  rcases hm with rfl|rfl|rfl|rfl|rfl
  ·exact⟨A.cl_zcd,A.mt_Write_need_rest,A.g_zb.fiE (Zt K t) (at1 (t:=t) A.Z A.g_zb.F T4)⟩
  ·exact⟨A.cl_zcb,A.mt_Splice_need_rest,A.g_zb.fiE (Zt K t) (at1 (t:=t) A.Z A.g_zb.F T4)⟩
  ·exact⟨A.cl_zce,A.mt_Cell_need_rest,A.g_za.fiE (Qv K t) (aa7 (t:=t) A.Z A.g_za.F T4)⟩
  ·exact⟨A.cl_zby,A.mt_AddRow_need_rest,A.g_za.fiE (Qv K t) (aa7 (t:=t) A.Z A.g_za.F T4)⟩
  ·exact⟨A.cl_zbz,A.mt_CutRow_need_rest,A.g_za.fiE (Qv K t) (aa7 (t:=t) A.Z A.g_za.F T4)⟩)
 have T6:Tab P w K mg base 6 (aj9 K t) bl:=((((T5.mono (show 5<=6 by decide)).consI (i:=a32 K t) ⟨A.at_TableEdit,A.su_TableEdit,A.g_zr.fi (a32 K t) (bw6 (t:=t) A.Z A.g_zr.F T5)⟩).consI (i:=a36 K t) ⟨A.at_TextEdit,A.su_TextEdit,A.g_zw.fi (a36 K t) (bx1 (t:=t) A.Z A.g_zw.F T5)⟩).consM (m := "need") (l:=Fz K t) (fun mi hm=>by
  simp only [Fz,ax,aK,or_false] at hm
  rcases hm with rfl|rfl|rfl|rfl|rfl
  ·exact⟨A.cl_zcd,A.mt_Write_need,⟨A.F_zar.kp,⟨CXE P w,fun X' e1 e2=>e1▸e2▸Bo X',Jb (t:=t) A.Z A.F_zar T5⟩,(show 6<=6 by decide),A.b_zar,A.w_zar⟩⟩
  ·exact⟨A.cl_zcb,A.mt_Splice_need,⟨A.F_zar.kp,⟨CXE P w,fun X' e1 e2=>e1▸e2▸Bo X',Jb (t:=t) A.Z A.F_zar T5⟩,(show 6<=6 by decide),A.b_zar,A.w_zar⟩⟩
  ·exact⟨A.cl_zce,A.mt_Cell_need,⟨A.F_zar.kp,⟨CXE P w,fun X' e1 e2=>e1▸e2▸Bo X',Jb (t:=t) A.Z A.F_zar T5⟩,(show 6<=6 by decide),A.b_zar,A.w_zar⟩⟩
  ·exact⟨A.cl_zby,A.mt_AddRow_need,⟨A.F_zar.kp,⟨CXE P w,fun X' e1 e2=>e1▸e2▸Bo X',Jb (t:=t) A.Z A.F_zar T5⟩,(show 6<=6 by decide),A.b_zar,A.w_zar⟩⟩
  ·exact⟨A.cl_zbz,A.mt_CutRow_need,⟨A.F_zar.kp,⟨CXE P w,fun X' e1 e2=>e1▸e2▸Bo X',Jb (t:=t) A.Z A.F_zar T5⟩,(show 6<=6 by decide),A.b_zar,A.w_zar⟩⟩)).consM (m := "change") (l:=E0 K t) (fun mi hm=>by
  simp only [E0,ax,aK,or_false] at hm
  rcases hm with rfl|rfl|rfl|rfl|rfl
  ·exact⟨A.cl_zcd,A.mt_Write_change,A.g_zm.fi (Zu K t) (at2 (t:=t) A.Z A.g_zm.F T5)⟩
  ·exact⟨A.cl_zcb,A.mt_Splice_change,A.g_zm.fi (Zu K t) (at2 (t:=t) A.Z A.g_zm.F T5)⟩
  ·exact⟨A.cl_zce,A.mt_Cell_change,A.g_zi.fi (Qw K t) (aa8 (t:=t) A.Z A.g_zi.F T5)⟩
  ·exact⟨A.cl_zby,A.mt_AddRow_change,A.g_zi.fi (Qw K t) (aa8 (t:=t) A.Z A.g_zi.F T5)⟩
  ·exact⟨A.cl_zbz,A.mt_CutRow_change,A.g_zi.fi (Qw K t) (aa8 (t:=t) A.Z A.g_zi.F T5)⟩)
 have T7:Tab P w K mg base 7 (Fv K t) bl:=(T6.mono (show 6<=7 by decide)).consM (m := "on") (l:=Uf K t) (fun mi hm=>by
  simp only [Uf,ax,aK,or_false] at hm
  rcases hm with rfl|rfl|rfl|rfl|rfl
  ·exact⟨A.cl_zcd,A.mt_Write_on,⟨A.F_zbe.kp,⟨CXE P w,fun X' e1 e2=>e1▸e2▸Bo X',Jc (t:=t) A.Z A.F_zbe T6⟩,(show 7<=7 by decide),A.b_zbe,A.w_zbe⟩⟩
  ·exact⟨A.cl_zcb,A.mt_Splice_on,⟨A.F_zbe.kp,⟨CXE P w,fun X' e1 e2=>e1▸e2▸Bo X',Jc (t:=t) A.Z A.F_zbe T6⟩,(show 7<=7 by decide),A.b_zbe,A.w_zbe⟩⟩
  ·exact⟨A.cl_zce,A.mt_Cell_on,⟨A.F_zbe.kp,⟨CXE P w,fun X' e1 e2=>e1▸e2▸Bo X',Jc (t:=t) A.Z A.F_zbe T6⟩,(show 7<=7 by decide),A.b_zbe,A.w_zbe⟩⟩
  ·exact⟨A.cl_zby,A.mt_AddRow_on,⟨A.F_zbe.kp,⟨CXE P w,fun X' e1 e2=>e1▸e2▸Bo X',Jc (t:=t) A.Z A.F_zbe T6⟩,(show 7<=7 by decide),A.b_zbe,A.w_zbe⟩⟩
  ·exact⟨A.cl_zbz,A.mt_CutRow_on,⟨A.F_zbe.kp,⟨CXE P w,fun X' e1 e2=>e1▸e2▸Bo X',Jc (t:=t) A.Z A.F_zbe T6⟩,(show 7<=7 by decide),A.b_zbe,A.w_zbe⟩⟩)
 have T8:Tab P w K mg base 8 (bu2 K t) bl:=(T7.mono (show 7<=8 by decide)).con (ar9 K t) A.g_zbd (a78 (t:=t) A.Z A.g_zbd.F T7)
 have T9:Tab P w K mg base 9 (ak0 K t) bl:=(((((T8.mono (show 8<=9 by decide)).consC (oi:=some (Tw K t)) ⟨A.at_zbz,A.kp_zbz,A.mk_zbz,A.in_zbz,A.g_zac.i,A.g_zac.fi (Tw K t) (a53 (t:=t) A.Z A.g_zac.F T7),ae 9⟩).consC (oi:=some (Tv K t)) ⟨A.at_zby,A.kp_zby,A.mk_zby,A.in_zby,A.g_zaa.i,A.g_zaa.fi (Tv K t) (a51 (t:=t) A.Z A.g_zaa.F T7),ae 9⟩).consC (oi:=some (Ua K t)) ⟨A.at_zce,A.kp_zce,A.mk_zce,A.in_zce,A.g_zao.i,A.g_zao.fi (Ua K t) (a65 (t:=t) A.Z A.g_zao.F T7),ae 9⟩).consC (oi:=some (Tx K t)) ⟨A.at_zcb,A.kp_zcb,A.mk_zcb,A.in_zcb,A.g_zag.i,A.g_zag.fi (Tx K t) (a57 (t:=t) A.Z A.g_zag.F T7),ae 9⟩).consC (oi:=some (Tz K t)) ⟨A.at_zcd,A.kp_zcd,A.mk_zcd,A.in_zcd,A.g_zak.i,A.g_zak.fi (Tz K t) (a61 (t:=t) A.Z A.g_zak.F T7),ae 9⟩
 have T10:Tab P w K mg base 10 (Zh K t) bl:=(T9.mono (show 9<=10 by decide)).con (ar7 K t) A.g_zbb (a76 (t:=t) A.Z A.g_zbb.F T9)
 exact a87 (t:=t) A.Z A.F_zbn T10
@[elab_as_elim] theorem C3 {P:List Value->Prop} (h:∀ a,P [a]):∀ us:List Value,us.length=1->P us
 | [a],_=>h a
@[elab_as_elim] theorem Ce {P:List Value->Prop} (h:∀ a b,P [a,b]):∀ us:List Value,us.length=2->P us
 | [a,b],_=>h a b
@[elab_as_elim] theorem Fy {P:List Value->Prop} (h:∀ a b c,P [a,b,c]):∀ us:List Value,us.length=3->P us
 | [a,b,c],_=>h a b c
@[elab_as_elim] theorem bu8 {P:List Value->Prop} (h:∀ a b c d,P [a,b,c,d]):∀ us:List Value,us.length=4->P us
 | [a,b,c,d],_=>h a b c d
@[elab_as_elim] theorem bu9 {P:List Value->Prop} (h:∀ a b c d e,P [a,b,c,d,e]):∀ us:List Value,us.length=5->P us
 | [a,b,c,d,e],_=>h a b c d e
@[elab_as_elim] theorem ce6 {P:List Value->Prop} (h:∀ a b c d e f,P [a,b,c,d,e,f]):∀ us:List Value,us.length=6->P us
 | [a,b,c,d,e,f],_=>h a b c d e f
theorem all_mk {l:PySem.W.OpenLaw} {w:bq} {K:aa} {h:Heap} {mg:Str->Option Value} {fa f_zaj f_zat f_zaq f_zq f_zal f_zah f_zap f_zab f_zad f_zaz f_zan f_zbc f_zax f_zaw f_zba f_zam f_zy f_zbh f_zav f_zau f_zx f_zbf f_zbk f_zt f_zw f_zak f_zay f_zbg f_zag f_zr f_zao f_zai f_zbl f_zaa f_zac f_zbb f_zz f_zbi f_zp f_zas f_zaf f_zu f_zg f_zn f_zh f_zb f_zj f_zc f_zd f_za f_zar f_zs f_zl f_zk f_zv f_zbj f_zm f_zo f_ze f_zf f_zi f_zbe f_zbd f_zae f_zbm f_zbn c_zbt c_zbw c_zbs c_zca c_zbv c_zcf c_zbx c_zcc c_zcd c_zcb c_zce c_zby c_zbz c_Edit c_PartEdit c_TextEdit c_TableEdit Td_zp Td_zar Td_zbe:Addr} (X:K.In h) (G:h.Ns aB mg) (hfa:mg "law" = some (.ref fa))
  {od_zp an_zp od_zar an_zar od_zbe an_zbe od_zbn an_zbn td_zp td_zar td_zbe:Option Addr} {sl_zp sl_zar sl_zbe sl_zbn ts_zp ts_zar ts_zbe:Array (Option Value)}
  {oc_zp kV_zp dc_zp pm_zp cd_zp ct_zp oc_zar kV_zar dc_zar pm_zar cd_zar ct_zar oc_zbe kV_zbe dc_zbe pm_zbe cd_zbe ct_zbe oc_zbn kV_zbn dc_zbn pm_zbn cd_zbn ct_zbn tc_zp tc_zar tc_zbe:Value}
  {tn_zp tn_zar tn_zbe:Nat}
  {u_zbo u_zbp u_zbq u_zbu u_zbr u_zcg:Value}
  (a_zbt:aG K aB "LeafError" = some (some (.ref c_zbt)))
  (a_zbw:aG K aB "BadEdit" = some (some (.ref c_zbw)))
  (a_zbs:aG K aB "EditError" = some (some (.ref c_zbs)))
  (a_zca:aG K aB "NoPart" = some (some (.ref c_zca)))
  (a_zbv:aG K aB "WrongKind" = some (some (.ref c_zbv)))
  (a_zcf:aG K aB "Far" = some (some (.ref c_zcf)))
  (a_zbx:aG K aB "TooLong" = some (some (.ref c_zbx)))
  (in_zbt:ac K (.ref c_zbt) "__init__" = some (some (.builtin "ValueError.__init__")))
  (kp_zbt:ak K (.ref c_zbt)=true)
  (in_zbw:ac K (.ref c_zbw) "__init__" = some (some (.builtin "ValueError.__init__")))
  (kp_zbw:ak K (.ref c_zbw)=true)
  (in_zbs:ac K (.ref c_zbs) "__init__" = some (some (.ref f_zp)))
  (kp_zbs:ak K (.ref c_zbs)=true)
  (in_zca:ac K (.ref c_zca) "__init__" = some (some (.ref f_zp)))
  (kp_zca:ak K (.ref c_zca)=true)
  (in_zbv:ac K (.ref c_zbv) "__init__" = some (some (.ref f_zp)))
  (kp_zbv:ak K (.ref c_zbv)=true)
  (in_zcf:ac K (.ref c_zcf) "__init__" = some (some (.ref f_zp)))
  (kp_zcf:ak K (.ref c_zcf)=true)
  (in_zbx:ac K (.ref c_zbx) "__init__" = some (some (.ref f_zp)))
  (kp_zbx:ak K (.ref c_zbx)=true)
  (a_zcc:aG K aB "Plain" = some (some (.ref c_zcc)))
  (a_zcd:aG K aB "Write" = some (some (.ref c_zcd)))
  (a_zcb:aG K aB "Splice" = some (some (.ref c_zcb)))
  (a_zce:aG K aB "Cell" = some (some (.ref c_zce)))
  (a_zby:aG K aB "AddRow" = some (some (.ref c_zby)))
  (a_zbz:aG K aB "CutRow" = some (some (.ref c_zbz)))
  (in_zcc:ac K (.ref c_zcc) "__init__" = some (some (.ref f_zaj)))
  (kp_zcc:ak K (.ref c_zcc)=true)
  (mk_zcc:aU K c_zcc=true)
  (pg_zcc:bR K c_zcc du=true)
  (hd_zcc:bV K c_zcc=true)
  (po_zcc:b_ K c_zcc=true)
  (sa_zcc:ac K (.ref c_zcc) "__setattr__" = some (some (.builtin "object.__setattr__")))
  (in_zcd:ac K (.ref c_zcd) "__init__" = some (some (.ref f_zak)))
  (kp_zcd:ak K (.ref c_zcd)=true)
  (mk_zcd:aU K c_zcd=true)
  (pg_zcd:bR K c_zcd du=true)
  (hd_zcd:bV K c_zcd=true)
  (po_zcd:b_ K c_zcd=true)
  (sa_zcd:ac K (.ref c_zcd) "__setattr__" = some (some (.builtin "object.__setattr__")))
  (in_zcb:ac K (.ref c_zcb) "__init__" = some (some (.ref f_zag)))
  (kp_zcb:ak K (.ref c_zcb)=true)
  (mk_zcb:aU K c_zcb=true)
  (pg_zcb:bR K c_zcb du=true)
  (hd_zcb:bV K c_zcb=true)
  (po_zcb:b_ K c_zcb=true)
  (sa_zcb:ac K (.ref c_zcb) "__setattr__" = some (some (.builtin "object.__setattr__")))
  (in_zce:ac K (.ref c_zce) "__init__" = some (some (.ref f_zao)))
  (kp_zce:ak K (.ref c_zce)=true)
  (mk_zce:aU K c_zce=true)
  (pg_zce:bR K c_zce du=true)
  (hd_zce:bV K c_zce=true)
  (po_zce:b_ K c_zce=true)
  (sa_zce:ac K (.ref c_zce) "__setattr__" = some (some (.builtin "object.__setattr__")))
  (in_zby:ac K (.ref c_zby) "__init__" = some (some (.ref f_zaa)))
  (kp_zby:ak K (.ref c_zby)=true)
  (mk_zby:aU K c_zby=true)
  (pg_zby:bR K c_zby du=true)
  (hd_zby:bV K c_zby=true)
  (po_zby:b_ K c_zby=true)
  (sa_zby:ac K (.ref c_zby) "__setattr__" = some (some (.builtin "object.__setattr__")))
  (in_zbz:ac K (.ref c_zbz) "__init__" = some (some (.ref f_zac)))
  (kp_zbz:ak K (.ref c_zbz)=true)
  (mk_zbz:aU K c_zbz=true)
  (pg_zbz:bR K c_zbz du=true)
  (hd_zbz:bV K c_zbz=true)
  (po_zbz:b_ K c_zbz=true)
  (sa_zbz:ac K (.ref c_zbz) "__setattr__" = some (some (.builtin "object.__setattr__")))
  (a_Edit:aG K aB "Edit" = some (some (.ref c_Edit)))
  (a_PartEdit:aG K aB "PartEdit" = some (some (.ref c_PartEdit)))
  (a_TextEdit:aG K aB "TextEdit" = some (some (.ref c_TextEdit)))
  (a_TableEdit:aG K aB "TableEdit" = some (some (.ref c_TableEdit)))
  (sg_PartEdit:cr K (.ref c_PartEdit) "__getattribute__" = some (some (.builtin "type.__getattribute__")))
  (sr_PartEdit:fg K c_PartEdit (.type "type")=true)
  (sf_PartEdit:fb K (.ref c_PartEdit) (.type "type") "__init__" = some (.val (.ref f_zt)))
  (sg_TextEdit:cr K (.ref c_TextEdit) "__getattribute__" = some (some (.builtin "type.__getattribute__")))
  (sr_TextEdit:fg K c_TextEdit (.type "type")=true)
  (sf_TextEdit:fb K (.ref c_TextEdit) (.type "type") "__init__" = some (.val (.ref f_zw)))
  (sg_TableEdit:cr K (.ref c_TableEdit) "__getattribute__" = some (some (.builtin "type.__getattribute__")))
  (sr_TableEdit:fg K c_TableEdit (.type "type")=true)
  (sf_TableEdit:fb K (.ref c_TableEdit) (.type "type") "__init__" = some (.val (.ref f_zr)))
  (mt_Write_about:ac K (.ref c_zcd) "about" = some (some (.ref f_zq)))
  (mt_Splice_about:ac K (.ref c_zcb) "about" = some (some (.ref f_zq)))
  (mt_Cell_about:ac K (.ref c_zce) "about" = some (some (.ref f_zq)))
  (mt_AddRow_about:ac K (.ref c_zby) "about" = some (some (.ref f_zq)))
  (mt_CutRow_about:ac K (.ref c_zbz) "about" = some (some (.ref f_zq)))
  (mt_Write_change:ac K (.ref c_zcd) "change" = some (some (.ref f_zm)))
  (mt_Splice_change:ac K (.ref c_zcb) "change" = some (some (.ref f_zm)))
  (mt_Cell_change:ac K (.ref c_zce) "change" = some (some (.ref f_zi)))
  (mt_AddRow_change:ac K (.ref c_zby) "change" = some (some (.ref f_zi)))
  (mt_CutRow_change:ac K (.ref c_zbz) "change" = some (some (.ref f_zi)))
  (mt_zg:ac K (.ref c_zcc) "content_of" = some (some (.ref f_zg)))
  (mt_zas:ac K (.ref c_zcc) "has" = some (some (.ref f_zas)))
  (mt_zu:ac K (.ref c_zcc) "kind_of" = some (some (.ref f_zu)))
  (mt_zat:ac K (.ref c_zcc) "lay" = some (some (.ref f_zat)))
  (mt_Write_made:ac K (.ref c_zcd) "made" = some (some (.ref f_zaq)))
  (mt_Splice_made:ac K (.ref c_zcb) "made" = some (some (.ref f_zaq)))
  (mt_Cell_made:ac K (.ref c_zce) "made" = some (some (.ref f_zaq)))
  (mt_AddRow_made:ac K (.ref c_zby) "made" = some (some (.ref f_zaq)))
  (mt_CutRow_made:ac K (.ref c_zbz) "made" = some (some (.ref f_zaq)))
  (mt_zae:ac K (.ref c_zcc) "names" = some (some (.ref f_zae)))
  (mt_Write_need:ac K (.ref c_zcd) "need" = some (some (.ref f_zar)))
  (mt_Splice_need:ac K (.ref c_zcb) "need" = some (some (.ref f_zar)))
  (mt_Cell_need:ac K (.ref c_zce) "need" = some (some (.ref f_zar)))
  (mt_AddRow_need:ac K (.ref c_zby) "need" = some (some (.ref f_zar)))
  (mt_CutRow_need:ac K (.ref c_zbz) "need" = some (some (.ref f_zar)))
  (mt_Write_need_rest:ac K (.ref c_zcd) "need_rest" = some (some (.ref f_zb)))
  (mt_Splice_need_rest:ac K (.ref c_zcb) "need_rest" = some (some (.ref f_zb)))
  (mt_Cell_need_rest:ac K (.ref c_zce) "need_rest" = some (some (.ref f_za)))
  (mt_AddRow_need_rest:ac K (.ref c_zby) "need_rest" = some (some (.ref f_za)))
  (mt_CutRow_need_rest:ac K (.ref c_zbz) "need_rest" = some (some (.ref f_za)))
  (mt_zj:ac K (.ref c_zce) "need_table" = some (some (.ref f_zj)))
  (mt_zc:ac K (.ref c_zby) "need_table" = some (some (.ref f_zc)))
  (mt_zd:ac K (.ref c_zbz) "need_table" = some (some (.ref f_zd)))
  (mt_zn:ac K (.ref c_zcd) "need_text" = some (some (.ref f_zn)))
  (mt_zh:ac K (.ref c_zcb) "need_text" = some (some (.ref f_zh)))
  (mt_zo:ac K (.ref c_zce) "new_table" = some (some (.ref f_zo)))
  (mt_ze:ac K (.ref c_zby) "new_table" = some (some (.ref f_ze)))
  (mt_zf:ac K (.ref c_zbz) "new_table" = some (some (.ref f_zf)))
  (mt_zs:ac K (.ref c_zcd) "new_text" = some (some (.ref f_zs)))
  (mt_zl:ac K (.ref c_zcb) "new_text" = some (some (.ref f_zl)))
  (mt_Write_on:ac K (.ref c_zcd) "on" = some (some (.ref f_zbe)))
  (mt_Splice_on:ac K (.ref c_zcb) "on" = some (some (.ref f_zbe)))
  (mt_Cell_on:ac K (.ref c_zce) "on" = some (some (.ref f_zbe)))
  (mt_AddRow_on:ac K (.ref c_zby) "on" = some (some (.ref f_zbe)))
  (mt_CutRow_on:ac K (.ref c_zbz) "on" = some (some (.ref f_zbe)))
  (mt_zk:ac K (.ref c_zcc) "parent_of" = some (some (.ref f_zk)))
  (mt_zv:ac K (.ref c_zcc) "rank_of" = some (some (.ref f_zv)))
  (mt_zaf:ac K (.ref c_zcc) "state" = some (some (.ref f_zaf)))
  (mt_zal:ac K (.ref c_zcd) "told" = some (some (.ref f_zal)))
  (mt_zah:ac K (.ref c_zcb) "told" = some (some (.ref f_zah)))
  (mt_zap:ac K (.ref c_zce) "told" = some (some (.ref f_zap)))
  (mt_zab:ac K (.ref c_zby) "told" = some (some (.ref f_zab)))
  (mt_zad:ac K (.ref c_zbz) "told" = some (some (.ref f_zad)))
  (q_zaj:MetD K "__init__" "Plain.__init__" Jq f_zaj)
  (q_zat:MetD K "lay" "Plain.lay" Jz f_zat)
  (q_zaq:MetD K "made" "Edit.made" Jx f_zaq)
  (q_zq:MetD K "about" "PartEdit.about" R7 f_zq)
  (q_zal:MetD K "told" "Write.told" Js f_zal)
  (q_zah:MetD K "told" "Splice.told" Jo f_zah)
  (q_zap:MetD K "told" "Cell.told" Jw f_zap)
  (q_zab:MetD K "told" "AddRow.told" Ji f_zab)
  (q_zad:MetD K "told" "CutRow.told" Jk f_zad)
  (q_zaz:TopD K "_law_cell" J5 f_zaz)
  (q_zan:TopD K "_law_stream" Ju f_zan)
  (q_zbc:TopD K "_law_text" J8 f_zbc)
  (q_zax:TopD K "_law_table" J3 f_zax)
  (q_zaw:TopD K "_law_place" J2 f_zaw)
  (q_zba:TopD K "_law_deed" J6 f_zba)
  (q_zam:TopD K "has_length" Jt f_zam)
  (q_zy:TopD K "is_text_sign" Sf f_zy)
  (q_zbh:TopD K "is_text" Kc f_zbh)
  (q_zav:TopD K "is_letter" J1 f_zav)
  (q_zau:TopD K "is_figure" J0 f_zau)
  (q_zx:TopD K "is_name_sign" Se f_zx)
  (q_zbf:TopD K "is_name" Ka f_zbf)
  (q_zbk:TopD K "insist" Kf f_zbk)
  (q_zt:MetD K "__init__" "PartEdit.__init__" Sa f_zt)
  (q_zw:MetD K "__init__" "TextEdit.__init__" Sd f_zw)
  (q_zak:MetD K "__init__" "Write.__init__" Jr f_zak)
  (q_zay:TopD K "is_whole" J4 f_zay)
  (q_zbg:TopD K "is_rank" Kb f_zbg)
  (q_zag:MetD K "__init__" "Splice.__init__" Jn f_zag)
  (q_zr:MetD K "__init__" "TableEdit.__init__" R8 f_zr)
  (q_zao:MetD K "__init__" "Cell.__init__" Jv f_zao)
  (q_zai:TopD K "is_tuple_of" Jp f_zai)
  (q_zbl:TopD K "is_row" Kg f_zbl)
  (q_zaa:MetD K "__init__" "AddRow.__init__" Jh f_zaa)
  (q_zac:MetD K "__init__" "CutRow.__init__" Jj f_zac)
  (q_zbb:TopD K "_law_made" J7 f_zbb)
  (q_zz:TopD K "_law_rows_due" Sh f_zz)
  (q_zbi:TopD K "_law_due" Kd f_zbi)
  (l_zp:K.lookup f_zp=some ⟨oc_zp,od_zp,.func (bp "__init__" "EditError.__init__" (A7 Gy) (Ai Gy) (Aa Gy) (.ref Td_zp) kV_zp dc_zp pm_zp an_zp cd_zp ct_zp),sl_zp⟩)
  (c_zp:bW K cd_zp "EditError.__init__" = true)
  (k_zp:ak K (.ref f_zp)=true)
  (if_zp:bK K (.ref f_zp)=true)
  (ld_zp:K.lookup Td_zp=some ⟨tc_zp,td_zp,.seq #[.none] tn_zp,ts_zp⟩)
  (q_zas:MetD K "has" "Plain.has" Jy f_zas)
  (q_zaf:MetD K "state" "Plain.state" Jm f_zaf)
  (q_zu:MetD K "kind_of" "Plain.kind_of" Sb f_zu)
  (q_zg:MetD K "content_of" "Plain.content_of" Rv f_zg)
  (q_zn:MetD K "need_text" "Write.need_text" R5 f_zn)
  (q_zh:MetD K "need_text" "Splice.need_text" Rw f_zh)
  (q_zb:MetD K "need_rest" "TextEdit.need_rest" Rp f_zb)
  (q_zj:MetD K "need_table" "Cell.need_table" Ry f_zj)
  (q_zc:MetD K "need_table" "AddRow.need_table" Rq f_zc)
  (q_zd:MetD K "need_table" "CutRow.need_table" Rr f_zd)
  (q_za:MetD K "need_rest" "TableEdit.need_rest" Ro f_za)
  (l_zar:K.lookup f_zar=some ⟨oc_zar,od_zar,.func (bp "need" "Edit.need" (A7 Dn) (Ai Dn) (Aa Dn) (.ref Td_zar) kV_zar dc_zar pm_zar an_zar cd_zar ct_zar),sl_zar⟩)
  (c_zar:bW K cd_zar "Edit.need" = true)
  (k_zar:ak K (.ref f_zar)=true)
  (if_zar:bK K (.ref f_zar)=true)
  (ld_zar:K.lookup Td_zar=some ⟨tc_zar,td_zar,.seq #[.none] tn_zar,ts_zar⟩)
  (q_zs:MetD K "new_text" "Write.new_text" R9 f_zs)
  (q_zl:MetD K "new_text" "Splice.new_text" R0 f_zl)
  (q_zk:MetD K "parent_of" "Plain.parent_of" Rz f_zk)
  (q_zv:MetD K "rank_of" "Plain.rank_of" Sc f_zv)
  (q_zbj:TopD K "rewrite" Ke f_zbj)
  (q_zm:MetD K "change" "TextEdit.change" R3 f_zm)
  (q_zo:MetD K "new_table" "Cell.new_table" R6 f_zo)
  (q_ze:MetD K "new_table" "AddRow.new_table" Rt f_ze)
  (q_zf:MetD K "new_table" "CutRow.new_table" Ru f_zf)
  (q_zi:MetD K "change" "TableEdit.change" Rx f_zi)
  (l_zbe:K.lookup f_zbe=some ⟨oc_zbe,od_zbe,.func (bp "on" "Edit.on" (A7 Do) (Ai Do) (Aa Do) (.ref Td_zbe) kV_zbe dc_zbe pm_zbe an_zbe cd_zbe ct_zbe),sl_zbe⟩)
  (c_zbe:bW K cd_zbe "Edit.on" = true)
  (k_zbe:ak K (.ref f_zbe)=true)
  (if_zbe:bK K (.ref f_zbe)=true)
  (ld_zbe:K.lookup Td_zbe=some ⟨tc_zbe,td_zbe,.seq #[.none] tn_zbe,ts_zbe⟩)
  (q_zbd:TopD K "_law_told" J9 f_zbd)
  (q_zae:MetD K "names" "Plain.names" Jl f_zae)
  (q_zbm:TopD K "_law_so" Kh f_zbm)
  (a_zbn:aG K aB "law" = some (some (.ref f_zbn)))
  (l_zbn:K.lookup f_zbn=some ⟨oc_zbn,od_zbn,.func (bp "law" "law" (A7 Dp) (Ai Dp) (Aa Dp) .none kV_zbn dc_zbn pm_zbn an_zbn cd_zbn ct_zbn),sl_zbn⟩)
  (c_zbn:bW K cd_zbn "law" = true)
  (k_zbn:ak K (.ref f_zbn)=true)
  (x_zbt:XC K c_zbt (valTail))
  (x_zbw:XC K c_zbw (.ref c_zbt::valTail))
  (x_zbs:XC K c_zbs (.ref c_zbt::valTail))
  (x_zca:XC K c_zca (.ref c_zbs::.ref c_zbt::valTail))
  (x_zbv:XC K c_zbv (.ref c_zbs::.ref c_zbt::valTail))
  (x_zcf:XC K c_zcf (.ref c_zbs::.ref c_zbt::valTail))
  (x_zbx:XC K c_zbx (.ref c_zbs::.ref c_zbt::valTail))
  (v_zbo:aG K aB "GREATEST_RANK" = some (some u_zbo))
  (r_zbo:RelV (.int 1000000000) u_zbo)
  (v_zbp:aG K aB "LONGEST_TEXT" = some (some u_zbp))
  (r_zbp:RelV (.int 60) u_zbp)
  (v_zbq:aG K aB "PERCENT_SIGN" = some (some u_zbq))
  (r_zbq:RelV (.int 37) u_zbq)
  (v_zbu:aG K aB "MOST_ROWS" = some (some u_zbu))
  (r_zbu:RelV (.int 6) u_zbu)
  (v_zbr:aG K aB "MOST_CELLS" = some (some u_zbr))
  (r_zbr:RelV (.int 6) u_zbr)
  (v_zcg:aG K aB "TOP" = some (some u_zcg))
  (r_zcg:RelV (.str "") u_zcg)
  (z_all:aG K aB "all" = some none)
  (z_bool:aG K aB "bool" = some none)
  (z_int:aG K aB "int" = some none)
  (z_isinstance:aG K aB "isinstance" = some none)
  (z_len:aG K aB "len" = some none)
  (z_list:aG K aB "list" = some none)
  (z_max:aG K aB "max" = some none)
  (z_ord:aG K aB "ord" = some none)
  (z_range:aG K aB "range" = some none)
  (z_sorted:aG K aB "sorted" = some none)
  (z_str:aG K aB "str" = some none)
  (z_tuple:aG K aB "tuple" = some none)
  (na_zcc:ac K (.ref c_zcc) "records" = some none)
  (ca_zcd:ac K (.ref c_zcd) "__class__" = some (some (.builtin "object.__class__")))
  (mo_zcd:aV K c_zcd (.type "object")=some true)
  (me_zcd:aV K c_zcd (.ref c_Edit)=some true)
  (na_Write_part:ac K (.ref c_zcd) "part" = some none)
  (na_Write_text:ac K (.ref c_zcd) "text" = some none)
  (na_Write_at:ac K (.ref c_zcd) "at" = some none)
  (na_Write_size:ac K (.ref c_zcd) "size" = some none)
  (na_Write_row:ac K (.ref c_zcd) "row" = some none)
  (na_Write_column:ac K (.ref c_zcd) "column" = some none)
  (na_Write_cells:ac K (.ref c_zcd) "cells" = some none)
  (ca_zcb:ac K (.ref c_zcb) "__class__" = some (some (.builtin "object.__class__")))
  (mo_zcb:aV K c_zcb (.type "object")=some true)
  (me_zcb:aV K c_zcb (.ref c_Edit)=some true)
  (na_Splice_part:ac K (.ref c_zcb) "part" = some none)
  (na_Splice_text:ac K (.ref c_zcb) "text" = some none)
  (na_Splice_at:ac K (.ref c_zcb) "at" = some none)
  (na_Splice_size:ac K (.ref c_zcb) "size" = some none)
  (na_Splice_row:ac K (.ref c_zcb) "row" = some none)
  (na_Splice_column:ac K (.ref c_zcb) "column" = some none)
  (na_Splice_cells:ac K (.ref c_zcb) "cells" = some none)
  (ca_zce:ac K (.ref c_zce) "__class__" = some (some (.builtin "object.__class__")))
  (mo_zce:aV K c_zce (.type "object")=some true)
  (me_zce:aV K c_zce (.ref c_Edit)=some true)
  (na_Cell_part:ac K (.ref c_zce) "part" = some none)
  (na_Cell_text:ac K (.ref c_zce) "text" = some none)
  (na_Cell_at:ac K (.ref c_zce) "at" = some none)
  (na_Cell_size:ac K (.ref c_zce) "size" = some none)
  (na_Cell_row:ac K (.ref c_zce) "row" = some none)
  (na_Cell_column:ac K (.ref c_zce) "column" = some none)
  (na_Cell_cells:ac K (.ref c_zce) "cells" = some none)
  (ca_zby:ac K (.ref c_zby) "__class__" = some (some (.builtin "object.__class__")))
  (mo_zby:aV K c_zby (.type "object")=some true)
  (me_zby:aV K c_zby (.ref c_Edit)=some true)
  (na_AddRow_part:ac K (.ref c_zby) "part" = some none)
  (na_AddRow_text:ac K (.ref c_zby) "text" = some none)
  (na_AddRow_at:ac K (.ref c_zby) "at" = some none)
  (na_AddRow_size:ac K (.ref c_zby) "size" = some none)
  (na_AddRow_row:ac K (.ref c_zby) "row" = some none)
  (na_AddRow_column:ac K (.ref c_zby) "column" = some none)
  (na_AddRow_cells:ac K (.ref c_zby) "cells" = some none)
  (ca_zbz:ac K (.ref c_zbz) "__class__" = some (some (.builtin "object.__class__")))
  (mo_zbz:aV K c_zbz (.type "object")=some true)
  (me_zbz:aV K c_zbz (.ref c_Edit)=some true)
  (na_CutRow_part:ac K (.ref c_zbz) "part" = some none)
  (na_CutRow_text:ac K (.ref c_zbz) "text" = some none)
  (na_CutRow_at:ac K (.ref c_zbz) "at" = some none)
  (na_CutRow_size:ac K (.ref c_zbz) "size" = some none)
  (na_CutRow_row:ac K (.ref c_zbz) "row" = some none)
  (na_CutRow_column:ac K (.ref c_zbz) "column" = some none)
  (na_CutRow_cells:ac K (.ref c_zbz) "cells" = some none)
  (hn:cr K (.builtin "object.__class__") "__get__" = some (some (.builtin "getset_descriptor.__get__")))
  (htk:gZ K (.builtin "object.__class__")=some true)
  (ty_Edit:h_ K (.ref c_Edit)=some (.type "type"))
  (mr_Edit:aV K c_Edit (.ref c_Edit)=some true)
  (nb_NoPart_part:ac K (.ref c_zca) "part" = some none)
  (nb_NoPart_choice:ac K (.ref c_zca) "choice" = some none)
  (mb_zca:aV K c_zca (.ref c_zbs)=some true)
  (nb_WrongKind_part:ac K (.ref c_zbv) "part" = some none)
  (nb_WrongKind_choice:ac K (.ref c_zbv) "choice" = some none)
  (mb_zbv:aV K c_zbv (.ref c_zbs)=some true)
  (nb_Far_part:ac K (.ref c_zcf) "part" = some none)
  (nb_Far_choice:ac K (.ref c_zcf) "choice" = some none)
  (mb_zcf:aV K c_zcf (.ref c_zbs)=some true)
  (nb_TooLong_part:ac K (.ref c_zbx) "part" = some none)
  (nb_TooLong_choice:ac K (.ref c_zbx) "choice" = some none)
  (mb_zbx:aV K c_zbx (.ref c_zbs)=some true)
  (nd:[c_zbt,c_zbs,c_zca,c_zbv,c_zcf,c_zbx].Nodup)
  : ∃ (t:Adr) (fd:ai),(∀ (s:ah) (v:Value),iP s fd ⟨[v],[]⟩ [("_law_script", v)]) /\ ∀ base:Heap,K.In base->base.Ns aB mg->FnOk l.prog w K mg base CX0 11 fa fd ["_law_script"] (Nj K t):=by
 obtain⟨d_zaj,g_zaj⟩:=q_zaj.ok (ps:=Ny) fun _ _ _ _ _ _ us hl=>C3 (fun _=>rfl) us hl
 obtain⟨d_zat,g_zat⟩:=q_zat.ok (ps:=N8) fun _ _ _ _ _ _ us hl=>ce6 (fun _ _ _ _ _ _=>rfl) us hl
 obtain⟨d_zaq,g_zaq⟩:=q_zaq.ok (ps:=N5) fun _ _ _ _ _ _ us hl=>C3 (fun _=>rfl) us hl
 obtain⟨d_zq,g_zq⟩:=q_zq.ok (ps:=Yg) fun _ _ _ _ _ _ us hl=>C3 (fun _=>rfl) us hl
 obtain⟨d_zal,g_zal⟩:=q_zal.ok (ps:=N0) fun _ _ _ _ _ _ us hl=>C3 (fun _=>rfl) us hl
 obtain⟨d_zah,g_zah⟩:=q_zah.ok (ps:=Nw) fun _ _ _ _ _ _ us hl=>C3 (fun _=>rfl) us hl
 obtain⟨d_zap,g_zap⟩:=q_zap.ok (ps:=N4) fun _ _ _ _ _ _ us hl=>C3 (fun _=>rfl) us hl
 obtain⟨d_zab,g_zab⟩:=q_zab.ok (ps:=Np) fun _ _ _ _ _ _ us hl=>C3 (fun _=>rfl) us hl
 obtain⟨d_zad,g_zad⟩:=q_zad.ok (ps:=Nr) fun _ _ _ _ _ _ us hl=>C3 (fun _=>rfl) us hl
 obtain⟨d_zaz,g_zaz⟩:=q_zaz.ok X G (ps:=Oe) fun _ _ _ _ _ _ us hl=>Ce (fun _ _=>rfl) us hl
 obtain⟨d_zan,g_zan⟩:=q_zan.ok X G (ps:=N2) fun _ _ _ _ _ _ us hl=>Ce (fun _ _=>rfl) us hl
 obtain⟨d_zbc,g_zbc⟩:=q_zbc.ok X G (ps:=Oh) fun _ _ _ _ _ _ us hl=>C3 (fun _=>rfl) us hl
 obtain⟨d_zax,g_zax⟩:=q_zax.ok X G (ps:=Oc) fun _ _ _ _ _ _ us hl=>C3 (fun _=>rfl) us hl
 obtain⟨d_zaw,g_zaw⟩:=q_zaw.ok X G (ps:=Ob) fun _ _ _ _ _ _ us hl=>Ce (fun _ _=>rfl) us hl
 obtain⟨d_zba,g_zba⟩:=q_zba.ok X G (ps:=Of) fun _ _ _ _ _ _ us hl=>Ce (fun _ _=>rfl) us hl
 obtain⟨d_zam,g_zam⟩:=q_zam.ok X G (ps:=N1) fun _ _ _ _ _ _ us hl=>Fy (fun _ _ _=>rfl) us hl
 obtain⟨d_zy,g_zy⟩:=q_zy.ok X G (ps:=Yo) fun _ _ _ _ _ _ us hl=>C3 (fun _=>rfl) us hl
 obtain⟨d_zbh,g_zbh⟩:=q_zbh.ok X G (ps:=On) fun _ _ _ _ _ _ us hl=>C3 (fun _=>rfl) us hl
 obtain⟨d_zav,g_zav⟩:=q_zav.ok X G (ps:=Oa) fun _ _ _ _ _ _ us hl=>C3 (fun _=>rfl) us hl
 obtain⟨d_zau,g_zau⟩:=q_zau.ok X G (ps:=N9) fun _ _ _ _ _ _ us hl=>C3 (fun _=>rfl) us hl
 obtain⟨d_zx,g_zx⟩:=q_zx.ok X G (ps:=Yn) fun _ _ _ _ _ _ us hl=>C3 (fun _=>rfl) us hl
 obtain⟨d_zbf,g_zbf⟩:=q_zbf.ok X G (ps:=Ol) fun _ _ _ _ _ _ us hl=>C3 (fun _=>rfl) us hl
 obtain⟨d_zbk,g_zbk⟩:=q_zbk.ok X G (ps:=Oq) fun _ _ _ _ _ _ us hl=>C3 (fun _=>rfl) us hl
 obtain⟨d_zt,g_zt⟩:=q_zt.ok (ps:=Yj) fun _ _ _ _ _ _ us hl=>Ce (fun _ _=>rfl) us hl
 obtain⟨d_zw,g_zw⟩:=q_zw.ok (ps:=Ym) fun _ _ _ _ _ _ us hl=>Ce (fun _ _=>rfl) us hl
 obtain⟨d_zak,g_zak⟩:=q_zak.ok (ps:=Nz) fun _ _ _ _ _ _ us hl=>Fy (fun _ _ _=>rfl) us hl
 obtain⟨d_zay,g_zay⟩:=q_zay.ok X G (ps:=Od) fun _ _ _ _ _ _ us hl=>C3 (fun _=>rfl) us hl
 obtain⟨d_zbg,g_zbg⟩:=q_zbg.ok X G (ps:=Om) fun _ _ _ _ _ _ us hl=>C3 (fun _=>rfl) us hl
 obtain⟨d_zag,g_zag⟩:=q_zag.ok (ps:=Nv) fun _ _ _ _ _ _ us hl=>bu9 (fun _ _ _ _ _=>rfl) us hl
 obtain⟨d_zr,g_zr⟩:=q_zr.ok (ps:=Yh) fun _ _ _ _ _ _ us hl=>Ce (fun _ _=>rfl) us hl
 obtain⟨d_zao,g_zao⟩:=q_zao.ok (ps:=N3) fun _ _ _ _ _ _ us hl=>bu9 (fun _ _ _ _ _=>rfl) us hl
 obtain⟨d_zai,g_zai⟩:=q_zai.ok X G (ps:=Nx) fun _ _ _ _ _ _ us hl=>Ce (fun _ _=>rfl) us hl
 obtain⟨d_zbl,g_zbl⟩:=q_zbl.ok X G (ps:=Os) fun _ _ _ _ _ _ us hl=>C3 (fun _=>rfl) us hl
 obtain⟨d_zaa,g_zaa⟩:=q_zaa.ok (ps:=No) fun _ _ _ _ _ _ us hl=>bu8 (fun _ _ _ _=>rfl) us hl
 obtain⟨d_zac,g_zac⟩:=q_zac.ok (ps:=Nq) fun _ _ _ _ _ _ us hl=>Fy (fun _ _ _=>rfl) us hl
 obtain⟨d_zbb,g_zbb⟩:=q_zbb.ok X G (ps:=Og) fun _ _ _ _ _ _ us hl=>C3 (fun _=>rfl) us hl
 obtain⟨d_zz,g_zz⟩:=q_zz.ok X G (ps:=Yp) fun _ _ _ _ _ _ us hl=>Ce (fun _ _=>rfl) us hl
 obtain⟨d_zbi,g_zbi⟩:=q_zbi.ok X G (ps:=Oo) fun _ _ _ _ _ _ us hl=>Ce (fun _ _=>rfl) us hl
 have F_zp:=Mq (st:=Gy) l_zp c_zp k_zp
 have b_zp:∀ j,j<=1->Binds K (bp "__init__" "EditError.__init__" (A7 Gy) (Ai Gy) (Aa Gy) (.ref Td_zp) kV_zp dc_zp pm_zp an_zp cd_zp ct_zp) Yf ([bh].drop j):=fun j hj=>by
  match j,hj with
  | 0,_=>exact B2 2 rfl ld_zp rfl rfl (fun us hl=>Ce (fun _ _=>⟨_,rfl,rfl⟩) us hl)
  | 1,_=>exact B2 3 rfl ld_zp rfl rfl (fun us hl=>Fy (fun _ _ _=>⟨_,rfl,rfl⟩) us hl)
 obtain⟨d_zas,g_zas⟩:=q_zas.ok (ps:=N7) fun _ _ _ _ _ _ us hl=>Ce (fun _ _=>rfl) us hl
 obtain⟨d_zaf,g_zaf⟩:=q_zaf.ok (ps:=Nu) fun _ _ _ _ _ _ us hl=>Ce (fun _ _=>rfl) us hl
 obtain⟨d_zu,g_zu⟩:=q_zu.ok (ps:=Yk) fun _ _ _ _ _ _ us hl=>Ce (fun _ _=>rfl) us hl
 obtain⟨d_zg,g_zg⟩:=q_zg.ok (ps:=X6) fun _ _ _ _ _ _ us hl=>Ce (fun _ _=>rfl) us hl
 obtain⟨d_zn,g_zn⟩:=q_zn.ok (ps:=Yd) fun _ _ _ _ _ _ us hl=>Fy (fun _ _ _=>rfl) us hl
 obtain⟨d_zh,g_zh⟩:=q_zh.ok (ps:=X7) fun _ _ _ _ _ _ us hl=>Fy (fun _ _ _=>rfl) us hl
 obtain⟨d_zb,g_zb⟩:=q_zb.ok (ps:=X1) fun _ _ _ _ _ _ us hl=>Fy (fun _ _ _=>rfl) us hl
 obtain⟨d_zj,g_zj⟩:=q_zj.ok (ps:=X9) fun _ _ _ _ _ _ us hl=>Fy (fun _ _ _=>rfl) us hl
 obtain⟨d_zc,g_zc⟩:=q_zc.ok (ps:=X2) fun _ _ _ _ _ _ us hl=>Fy (fun _ _ _=>rfl) us hl
 obtain⟨d_zd,g_zd⟩:=q_zd.ok (ps:=X3) fun _ _ _ _ _ _ us hl=>Fy (fun _ _ _=>rfl) us hl
 obtain⟨d_za,g_za⟩:=q_za.ok (ps:=X0) fun _ _ _ _ _ _ us hl=>Fy (fun _ _ _=>rfl) us hl
 have F_zar:=Mq (st:=Dn) l_zar c_zar k_zar
 have b_zar:∀ j,j<=1->Binds K (bp "need" "Edit.need" (A7 Dn) (Ai Dn) (Aa Dn) (.ref Td_zar) kV_zar dc_zar pm_zar an_zar cd_zar ct_zar) N6 ([bh].drop j):=fun j hj=>by
  match j,hj with
  | 0,_=>exact B2 2 rfl ld_zar rfl rfl (fun us hl=>Ce (fun _ _=>⟨_,rfl,rfl⟩) us hl)
  | 1,_=>exact B2 3 rfl ld_zar rfl rfl (fun us hl=>Fy (fun _ _ _=>⟨_,rfl,rfl⟩) us hl)
 obtain⟨d_zs,g_zs⟩:=q_zs.ok (ps:=Yi) fun _ _ _ _ _ _ us hl=>Ce (fun _ _=>rfl) us hl
 obtain⟨d_zl,g_zl⟩:=q_zl.ok (ps:=Yb) fun _ _ _ _ _ _ us hl=>Ce (fun _ _=>rfl) us hl
 obtain⟨d_zk,g_zk⟩:=q_zk.ok (ps:=Ya) fun _ _ _ _ _ _ us hl=>Ce (fun _ _=>rfl) us hl
 obtain⟨d_zv,g_zv⟩:=q_zv.ok (ps:=Yl) fun _ _ _ _ _ _ us hl=>Ce (fun _ _=>rfl) us hl
 obtain⟨d_zbj,g_zbj⟩:=q_zbj.ok X G (ps:=Op) fun _ _ _ _ _ _ us hl=>Fy (fun _ _ _=>rfl) us hl
 obtain⟨d_zm,g_zm⟩:=q_zm.ok (ps:=Yc) fun _ _ _ _ _ _ us hl=>Ce (fun _ _=>rfl) us hl
 obtain⟨d_zo,g_zo⟩:=q_zo.ok (ps:=Ye) fun _ _ _ _ _ _ us hl=>Ce (fun _ _=>rfl) us hl
 obtain⟨d_ze,g_ze⟩:=q_ze.ok (ps:=X4) fun _ _ _ _ _ _ us hl=>Ce (fun _ _=>rfl) us hl
 obtain⟨d_zf,g_zf⟩:=q_zf.ok (ps:=X5) fun _ _ _ _ _ _ us hl=>Ce (fun _ _=>rfl) us hl
 obtain⟨d_zi,g_zi⟩:=q_zi.ok (ps:=X8) fun _ _ _ _ _ _ us hl=>Ce (fun _ _=>rfl) us hl
 have F_zbe:=Mq (st:=Do) l_zbe c_zbe k_zbe
 have b_zbe:∀ j,j<=1->Binds K (bp "on" "Edit.on" (A7 Do) (Ai Do) (Aa Do) (.ref Td_zbe) kV_zbe dc_zbe pm_zbe an_zbe cd_zbe ct_zbe) Oj ([bh].drop j):=fun j hj=>by
  match j,hj with
  | 0,_=>exact B2 2 rfl ld_zbe rfl rfl (fun us hl=>Ce (fun _ _=>⟨_,rfl,rfl⟩) us hl)
  | 1,_=>exact B2 3 rfl ld_zbe rfl rfl (fun us hl=>Fy (fun _ _ _=>⟨_,rfl,rfl⟩) us hl)
 obtain⟨d_zbd,g_zbd⟩:=q_zbd.ok X G (ps:=Oi) fun _ _ _ _ _ _ us hl=>bu8 (fun _ _ _ _=>rfl) us hl
 obtain⟨d_zae,g_zae⟩:=q_zae.ok (ps:=Nt) fun _ _ _ _ _ _ us hl=>C3 (fun _=>rfl) us hl
 obtain⟨d_zbm,g_zbm⟩:=q_zbm.ok X G (ps:=Ot) fun _ _ _ _ _ _ us hl=>Ce (fun _ _=>rfl) us hl
 have F_zbn:=Qt (st:=Dp) l_zbn c_zbn k_zbn
 have b_zbn:=F_zbn.binds (ps:=Ou) fun _ _ _ _ _ _ us hl=>C3 (fun _=>rfl) us hl
 have m:=aO X G a_zbn
 have e:fa=f_zbn:=by
  rw [hfa] at m
  injection m with m
  injection m
 subst e
 have tl_1:∀ {a:Addr},Ax (.ref a::valTail)=true:=fun {a}=>by show Ax valTail=true;decide +kernel
 have tl_2:∀ {a b:Addr},Ax (.ref a::.ref b::valTail)=true:=fun {a b}=>by show Ax valTail=true;decide +kernel
 have AO:ap8 K mg ⟨f_zaj,d_zaj,f_zat,d_zat,f_zaq,d_zaq,f_zq,d_zq,f_zal,d_zal,f_zah,d_zah,f_zap,d_zap,f_zab,d_zab,f_zad,d_zad,f_zaz,d_zaz,f_zan,d_zan,f_zbc,d_zbc,f_zax,d_zax,f_zaw,d_zaw,f_zba,d_zba,f_zam,d_zam,f_zy,d_zy,f_zbh,d_zbh,f_zav,d_zav,f_zau,d_zau,f_zx,d_zx,f_zbf,d_zbf,f_zbk,d_zbk,f_zt,d_zt,f_zw,d_zw,f_zak,d_zak,f_zay,d_zay,f_zbg,d_zbg,f_zag,d_zag,f_zr,d_zr,f_zao,d_zao,f_zai,d_zai,f_zbl,d_zbl,f_zaa,d_zaa,f_zac,d_zac,f_zbb,d_zbb,f_zz,d_zz,f_zbi,d_zbi,f_zp,_,f_zas,d_zas,f_zaf,d_zaf,f_zu,d_zu,f_zg,d_zg,f_zn,d_zn,f_zh,d_zh,f_zb,d_zb,f_zj,d_zj,f_zc,d_zc,f_zd,d_zd,f_za,d_za,f_zar,_,f_zs,d_zs,f_zl,d_zl,f_zk,d_zk,f_zv,d_zv,f_zbj,d_zbj,f_zm,d_zm,f_zo,d_zo,f_ze,d_ze,f_zf,d_zf,f_zi,d_zi,f_zbe,_,f_zbd,d_zbd,f_zae,d_zae,f_zbm,d_zbm,fa,_,.ref Td_zp,[bh],.ref Td_zar,[bh],.ref Td_zbe,[bh],c_zbt,c_zbw,c_zbs,c_zca,c_zbv,c_zcf,c_zbx,c_zcc,c_zcd,c_zcb,c_zce,c_zby,c_zbz,c_Edit,c_PartEdit,c_TextEdit,c_TableEdit,u_zbo,u_zbp,u_zbq,u_zbu,u_zbr,u_zcg⟩:=⟨g_zaj,g_zat,g_zaq,g_zq,g_zal,g_zah,g_zap,g_zab,g_zad,g_zaz,g_zan,g_zbc,g_zax,g_zaw,g_zba,g_zam,g_zy,g_zbh,g_zav,g_zau,g_zx,g_zbf,g_zbk,g_zt,g_zw,g_zak,g_zay,g_zbg,g_zag,g_zr,g_zao,g_zai,g_zbl,g_zaa,g_zac,g_zbb,g_zz,g_zbi,F_zp,b_zp,(.cons rfl .nil),if_zp,g_zas,g_zaf,g_zu,g_zg,g_zn,g_zh,g_zb,g_zj,g_zc,g_zd,g_za,F_zar,b_zar,(.cons rfl .nil),if_zar,g_zs,g_zl,g_zk,g_zv,g_zbj,g_zm,g_zo,g_ze,g_zf,g_zi,F_zbe,b_zbe,(.cons rfl .nil),if_zbe,g_zbd,g_zae,g_zbm,F_zbn.toD,(fun j _=>by rw [List.drop_nil];exact b_zbn),.nil,aO X G a_zbn,aO X G a_zbt,kp_zbt,x_zbt.ecls (by decide +kernel),in_zbt,aO X G a_zbw,kp_zbw,x_zbw.ecls tl_1,in_zbw,aO X G a_zbs,kp_zbs,x_zbs.ecls tl_1,in_zbs,aO X G a_zca,kp_zca,x_zca.ecls tl_2,in_zca,aO X G a_zbv,kp_zbv,x_zbv.ecls tl_2,in_zbv,aO X G a_zcf,kp_zcf,x_zcf.ecls tl_2,in_zcf,aO X G a_zbx,kp_zbx,x_zbx.ecls tl_2,in_zbx,aO X G a_zcc,kp_zcc,mk_zcc,in_zcc,⟨pg_zcc,hd_zcc,po_zcc,sa_zcc⟩,aO X G a_zcd,kp_zcd,mk_zcd,in_zcd,⟨pg_zcd,hd_zcd,po_zcd,sa_zcd⟩,aO X G a_zcb,kp_zcb,mk_zcb,in_zcb,⟨pg_zcb,hd_zcb,po_zcb,sa_zcb⟩,aO X G a_zce,kp_zce,mk_zce,in_zce,⟨pg_zce,hd_zce,po_zce,sa_zce⟩,aO X G a_zby,kp_zby,mk_zby,in_zby,⟨pg_zby,hd_zby,po_zby,sa_zby⟩,aO X G a_zbz,kp_zbz,mk_zbz,in_zbz,⟨pg_zbz,hd_zbz,po_zbz,sa_zbz⟩,aO X G a_Edit,aO X G a_PartEdit,⟨sg_PartEdit,sr_PartEdit,sf_PartEdit,rfl⟩,aO X G a_TextEdit,⟨sg_TextEdit,sr_TextEdit,sf_TextEdit,rfl⟩,aO X G a_TableEdit,⟨sg_TableEdit,sr_TableEdit,sf_TableEdit,rfl⟩,⟨mt_Write_about,g_zq.i,g_zq.F.kp⟩,⟨mt_Splice_about,g_zq.i,g_zq.F.kp⟩,⟨mt_Cell_about,g_zq.i,g_zq.F.kp⟩,⟨mt_AddRow_about,g_zq.i,g_zq.F.kp⟩,⟨mt_CutRow_about,g_zq.i,g_zq.F.kp⟩,⟨mt_Write_change,g_zm.i,g_zm.F.kp⟩,⟨mt_Splice_change,g_zm.i,g_zm.F.kp⟩,⟨mt_Cell_change,g_zi.i,g_zi.F.kp⟩,⟨mt_AddRow_change,g_zi.i,g_zi.F.kp⟩,⟨mt_CutRow_change,g_zi.i,g_zi.F.kp⟩,⟨mt_zg,g_zg.i,g_zg.F.kp⟩,⟨mt_zas,g_zas.i,g_zas.F.kp⟩,⟨mt_zu,g_zu.i,g_zu.F.kp⟩,⟨mt_zat,g_zat.i,g_zat.F.kp⟩,⟨mt_Write_made,g_zaq.i,g_zaq.F.kp⟩,⟨mt_Splice_made,g_zaq.i,g_zaq.F.kp⟩,⟨mt_Cell_made,g_zaq.i,g_zaq.F.kp⟩,⟨mt_AddRow_made,g_zaq.i,g_zaq.F.kp⟩,⟨mt_CutRow_made,g_zaq.i,g_zaq.F.kp⟩,⟨mt_zae,g_zae.i,g_zae.F.kp⟩,⟨mt_Write_need,if_zar,k_zar⟩,⟨mt_Splice_need,if_zar,k_zar⟩,⟨mt_Cell_need,if_zar,k_zar⟩,⟨mt_AddRow_need,if_zar,k_zar⟩,⟨mt_CutRow_need,if_zar,k_zar⟩,⟨mt_Write_need_rest,g_zb.i,g_zb.F.kp⟩,⟨mt_Splice_need_rest,g_zb.i,g_zb.F.kp⟩,⟨mt_Cell_need_rest,g_za.i,g_za.F.kp⟩,⟨mt_AddRow_need_rest,g_za.i,g_za.F.kp⟩,⟨mt_CutRow_need_rest,g_za.i,g_za.F.kp⟩,⟨mt_zj,g_zj.i,g_zj.F.kp⟩,⟨mt_zc,g_zc.i,g_zc.F.kp⟩,⟨mt_zd,g_zd.i,g_zd.F.kp⟩,⟨mt_zn,g_zn.i,g_zn.F.kp⟩,⟨mt_zh,g_zh.i,g_zh.F.kp⟩,⟨mt_zo,g_zo.i,g_zo.F.kp⟩,⟨mt_ze,g_ze.i,g_ze.F.kp⟩,⟨mt_zf,g_zf.i,g_zf.F.kp⟩,⟨mt_zs,g_zs.i,g_zs.F.kp⟩,⟨mt_zl,g_zl.i,g_zl.F.kp⟩,⟨mt_Write_on,if_zbe,k_zbe⟩,⟨mt_Splice_on,if_zbe,k_zbe⟩,⟨mt_Cell_on,if_zbe,k_zbe⟩,⟨mt_AddRow_on,if_zbe,k_zbe⟩,⟨mt_CutRow_on,if_zbe,k_zbe⟩,⟨mt_zk,g_zk.i,g_zk.F.kp⟩,⟨mt_zv,g_zv.i,g_zv.F.kp⟩,⟨mt_zaf,g_zaf.i,g_zaf.F.kp⟩,⟨mt_zal,g_zal.i,g_zal.F.kp⟩,⟨mt_zah,g_zah.i,g_zah.F.kp⟩,⟨mt_zap,g_zap.i,g_zap.F.kp⟩,⟨mt_zab,g_zab.i,g_zab.F.kp⟩,⟨mt_zad,g_zad.i,g_zad.F.kp⟩,aO X G v_zbo,r_zbo,aO X G v_zbp,r_zbp,aO X G v_zbq,r_zbq,aO X G v_zbu,r_zbu,aO X G v_zbr,r_zbr,aO X G v_zcg,r_zcg,(fun x hx=>by
   simp only [bl,ax,aK,or_false] at hx
   rcases hx with rfl|rfl|rfl|rfl|rfl|rfl|rfl|rfl|rfl|rfl|rfl|rfl
   all_goals exact PySem.W.mg_none_of X G (by assumption)),⟨⟨pg_zcc,hd_zcc,po_zcc,sa_zcc⟩,na_zcc,(fun C h=>by
  simp only [Y7,ax,aK,or_false] at h
  rcases h with rfl|rfl|rfl|rfl|rfl
  ·exact⟨⟨pg_zcd,hd_zcd,po_zcd,sa_zcd⟩,⟨ca_zcd,mo_zcd,me_zcd⟩,(fun f hf=>by
   simp only [Qr,ax,aK,or_false] at hf
   rcases hf with rfl|rfl|rfl|rfl|rfl|rfl|rfl
   ·exact na_Write_part
   ·exact na_Write_text
   ·exact na_Write_at
   ·exact na_Write_size
   ·exact na_Write_row
   ·exact na_Write_column
   ·exact na_Write_cells)⟩
  ·exact⟨⟨pg_zcb,hd_zcb,po_zcb,sa_zcb⟩,⟨ca_zcb,mo_zcb,me_zcb⟩,(fun f hf=>by
   simp only [Qr,ax,aK,or_false] at hf
   rcases hf with rfl|rfl|rfl|rfl|rfl|rfl|rfl
   ·exact na_Splice_part
   ·exact na_Splice_text
   ·exact na_Splice_at
   ·exact na_Splice_size
   ·exact na_Splice_row
   ·exact na_Splice_column
   ·exact na_Splice_cells)⟩
  ·exact⟨⟨pg_zce,hd_zce,po_zce,sa_zce⟩,⟨ca_zce,mo_zce,me_zce⟩,(fun f hf=>by
   simp only [Qr,ax,aK,or_false] at hf
   rcases hf with rfl|rfl|rfl|rfl|rfl|rfl|rfl
   ·exact na_Cell_part
   ·exact na_Cell_text
   ·exact na_Cell_at
   ·exact na_Cell_size
   ·exact na_Cell_row
   ·exact na_Cell_column
   ·exact na_Cell_cells)⟩
  ·exact⟨⟨pg_zby,hd_zby,po_zby,sa_zby⟩,⟨ca_zby,mo_zby,me_zby⟩,(fun f hf=>by
   simp only [Qr,ax,aK,or_false] at hf
   rcases hf with rfl|rfl|rfl|rfl|rfl|rfl|rfl
   ·exact na_AddRow_part
   ·exact na_AddRow_text
   ·exact na_AddRow_at
   ·exact na_AddRow_size
   ·exact na_AddRow_row
   ·exact na_AddRow_column
   ·exact na_AddRow_cells)⟩
  ·exact⟨⟨pg_zbz,hd_zbz,po_zbz,sa_zbz⟩,⟨ca_zbz,mo_zbz,me_zbz⟩,(fun f hf=>by
   simp only [Qr,ax,aK,or_false] at hf
   rcases hf with rfl|rfl|rfl|rfl|rfl|rfl|rfl
   ·exact na_CutRow_part
   ·exact na_CutRow_text
   ·exact na_CutRow_at
   ·exact na_CutRow_size
   ·exact na_CutRow_row
   ·exact na_CutRow_column
   ·exact na_CutRow_cells)⟩),hn,htk,ty_Edit,mr_Edit,(fun i C h=>by
  match i,h with
  | 0,h=>cases h;exact⟨x_zca.ecls tl_2,nb_NoPart_part,nb_NoPart_choice,mb_zca,bx4 nd x_zca x_zbv x_zcf x_zbx 0 _ rfl⟩
  | 1,h=>cases h;exact⟨x_zbv.ecls tl_2,nb_WrongKind_part,nb_WrongKind_choice,mb_zbv,bx4 nd x_zca x_zbv x_zcf x_zbx 1 _ rfl⟩
  | 2,h=>cases h;exact⟨x_zcf.ecls tl_2,nb_Far_part,nb_Far_choice,mb_zcf,bx4 nd x_zca x_zbv x_zcf x_zbx 2 _ rfl⟩
  | 3,h=>cases h;exact⟨x_zbx.ecls tl_2,nb_TooLong_part,nb_TooLong_choice,mb_zbx,bx4 nd x_zca x_zbv x_zcf x_zbx 3 _ rfl⟩)⟩⟩
 exact⟨_,bp "law" "law" (A7 Dp) (Ai Dp) (Aa Dp) .none kV_zbn dc_zbn pm_zbn an_zbn cd_zbn ct_zbn,fun s v=>.of_eq rfl,fun base _ _=>a47 AO⟩
noncomputable def sp0 (K:aa):Sp:=fun vs H Q _=>∃ (a:Addr) (ns:List Int),vs=[.ref a]/\SqL K H a (ns.map V.int)/\ns.length<=63 /\ ∀ H',Q (.bl true) H'
theorem mkF {P:aE} {w:bq} {K:aa} {mg:Str->Option Value} {fa:Addr} (F:∃ (t:Adr) (fd:ai),(∀ (s:ah) (v:Value),iP s fd ⟨[v],[]⟩ [("_law_script", v)]) /\ ∀ base:Heap,K.In base->base.Ns aB mg->FnOk P w K mg base CX0 11 fa fd ["_law_script"] (Nj K t)) :
  ∃ fd:ai,(∀ (s:ah) (u:Value),iP s fd ⟨[u],[]⟩ [("_law_script", u)]) /\ ∀ base:Heap,K.In base->base.Ns aB mg->FnOk P w K mg base CX0 11 fa fd ["_law_script"] (sp0 K):=
 let ⟨t,fd,h1,h2⟩:=F;⟨fd,h1,fun base x y=>(h2 base x y).imp fun vs H Q E z=>z⟩
end K24
end
open PySem.W.X PySem.W.ZRun in
set_option maxRecDepth 100000 in
set_option maxHeartbeats 0 in
theorem PySem.Challenge.cw_manyleaf_k24_contents_edited_holds : PySem.Challenge.rw_manyleaf_k24_contents_edited.Holds := by
 w_on;o_law;z_head;(case hw=>w_witness2)
 k_fill
 intro w s₀ s₁ mg mb G y fa o pm cd doc dV kV ho hd hcd hD hmg hg args vals as L hpre hlay hrd hwl hlo
 z_open y L KX ZH ZN ZT
 refine Att.walk_z (l:=PySem.Challenge.rw_manyleaf_k24_contents_edited) (n:=63) (k:=11) (x := "_law_script") (CX:=L2.CX0) (sp:=K24.sp0) rfl (by decide) rfl ⟨rfl,by decide,by decide⟩ G KX hD hmg hg L hpre hwl ZT ?tk ?F ?hsp ?hCX
 case hsp=>exact fun H a ns hl _ hS=>⟨a,ns,rfl,hS,hl,fun _=>rfl⟩
 case hCX=>exact fun _ _ _ _ z=>z
 case tk=>
  refine' Att.tok_mk ?l ?e
  (case l=>k_is)
  (case e=>kernel_rfl)
 case F=>
  refine K24.mkF ?_
  refine' K24.all_mk (l:=PySem.Challenge.rw_manyleaf_k24_contents_edited) KX G.T.g hmg ?a_zbt ?a_zbw ?a_zbs ?a_zca ?a_zbv ?a_zcf ?a_zbx ?in_zbt ?kp_zbt ?in_zbw ?kp_zbw ?in_zbs ?kp_zbs ?in_zca ?kp_zca ?in_zbv ?kp_zbv ?in_zcf ?kp_zcf ?in_zbx ?kp_zbx ?a_zcc ?a_zcd ?a_zcb ?a_zce ?a_zby ?a_zbz ?in_zcc ?kp_zcc ?mk_zcc ?pg_zcc ?hd_zcc ?po_zcc ?sa_zcc ?in_zcd ?kp_zcd ?mk_zcd ?pg_zcd ?hd_zcd ?po_zcd ?sa_zcd ?in_zcb ?kp_zcb ?mk_zcb ?pg_zcb ?hd_zcb ?po_zcb ?sa_zcb ?in_zce ?kp_zce ?mk_zce ?pg_zce ?hd_zce ?po_zce ?sa_zce ?in_zby ?kp_zby ?mk_zby ?pg_zby ?hd_zby ?po_zby ?sa_zby ?in_zbz ?kp_zbz ?mk_zbz ?pg_zbz ?hd_zbz ?po_zbz ?sa_zbz ?a_Edit ?a_PartEdit ?a_TextEdit ?a_TableEdit ?sg_PartEdit ?sr_PartEdit ?sf_PartEdit ?sg_TextEdit ?sr_TextEdit ?sf_TextEdit ?sg_TableEdit ?sr_TableEdit ?sf_TableEdit ?mt_Write_about ?mt_Splice_about ?mt_Cell_about ?mt_AddRow_about ?mt_CutRow_about ?mt_Write_change ?mt_Splice_change ?mt_Cell_change ?mt_AddRow_change ?mt_CutRow_change ?mt_zg ?mt_zas ?mt_zu ?mt_zat ?mt_Write_made ?mt_Splice_made ?mt_Cell_made ?mt_AddRow_made ?mt_CutRow_made ?mt_zae ?mt_Write_need ?mt_Splice_need ?mt_Cell_need ?mt_AddRow_need ?mt_CutRow_need ?mt_Write_need_rest ?mt_Splice_need_rest ?mt_Cell_need_rest ?mt_AddRow_need_rest ?mt_CutRow_need_rest ?mt_zj ?mt_zc ?mt_zd ?mt_zn ?mt_zh ?mt_zo ?mt_ze ?mt_zf ?mt_zs ?mt_zl ?mt_Write_on ?mt_Splice_on ?mt_Cell_on ?mt_AddRow_on ?mt_CutRow_on ?mt_zk ?mt_zv ?mt_zaf ?mt_zal ?mt_zah ?mt_zap ?mt_zab ?mt_zad ?q_zaj ?q_zat ?q_zaq ?q_zq ?q_zal ?q_zah ?q_zap ?q_zab ?q_zad ?q_zaz ?q_zan ?q_zbc ?q_zax ?q_zaw ?q_zba ?q_zam ?q_zy ?q_zbh ?q_zav ?q_zau ?q_zx ?q_zbf ?q_zbk ?q_zt ?q_zw ?q_zak ?q_zay ?q_zbg ?q_zag ?q_zr ?q_zao ?q_zai ?q_zbl ?q_zaa ?q_zac ?q_zbb ?q_zz ?q_zbi ?l_zp ?c_zp ?k_zp ?if_zp ?ld_zp ?q_zas ?q_zaf ?q_zu ?q_zg ?q_zn ?q_zh ?q_zb ?q_zj ?q_zc ?q_zd ?q_za ?l_zar ?c_zar ?k_zar ?if_zar ?ld_zar ?q_zs ?q_zl ?q_zk ?q_zv ?q_zbj ?q_zm ?q_zo ?q_ze ?q_zf ?q_zi ?l_zbe ?c_zbe ?k_zbe ?if_zbe ?ld_zbe ?q_zbd ?q_zae ?q_zbm ?a_zbn ?l_zbn ?c_zbn ?k_zbn ?x_zbt ?x_zbw ?x_zbs ?x_zca ?x_zbv ?x_zcf ?x_zbx ?v_zbo ?r_zbo ?v_zbp ?r_zbp ?v_zbq ?r_zbq ?v_zbu ?r_zbu ?v_zbr ?r_zbr ?v_zcg ?r_zcg ?z_all ?z_bool ?z_int ?z_isinstance ?z_len ?z_list ?z_max ?z_ord ?z_range ?z_sorted ?z_str ?z_tuple ?na_zcc ?ca_zcd ?mo_zcd ?me_zcd ?na_Write_part ?na_Write_text ?na_Write_at ?na_Write_size ?na_Write_row ?na_Write_column ?na_Write_cells ?ca_zcb ?mo_zcb ?me_zcb ?na_Splice_part ?na_Splice_text ?na_Splice_at ?na_Splice_size ?na_Splice_row ?na_Splice_column ?na_Splice_cells ?ca_zce ?mo_zce ?me_zce ?na_Cell_part ?na_Cell_text ?na_Cell_at ?na_Cell_size ?na_Cell_row ?na_Cell_column ?na_Cell_cells ?ca_zby ?mo_zby ?me_zby ?na_AddRow_part ?na_AddRow_text ?na_AddRow_at ?na_AddRow_size ?na_AddRow_row ?na_AddRow_column ?na_AddRow_cells ?ca_zbz ?mo_zbz ?me_zbz ?na_CutRow_part ?na_CutRow_text ?na_CutRow_at ?na_CutRow_size ?na_CutRow_row ?na_CutRow_column ?na_CutRow_cells ?hn ?htk ?ty_Edit ?mr_Edit ?nb_NoPart_part ?nb_NoPart_choice ?mb_zca ?nb_WrongKind_part ?nb_WrongKind_choice ?mb_zbv ?nb_Far_part ?nb_Far_choice ?mb_zcf ?nb_TooLong_part ?nb_TooLong_choice ?mb_zbx ?nd
  (case a_zbt=>k_is)
  (case a_zbw=>k_is)
  (case a_zbs=>k_is)
  (case a_zca=>k_is)
  (case a_zbv=>k_is)
  (case a_zcf=>k_is)
  (case a_zbx=>k_is)
  (case in_zbt=>k_is)
  (case kp_zbt=>k_is)
  (case in_zbw=>k_is)
  (case kp_zbw=>k_is)
  (case in_zbs=>k_is)
  (case kp_zbs=>k_is)
  (case in_zca=>k_is)
  (case kp_zca=>k_is)
  (case in_zbv=>k_is)
  (case kp_zbv=>k_is)
  (case in_zcf=>k_is)
  (case kp_zcf=>k_is)
  (case in_zbx=>k_is)
  (case kp_zbx=>k_is)
  (case a_zcc=>k_is)
  (case a_zcd=>k_is)
  (case a_zcb=>k_is)
  (case a_zce=>k_is)
  (case a_zby=>k_is)
  (case a_zbz=>k_is)
  (case in_zcc=>k_is)
  (case kp_zcc=>k_is)
  (case mk_zcc=>k_is)
  (case pg_zcc=>k_is)
  (case hd_zcc=>k_is)
  (case po_zcc=>k_is)
  (case sa_zcc=>k_is)
  (case in_zcd=>k_is)
  (case kp_zcd=>k_is)
  (case mk_zcd=>k_is)
  (case pg_zcd=>k_is)
  (case hd_zcd=>k_is)
  (case po_zcd=>k_is)
  (case sa_zcd=>k_is)
  (case in_zcb=>k_is)
  (case kp_zcb=>k_is)
  (case mk_zcb=>k_is)
  (case pg_zcb=>k_is)
  (case hd_zcb=>k_is)
  (case po_zcb=>k_is)
  (case sa_zcb=>k_is)
  (case in_zce=>k_is)
  (case kp_zce=>k_is)
  (case mk_zce=>k_is)
  (case pg_zce=>k_is)
  (case hd_zce=>k_is)
  (case po_zce=>k_is)
  (case sa_zce=>k_is)
  (case in_zby=>k_is)
  (case kp_zby=>k_is)
  (case mk_zby=>k_is)
  (case pg_zby=>k_is)
  (case hd_zby=>k_is)
  (case po_zby=>k_is)
  (case sa_zby=>k_is)
  (case in_zbz=>k_is)
  (case kp_zbz=>k_is)
  (case mk_zbz=>k_is)
  (case pg_zbz=>k_is)
  (case hd_zbz=>k_is)
  (case po_zbz=>k_is)
  (case sa_zbz=>k_is)
  (case a_Edit=>k_is)
  (case a_PartEdit=>k_is)
  (case a_TextEdit=>k_is)
  (case a_TableEdit=>k_is)
  (case sg_PartEdit=>k_is)
  (case sr_PartEdit=>k_is)
  (case sf_PartEdit=>k_is)
  (case sg_TextEdit=>k_is)
  (case sr_TextEdit=>k_is)
  (case sf_TextEdit=>k_is)
  (case sg_TableEdit=>k_is)
  (case sr_TableEdit=>k_is)
  (case sf_TableEdit=>k_is)
  (case mt_Write_about=>k_is)
  (case mt_Splice_about=>k_is)
  (case mt_Cell_about=>k_is)
  (case mt_AddRow_about=>k_is)
  (case mt_CutRow_about=>k_is)
  (case mt_Write_change=>k_is)
  (case mt_Splice_change=>k_is)
  (case mt_Cell_change=>k_is)
  (case mt_AddRow_change=>k_is)
  (case mt_CutRow_change=>k_is)
  (case mt_zg=>k_is)
  (case mt_zas=>k_is)
  (case mt_zu=>k_is)
  (case mt_zat=>k_is)
  (case mt_Write_made=>k_is)
  (case mt_Splice_made=>k_is)
  (case mt_Cell_made=>k_is)
  (case mt_AddRow_made=>k_is)
  (case mt_CutRow_made=>k_is)
  (case mt_zae=>k_is)
  (case mt_Write_need=>k_is)
  (case mt_Splice_need=>k_is)
  (case mt_Cell_need=>k_is)
  (case mt_AddRow_need=>k_is)
  (case mt_CutRow_need=>k_is)
  (case mt_Write_need_rest=>k_is)
  (case mt_Splice_need_rest=>k_is)
  (case mt_Cell_need_rest=>k_is)
  (case mt_AddRow_need_rest=>k_is)
  (case mt_CutRow_need_rest=>k_is)
  (case mt_zj=>k_is)
  (case mt_zc=>k_is)
  (case mt_zd=>k_is)
  (case mt_zn=>k_is)
  (case mt_zh=>k_is)
  (case mt_zo=>k_is)
  (case mt_ze=>k_is)
  (case mt_zf=>k_is)
  (case mt_zs=>k_is)
  (case mt_zl=>k_is)
  (case mt_Write_on=>k_is)
  (case mt_Splice_on=>k_is)
  (case mt_Cell_on=>k_is)
  (case mt_AddRow_on=>k_is)
  (case mt_CutRow_on=>k_is)
  (case mt_zk=>k_is)
  (case mt_zv=>k_is)
  (case mt_zaf=>k_is)
  (case mt_zal=>k_is)
  (case mt_zah=>k_is)
  (case mt_zap=>k_is)
  (case mt_zab=>k_is)
  (case mt_zad=>k_is)
  (case q_zaj=>refine' L2.met_mk ?l ?c ?k ?i;(case l=>k_is);(case c=>k_is);(case k=>k_is);(case i=>k_is))
  (case q_zat=>refine' L2.met_mk ?l ?c ?k ?i;(case l=>k_is);(case c=>k_is);(case k=>k_is);(case i=>k_is))
  (case q_zaq=>refine' L2.met_mk ?l ?c ?k ?i;(case l=>k_is);(case c=>k_is);(case k=>k_is);(case i=>k_is))
  (case q_zq=>refine' L2.met_mk ?l ?c ?k ?i;(case l=>k_is);(case c=>k_is);(case k=>k_is);(case i=>k_is))
  (case q_zal=>refine' L2.met_mk ?l ?c ?k ?i;(case l=>k_is);(case c=>k_is);(case k=>k_is);(case i=>k_is))
  (case q_zah=>refine' L2.met_mk ?l ?c ?k ?i;(case l=>k_is);(case c=>k_is);(case k=>k_is);(case i=>k_is))
  (case q_zap=>refine' L2.met_mk ?l ?c ?k ?i;(case l=>k_is);(case c=>k_is);(case k=>k_is);(case i=>k_is))
  (case q_zab=>refine' L2.met_mk ?l ?c ?k ?i;(case l=>k_is);(case c=>k_is);(case k=>k_is);(case i=>k_is))
  (case q_zad=>refine' L2.met_mk ?l ?c ?k ?i;(case l=>k_is);(case c=>k_is);(case k=>k_is);(case i=>k_is))
  (case q_zaz=>refine' L2.top_mk ?a ?l ?c ?k;(case a=>k_is);(case l=>k_is);(case c=>k_is);(case k=>k_is))
  (case q_zan=>refine' L2.top_mk ?a ?l ?c ?k;(case a=>k_is);(case l=>k_is);(case c=>k_is);(case k=>k_is))
  (case q_zbc=>refine' L2.top_mk ?a ?l ?c ?k;(case a=>k_is);(case l=>k_is);(case c=>k_is);(case k=>k_is))
  (case q_zax=>refine' L2.top_mk ?a ?l ?c ?k;(case a=>k_is);(case l=>k_is);(case c=>k_is);(case k=>k_is))
  (case q_zaw=>refine' L2.top_mk ?a ?l ?c ?k;(case a=>k_is);(case l=>k_is);(case c=>k_is);(case k=>k_is))
  (case q_zba=>refine' L2.top_mk ?a ?l ?c ?k;(case a=>k_is);(case l=>k_is);(case c=>k_is);(case k=>k_is))
  (case q_zam=>refine' L2.top_mk ?a ?l ?c ?k;(case a=>k_is);(case l=>k_is);(case c=>k_is);(case k=>k_is))
  (case q_zy=>refine' L2.top_mk ?a ?l ?c ?k;(case a=>k_is);(case l=>k_is);(case c=>k_is);(case k=>k_is))
  (case q_zbh=>refine' L2.top_mk ?a ?l ?c ?k;(case a=>k_is);(case l=>k_is);(case c=>k_is);(case k=>k_is))
  (case q_zav=>refine' L2.top_mk ?a ?l ?c ?k;(case a=>k_is);(case l=>k_is);(case c=>k_is);(case k=>k_is))
  (case q_zau=>refine' L2.top_mk ?a ?l ?c ?k;(case a=>k_is);(case l=>k_is);(case c=>k_is);(case k=>k_is))
  (case q_zx=>refine' L2.top_mk ?a ?l ?c ?k;(case a=>k_is);(case l=>k_is);(case c=>k_is);(case k=>k_is))
  (case q_zbf=>refine' L2.top_mk ?a ?l ?c ?k;(case a=>k_is);(case l=>k_is);(case c=>k_is);(case k=>k_is))
  (case q_zbk=>refine' L2.top_mk ?a ?l ?c ?k;(case a=>k_is);(case l=>k_is);(case c=>k_is);(case k=>k_is))
  (case q_zt=>refine' L2.met_mk ?l ?c ?k ?i;(case l=>k_is);(case c=>k_is);(case k=>k_is);(case i=>k_is))
  (case q_zw=>refine' L2.met_mk ?l ?c ?k ?i;(case l=>k_is);(case c=>k_is);(case k=>k_is);(case i=>k_is))
  (case q_zak=>refine' L2.met_mk ?l ?c ?k ?i;(case l=>k_is);(case c=>k_is);(case k=>k_is);(case i=>k_is))
  (case q_zay=>refine' L2.top_mk ?a ?l ?c ?k;(case a=>k_is);(case l=>k_is);(case c=>k_is);(case k=>k_is))
  (case q_zbg=>refine' L2.top_mk ?a ?l ?c ?k;(case a=>k_is);(case l=>k_is);(case c=>k_is);(case k=>k_is))
  (case q_zag=>refine' L2.met_mk ?l ?c ?k ?i;(case l=>k_is);(case c=>k_is);(case k=>k_is);(case i=>k_is))
  (case q_zr=>refine' L2.met_mk ?l ?c ?k ?i;(case l=>k_is);(case c=>k_is);(case k=>k_is);(case i=>k_is))
  (case q_zao=>refine' L2.met_mk ?l ?c ?k ?i;(case l=>k_is);(case c=>k_is);(case k=>k_is);(case i=>k_is))
  (case q_zai=>refine' L2.top_mk ?a ?l ?c ?k;(case a=>k_is);(case l=>k_is);(case c=>k_is);(case k=>k_is))
  (case q_zbl=>refine' L2.top_mk ?a ?l ?c ?k;(case a=>k_is);(case l=>k_is);(case c=>k_is);(case k=>k_is))
  (case q_zaa=>refine' L2.met_mk ?l ?c ?k ?i;(case l=>k_is);(case c=>k_is);(case k=>k_is);(case i=>k_is))
  (case q_zac=>refine' L2.met_mk ?l ?c ?k ?i;(case l=>k_is);(case c=>k_is);(case k=>k_is);(case i=>k_is))
  (case q_zbb=>refine' L2.top_mk ?a ?l ?c ?k;(case a=>k_is);(case l=>k_is);(case c=>k_is);(case k=>k_is))
  (case q_zz=>refine' L2.top_mk ?a ?l ?c ?k;(case a=>k_is);(case l=>k_is);(case c=>k_is);(case k=>k_is))
  (case q_zbi=>refine' L2.top_mk ?a ?l ?c ?k;(case a=>k_is);(case l=>k_is);(case c=>k_is);(case k=>k_is))
  (case l_zp=>k_is)
  (case c_zp=>k_is)
  (case k_zp=>k_is)
  (case if_zp=>k_is)
  (case ld_zp=>k_is)
  (case q_zas=>refine' L2.met_mk ?l ?c ?k ?i;(case l=>k_is);(case c=>k_is);(case k=>k_is);(case i=>k_is))
  (case q_zaf=>refine' L2.met_mk ?l ?c ?k ?i;(case l=>k_is);(case c=>k_is);(case k=>k_is);(case i=>k_is))
  (case q_zu=>refine' L2.met_mk ?l ?c ?k ?i;(case l=>k_is);(case c=>k_is);(case k=>k_is);(case i=>k_is))
  (case q_zg=>refine' L2.met_mk ?l ?c ?k ?i;(case l=>k_is);(case c=>k_is);(case k=>k_is);(case i=>k_is))
  (case q_zn=>refine' L2.met_mk ?l ?c ?k ?i;(case l=>k_is);(case c=>k_is);(case k=>k_is);(case i=>k_is))
  (case q_zh=>refine' L2.met_mk ?l ?c ?k ?i;(case l=>k_is);(case c=>k_is);(case k=>k_is);(case i=>k_is))
  (case q_zb=>refine' L2.met_mk ?l ?c ?k ?i;(case l=>k_is);(case c=>k_is);(case k=>k_is);(case i=>k_is))
  (case q_zj=>refine' L2.met_mk ?l ?c ?k ?i;(case l=>k_is);(case c=>k_is);(case k=>k_is);(case i=>k_is))
  (case q_zc=>refine' L2.met_mk ?l ?c ?k ?i;(case l=>k_is);(case c=>k_is);(case k=>k_is);(case i=>k_is))
  (case q_zd=>refine' L2.met_mk ?l ?c ?k ?i;(case l=>k_is);(case c=>k_is);(case k=>k_is);(case i=>k_is))
  (case q_za=>refine' L2.met_mk ?l ?c ?k ?i;(case l=>k_is);(case c=>k_is);(case k=>k_is);(case i=>k_is))
  (case l_zar=>k_is)
  (case c_zar=>k_is)
  (case k_zar=>k_is)
  (case if_zar=>k_is)
  (case ld_zar=>k_is)
  (case q_zs=>refine' L2.met_mk ?l ?c ?k ?i;(case l=>k_is);(case c=>k_is);(case k=>k_is);(case i=>k_is))
  (case q_zl=>refine' L2.met_mk ?l ?c ?k ?i;(case l=>k_is);(case c=>k_is);(case k=>k_is);(case i=>k_is))
  (case q_zk=>refine' L2.met_mk ?l ?c ?k ?i;(case l=>k_is);(case c=>k_is);(case k=>k_is);(case i=>k_is))
  (case q_zv=>refine' L2.met_mk ?l ?c ?k ?i;(case l=>k_is);(case c=>k_is);(case k=>k_is);(case i=>k_is))
  (case q_zbj=>refine' L2.top_mk ?a ?l ?c ?k;(case a=>k_is);(case l=>k_is);(case c=>k_is);(case k=>k_is))
  (case q_zm=>refine' L2.met_mk ?l ?c ?k ?i;(case l=>k_is);(case c=>k_is);(case k=>k_is);(case i=>k_is))
  (case q_zo=>refine' L2.met_mk ?l ?c ?k ?i;(case l=>k_is);(case c=>k_is);(case k=>k_is);(case i=>k_is))
  (case q_ze=>refine' L2.met_mk ?l ?c ?k ?i;(case l=>k_is);(case c=>k_is);(case k=>k_is);(case i=>k_is))
  (case q_zf=>refine' L2.met_mk ?l ?c ?k ?i;(case l=>k_is);(case c=>k_is);(case k=>k_is);(case i=>k_is))
  (case q_zi=>refine' L2.met_mk ?l ?c ?k ?i;(case l=>k_is);(case c=>k_is);(case k=>k_is);(case i=>k_is))
  (case l_zbe=>k_is)
  (case c_zbe=>k_is)
  (case k_zbe=>k_is)
  (case if_zbe=>k_is)
  (case ld_zbe=>k_is)
  (case q_zbd=>refine' L2.top_mk ?a ?l ?c ?k;(case a=>k_is);(case l=>k_is);(case c=>k_is);(case k=>k_is))
  (case q_zae=>refine' L2.met_mk ?l ?c ?k ?i;(case l=>k_is);(case c=>k_is);(case k=>k_is);(case i=>k_is))
  (case q_zbm=>refine' L2.top_mk ?a ?l ?c ?k;(case a=>k_is);(case l=>k_is);(case c=>k_is);(case k=>k_is))
  (case a_zbn=>k_is)
  (case l_zbn=>k_is)
  (case c_zbn=>k_is)
  (case k_zbn=>k_is)
  (case x_zbt=>(refine' L2.xc_mk ?l ?y ?s ?g ?t ?c ?n ?k;(case l=>k_is);(case y=>k_is);(case s=>k_is);(case g=>k_is);(case t=>k_is);(case c=>k_is);(case n=>k_is);(case k=>k_is)))
  (case x_zbw=>(refine' L2.xc_mk ?l ?y ?s ?g ?t ?c ?n ?k;(case l=>k_is);(case y=>k_is);(case s=>k_is);(case g=>k_is);(case t=>k_is);(case c=>k_is);(case n=>k_is);(case k=>k_is)))
  (case x_zbs=>(refine' L2.xc_mk ?l ?y ?s ?g ?t ?c ?n ?k;(case l=>k_is);(case y=>k_is);(case s=>k_is);(case g=>k_is);(case t=>k_is);(case c=>k_is);(case n=>k_is);(case k=>k_is)))
  (case x_zca=>(refine' L2.xc_mk ?l ?y ?s ?g ?t ?c ?n ?k;(case l=>k_is);(case y=>k_is);(case s=>k_is);(case g=>k_is);(case t=>k_is);(case c=>k_is);(case n=>k_is);(case k=>k_is)))
  (case x_zbv=>(refine' L2.xc_mk ?l ?y ?s ?g ?t ?c ?n ?k;(case l=>k_is);(case y=>k_is);(case s=>k_is);(case g=>k_is);(case t=>k_is);(case c=>k_is);(case n=>k_is);(case k=>k_is)))
  (case x_zcf=>(refine' L2.xc_mk ?l ?y ?s ?g ?t ?c ?n ?k;(case l=>k_is);(case y=>k_is);(case s=>k_is);(case g=>k_is);(case t=>k_is);(case c=>k_is);(case n=>k_is);(case k=>k_is)))
  (case x_zbx=>(refine' L2.xc_mk ?l ?y ?s ?g ?t ?c ?n ?k;(case l=>k_is);(case y=>k_is);(case s=>k_is);(case g=>k_is);(case t=>k_is);(case c=>k_is);(case n=>k_is);(case k=>k_is)))
  (case v_zbo=>k_is)
  (case r_zbo=>exact⟨_,rfl⟩)
  (case v_zbp=>k_is)
  (case r_zbp=>exact⟨_,rfl⟩)
  (case v_zbq=>k_is)
  (case r_zbq=>exact⟨_,rfl⟩)
  (case v_zbu=>k_is)
  (case r_zbu=>exact⟨_,rfl⟩)
  (case v_zbr=>k_is)
  (case r_zbr=>exact⟨_,rfl⟩)
  (case v_zcg=>k_is)
  (case r_zcg=>exact⟨_,rfl⟩)
  (case z_all=>k_is)
  (case z_bool=>k_is)
  (case z_int=>k_is)
  (case z_isinstance=>k_is)
  (case z_len=>k_is)
  (case z_list=>k_is)
  (case z_max=>k_is)
  (case z_ord=>k_is)
  (case z_range=>k_is)
  (case z_sorted=>k_is)
  (case z_str=>k_is)
  (case z_tuple=>k_is)
  (case na_zcc=>k_is)
  (case ca_zcd=>k_is)
  (case mo_zcd=>k_is)
  (case me_zcd=>k_is)
  (case na_Write_part=>k_is)
  (case na_Write_text=>k_is)
  (case na_Write_at=>k_is)
  (case na_Write_size=>k_is)
  (case na_Write_row=>k_is)
  (case na_Write_column=>k_is)
  (case na_Write_cells=>k_is)
  (case ca_zcb=>k_is)
  (case mo_zcb=>k_is)
  (case me_zcb=>k_is)
  (case na_Splice_part=>k_is)
  (case na_Splice_text=>k_is)
  (case na_Splice_at=>k_is)
  (case na_Splice_size=>k_is)
  (case na_Splice_row=>k_is)
  (case na_Splice_column=>k_is)
  (case na_Splice_cells=>k_is)
  (case ca_zce=>k_is)
  (case mo_zce=>k_is)
  (case me_zce=>k_is)
  (case na_Cell_part=>k_is)
  (case na_Cell_text=>k_is)
  (case na_Cell_at=>k_is)
  (case na_Cell_size=>k_is)
  (case na_Cell_row=>k_is)
  (case na_Cell_column=>k_is)
  (case na_Cell_cells=>k_is)
  (case ca_zby=>k_is)
  (case mo_zby=>k_is)
  (case me_zby=>k_is)
  (case na_AddRow_part=>k_is)
  (case na_AddRow_text=>k_is)
  (case na_AddRow_at=>k_is)
  (case na_AddRow_size=>k_is)
  (case na_AddRow_row=>k_is)
  (case na_AddRow_column=>k_is)
  (case na_AddRow_cells=>k_is)
  (case ca_zbz=>k_is)
  (case mo_zbz=>k_is)
  (case me_zbz=>k_is)
  (case na_CutRow_part=>k_is)
  (case na_CutRow_text=>k_is)
  (case na_CutRow_at=>k_is)
  (case na_CutRow_size=>k_is)
  (case na_CutRow_row=>k_is)
  (case na_CutRow_column=>k_is)
  (case na_CutRow_cells=>k_is)
  (case hn=>k_is)
  (case htk=>k_is)
  (case ty_Edit=>k_is)
  (case mr_Edit=>k_is)
  (case nb_NoPart_part=>k_is)
  (case nb_NoPart_choice=>k_is)
  (case mb_zca=>k_is)
  (case nb_WrongKind_part=>k_is)
  (case nb_WrongKind_choice=>k_is)
  (case mb_zbv=>k_is)
  (case nb_Far_part=>k_is)
  (case nb_Far_choice=>k_is)
  (case mb_zcf=>k_is)
  (case nb_TooLong_part=>k_is)
  (case nb_TooLong_choice=>k_is)
  (case mb_zbx=>k_is)
  (case nd=>decide)
#print axioms PySem.Challenge.cw_manyleaf_k24_contents_edited_holds
