import PyProof.Rows.All
import Wide.All
import OpenK.AllK
import Wide.FinOn
import Lean
import PyProof.EqAt
import PyProof.EqKinds
import PyProof.TupleCall
import PySem.Challenge.RW_leastrow_k82_cheap_or_not
set_option Elab.async false
set_option linter.all false
set_option maxRecDepth 100000
open PySem renaming wpAny_bind→AA,starEach→AB,wpAny_pure→AC,Program→AE,model→AH,wpAny→AK,sizeLine→AL,World→AM,FuncData→AN,wpAny_Call_Name_kw→AQ,mainGlobals→AR,cLine→AS,behindInMarks→AU,wpAny_holding→AV,wpAny_newObj_type→AW,backTo→AX,compareOp→AY,sysModules→AZ,wpAny_mono→Aa,swapsWith→Ab,argBest→Ad,tupleKind_room_in1→Ae,attributeBase→Af,assignEach→Ag,tupleKind→Ah,binaryOp→Ak,wpAny_typeNameOfWhole_keyiter→Al,wpAny_callSpecial?_slot→Am,wpAny_dictEntries→An,bootBuiltins→Ao,codeAny_mono→Ap,sizeLine_eq→Aq,wpAny_passesOwn→Ar,wpAny_call_entry→At,size_of_entries→Av,wpAny_notOrdered_dict→Aw,wpAny_truthy_bool→Ax,foldedSetIterable→Ay,wpAny_rule→Az,codeAny_builtin→BB
open PyProof.Rows renaming pendingOf→AD,wpS_bind→AF,Keyed→AG,wpS_pure→AI,arrOf→AJ,wpS_forRange→AT,wpS_mono→Ac,envOfC→Ai,seqObj→Aj,SortKind→As,wpS_modify→Au,setPending→BA
open Inhabited renaming default→AO
open PySem.W renaming Frag→aA,fnOf→cE,instObj→cH,keepIn→cO,findIn→cZ,codeIn→eG,kia_one→eJ,callWith_K→eM,emptyDict→eW,mg_of→hX,nsIn→iQ,plainGet→kG,hasDictIn→mJ,excIn→mQ,isFn→oC,lookIn→pJ,kitOne→pK,plainGet_of→qG,methodObj→sM,plainOver→sN,takerIn→uI,makesIn→uJ,exmOne→xP
open List renaming length_map→aC,getElem?_eq_some_iff→aE,mem_cons_of_mem→aF,length_append→aH,mem_singleton→aI,mem_cons_self→aJ,mem_append_right→aM,mem_map→aP,mem_append→aS,map_map→aU,getElem?_map→aW,map_append→aX,map_cons→aZ,mem_of_getElem?→bA,size_toArray→bC,mem_cons→bD,length_cons→bF,replicate→bG,nodup_append→bH,append_nil→bN,mem_append_left→bO,range→bQ,nodup_cons→bV,mem_singleton_self→cD,getD→cG,map_congr_left→cK,filter_eq_self→cQ,nodup_nil→cR,length_take→cV,extract_eq_take_drop→cW,mem_range→cX,zip_cons_cons→dC,drop_eq_getElem_cons→dH,eraseIdx_eq_take_drop_succ→dJ,append_assoc→dM,getElem?_of_mem→dU,mem_of_mem_take→dW,lookup_cons→dX,mem_flatMap→dY,take_of_length_le→dZ,getElem?_append_left→eB,replicate_succ→eC,take_add_one→eF,map_nil→eO,mem_of_mem_drop→eP,getElem_map→eQ,getElem_of_mem→fA,take_append_drop→fC,length_drop→fD,not_mem_nil→fE,getElem?_eq_getElem→fJ,foldl_append→fO,length_range→fP,take_length→fW,getElem?_append_right→fY,mem_filter→gF,find?_cons→gG,length_nil→gH,flatten_cons→gI,eq_nil_of_length_eq_zero→gY,map_take→iG,getElem?_eq_none→iH,perm_append_comm→iI,lookup→iR,all_eq_true→iU,getElem_mem→iV,any_eq_true→iW,filterMap_cons→jD,length_pos_iff→jE,map_drop→jM,mem_of_mem_eraseIdx→jN,length_zip→jQ,pairwise_singleton→jW,getElem?_set_self→kA,drop_of_length_le→kB,length_replicate→kN,length_filter_le→kO,getElem_inj→kP,prefix_refl→kQ,any_cons→kX,getElem?_set_ne→lA,map_id→lB,dropLast_concat_getLast→lN,pairwise_cons→mH,ext_getElem?→nD,pairwise_map→nE,perm_middle→oI,nil_append→pC,set_getElem_self→pX,eraseIdx_sublist→pY,pairwise_append→qK,take_succ_cons→qT,filter_append→sP,ext_getElem→uY,drop_length→uZ,length→xO,of_mem_zip→xR,getElem?_concat_length→yE,drop_drop→zT,findSome?_eq_none_iff→zU
open PySem.Heap renaming get?_push_of_some→aD,lt_size→aR,get?_push_size→bL,get?_update_other→cU,get?_update_self→gA,size_push→mI,size_update→oJ
open Nat renaming le_refl→aN,lt_of_lt_of_le→aY,ne_of_lt→bW,le_trans→cF,lt_of_le_of_lt→cM,zero_le→cP,le_of_lt→dE,lt_irrefl→eL,le_of_ble_eq_true→gC,lt_succ_self→gS,le_succ→hW,ne_of_gt→kE,lt_succ_of_lt→nH,le_of_eq→pD,lt_trans→pE,not_lt→pF,min_self→pG,zero_add→pH,not_lt_zero→pZ,pow_le_pow_right→qS,sub_self→uF,min_eq_left→yF
open Bool renaming false_ne_true→bE,and_eq_true→bP,false_eq_true→bT,eq_iff_iff→iE,not_eq_true'→tX,or_eq_true→xT,false_and→zV
open Int renaming emod_lt_of_pos→bU,emod_nonneg→bX,toNat_natCast→dI,ne_of_gt→iC,zero_add→pI,toNat→qU,le_refl→xS
open Option renaming some→bZ,map_eq_some_iff→eY,map→lS,isSome_map→sQ,map_some→vA
open Array renaming length_toList→cS,toList_append→dF,getElem?_toList→dL,toList_extract→dN,perm_iff_toList_perm→fX,size_extract→jR,toList_push→jY,toList_reverse→kZ,toList_inj→uG,toList_map→uH
open PySem.F renaming args_tuple_add_2→mR,entry_tuple_add→nF,plainAttrs_list→nG,slot_tuple_add→oE,slot_dict_setdefault→uK,excBase_ValueError→xQ,slot_dict_getitem→xU,slot_list_append→yG,type_list_append→yH,plainAttrs_dict→zW,plain_list_iadd→zX
open List renaming getElem?_zip_eq_some→aAi,pairwise_iff_getElem→aAj,getElem?_take_of_lt→aAZ,length_eq_zero_iff→aCl,range_succ_eq_map→aDc,drop_eq_nil_of_le→aDd,cons→aDf,reverse_reverse→aFW,length_eraseIdx→aFX,getElem?_range→aGc,reverse_append→aGd,mem_filterMap→aHV,getElem_range→aHW,foldl→aJa,any_toArray→aLu,foldl_cons→aLI,zip_append→aLJ,sum_append→aLK,range_succ→aLL,take_zero→aNW,drop_zero→aNX,all_cons→aOp,sum_cons→aOq
open Int renaming fdiv_eq_ediv_of_nonneg→aAk,natAbs_natCast→aJb,mul_nonneg→aOs
open PySem.W renaming cellsFrom_some→aAl,methodCall_KW→aBa,specialIn→aFZ,kitx_list→aGa,kitx_dict→aGb,handedIn→aGf
open PySem.F renaming slot_dict_pop→aBb
open Array renaming getElem?_eq_none→aCm,getElem?_modify→aDe,toList→aOu
open Bool renaming beq_eq_decide_eq→aDg,eq_false_iff→aJc
open Nat renaming succ_mul→aFY,mul_le_mul_right→aGe,not_le_of_lt→aLM,log2_le_self→aLN,mul_le_mul→aOr,add_assoc→aPz,add_comm→aQn
open Option renaming getD_none→aHX,none→aOt
open PySem.Heap renaming get?_push_ne→aJd
open PySem renaming Value→BC,Shared→BD,Addr→BE,Around→BF,Heap→BG,Obj→BH,Stmt→BI,SetTable→BK
open PyProof.Rows renaming SortSt→BJ
namespace L2
open PySem PySem.Spec PyProof.Rows
noncomputable abbrev Key:=Sum Int Str
noncomputable def yZ:Key->BC->Bool
 |.inl k,v=>Value.isInt k v
 |.inr x,v=>Value.isStrOf x v
noncomputable def keyH(w:AM):Key->Int
 |.inl k=>hashInt k
 |.inr x=>hashStr w x
theorem gD:∀ {k:Key}{v:BC},yZ k v=true->(∃i t,k=Sum.inl i/\v=Value.int i t)\/(∃x t,k=Sum.inr x/\v=Value.str x t)
 |.inl i,v,h=>by obtain⟨t,e⟩:=Value.isInt_shape (k:=i) (v:=v) h;exact .inl ⟨i,t,rfl,e⟩
 |.inr x,v,h=>by obtain⟨t,e⟩:=Value.isStrOf_shape (x:=x) (v:=v) h;exact .inr ⟨x,t,rfl,e⟩
theorem aFc(i:Int)(t:Tok):yZ (.inl i) (.int i t)=true:=by simp[yZ,Value.isInt]
theorem aFk(x:Str)(t:Tok):yZ (.inr x) (.str x t)=true:=by simp[yZ,Value.isStrOf]
theorem aNK(a b:Int):decide ((Sum.inl a:Key)=Sum.inl b)=(a==b):=by
 by_cases e:a=b
 ·subst e;simp
 ·have h:¬ (Sum.inl a:Key)=Sum.inl b:=λq=>e (Sum.inl.inj q)
  rw[decide_eq_false h];exact(beq_eq_false_iff_ne.mpr e).symm
theorem aMD(a b:Str):decide ((Sum.inr a:Key)=Sum.inr b)=decide (a=b):=by
 by_cases e:a=b
 ·subst e;simp
 ·have h:¬ (Sum.inr a:Key)=Sum.inr b:=λq=>e (Sum.inr.inj q)
  rw[decide_eq_false h,decide_eq_false e]
theorem aMK(a:Int)(b:Str):decide ((Sum.inl a:Key)=Sum.inr b)=false:=decide_eq_false λq=>nomatch q
theorem aMS(a:Str)(b:Int):decide ((Sum.inr a:Key)=Sum.inl b)=false:=decide_eq_false λq=>nomatch q
noncomputable def eI(prog:AE)(w:AM):PySem.KeyKind prog w Key where
 is:=yZ
 hash:=keyH w
 inj:=λv a b ha hb=>by
  rcases gD ha with⟨i,t,rfl,rfl⟩|⟨x,t,rfl,rfl⟩
  ·rcases gD hb with⟨j,u,rfl,e⟩|⟨y,u,rfl,e⟩
   ·injection e with e1 _;rw[e1]
   ·exact nomatch e
  ·rcases gD hb with⟨j,u,rfl,e⟩|⟨y,u,rfl,e⟩
   ·exact nomatch e
   ·injection e with e1 _;rw[e1]
 byValue:=λk v h=>by rcases gD h with⟨i,t,rfl,rfl⟩|⟨x,t,rfl,rfl⟩<;>rfl
 pyHash:=λhv h=>by
  rcases gD hv with⟨i,t,rfl,rfl⟩|⟨x,t,rfl,rfl⟩
  ·exact wpAny_pyHash_int h
  ·exact wpAny_pyHash_str h
 eqBool:=λhu hv h=>by
  rcases gD hu with⟨i,t,rfl,rfl⟩|⟨x,t,rfl,rfl⟩
  ·rcases gD hv with⟨j,u,rfl,rfl⟩|⟨y,u,rfl,rfl⟩
   ·rw[aNK] at h;exact wpAny_eqBool_int h
   ·rw[aMK] at h;exact SeqAt.EqAt.int_str i t y u _ _ _ _ h
  ·rcases gD hv with⟨j,u,rfl,rfl⟩|⟨y,u,rfl,rfl⟩
   ·rw[aMS] at h;exact SeqAt.EqAt.str_int x t j u _ _ _ _ h
   ·rw[aMD] at h;exact wpAny_eqBool_str h
 «strs»:=λk x t v h=>by
  rcases gD h with⟨i,u,rfl,e⟩|⟨y,u,rfl,e⟩
  ·exact nomatch e
  ·injection e with e1 _
   subst e1;cases v<;>rfl
theorem aAW(prog:AE)(w:AM)(i:Int)(t:Tok):(eI prog w).is (.inl i) (.int i t)=true:=aFc i t
theorem aAV(prog:AE)(w:AM)(x:Str)(t:Tok):(eI prog w).is (.inr x) (.str x t)=true:=aFk x t
inductive V where
 |non|bl (b:Bool)|int (i:Int)|str (x:Str)|byt (b:Array UInt8)|flt (b:UInt64)|ref (a:BE)|ty (n:String)
 deriving DecidableEq
noncomputable def RelV:V->BC->Prop
 |.non,u=>u=Value.none
 |.bl b,u=>u=Value.bool b
 |.int i,u=>∃t,u=Value.int i t
 |.str x,u=>∃t,u=Value.str x t
 |.byt b,u=>∃t,u=Value.bytes b t
 |.flt b,u=>∃t,u=Value.float b t
 |.ref a,u=>u=Value.ref a
 |.ty n,u=>u=Value.type n
abbrev Vals:List V->List BC->Prop:=Paired RelV
theorem Vals.length{xs:List V}{us:List BC}(r:Vals xs us):xs.length=us.length:=Paired.length r
theorem Vals.get:∀ {xs:List V}{us:List BC}{i:Nat}{x:V},Vals xs us->xs[i]? =some x->∃u,us[i]? =some u/\RelV x u
 |_,_,_,_,.nil,e=>by simp at e
 |_,_,0,_,.cons r _,e=>by simp at e;subst e;exact⟨_,rfl,r⟩
 |_,_,i+1,x,.cons _ t,e=>by obtain⟨u,h1,h2⟩:=Vals.get (i:=i) (x:=x) t (by simpa using e);exact⟨u,by simpa using h1,h2⟩
theorem Vals.append:∀ {xs ys:List V}{us ws:List BC},Vals xs us->Vals ys ws->Vals (xs++ys) (us++ws)
 |_,_,_,_,.nil,s=>s
 |_,_,_,_,.cons r t,s=>.cons r<|Vals.append t s
theorem Vals.take:∀ {xs:List V}{us:List BC} (n:Nat),Vals xs us->Vals (xs.take n) (us.take n)
 |_,_,0,_=>.nil
 |_,_,_+1,.nil=>.nil
 |_,_,n+1,.cons r t=>.cons r<|Vals.take n t
theorem Vals.drop:∀ {xs:List V}{us:List BC} (n:Nat),Vals xs us->Vals (xs.drop n) (us.drop n)
 |_,_,0,r=>r
 |_,_,_+1,.nil=>.nil
 |_,_,n+1,.cons _ t=>Vals.drop n t
noncomputable def RelO:Option V->Option BC->Prop
 |some v,some u=>RelV v u
 |none,none=>True
 |_,_=>False
def KV{κ:Type}:List (κ×V)->List (κ×BC)->Prop:=Paired λ(p:κ×V) (q:κ×BC)=>p.1=q.1/\RelV p.2 q.2
noncomputable def kV:Key->V
 |.inl i=>.int i
 |.inr x=>.str x
inductive HO where
 /-- a list -/
 |lst (xs:List V)
 /-- a tuple (never changes) -/
 |tup (xs:List V)
 /-- a dict whose keys are ints and texts;one whose keys are tuples of ints and texts (the empty one is both) -/
 |dK (kvs:List (Key×V))|dT (kvs:List (List Key×V))
 /-- a set of ints:its members,its size -/
 |set (S:Int->Bool) (n:Nat)
 /-- an instance of the class at C,its dict at dx,its attributes -/
 |ins (C dx:BE) (fs:List (Str×V))
 /-- the dict of the instance at x -/
 |own (x:BE)
 /-- the dict of an exception -/
 |xd (fs:List (Str×V))
 /-- a bound method,f of x -/
 |met (f x:BE)
 /-- a range object lo,lo+1, .. below hi -/
 |rng (lo hi:Int)
 /-- a thing that is known to the object (the script;a dict while a loop walks it):read,never written while it is so -/
 |frz (o:BH) (u:HO)
 /-- a code object's table -/
 |tbl (ps:Array BC)
 /-- any other thing,by what is true of its one object (a def of one's own:SetO a S n:=HO.ext λh=> ..) -/
 |ext (φ:BG->Prop)
noncomputable abbrev Hp:=BE->Option HO
noncomputable def upd(H:Hp)(a:BE)(o:HO):Hp:=λb=>if b=a then some o else H b
theorem bK{H:Hp}{a:BE}{o:HO}:upd H a o a=some o:=by unfold upd;rw[if_pos rfl]
theorem aV{H:Hp}{a b:BE}{o:HO}(h:b≠a):upd H a o b=H b:=by unfold upd;rw[if_neg h]
theorem aPe{H:Hp}{a b:BE}{o u:HO}(h:H a=some o)(h':H b=some u)(d:o≠u):a≠b:=by intro e;subst e;rw[h] at h';exact d<|bZ.inj h'
theorem cJ{H:Hp}{a b:BE}{o:HO}(h:H a=some o)(h':H b=none):a≠b:=by intro e;subst e;rw[h] at h';cases h'
def IsTupD(h:BG)(a:BE)(items:Array BC):Prop:=∃o,h.get? a=some o/\o.cls=.type "tuple"/\(∃n,o.data=.seq items n)/\o.dict=none
theorem IsTupD.tup{h:BG}{a:BE}{items:Array BC}(x:IsTupD h a items):IsTup h a items:=let ⟨o,e,c,d,_⟩:=x;⟨o,e,c,d⟩
theorem IsTupD.new(h:BG)(items:Array BC):IsTupD (h.push {cls:=.type "tuple",data:=.seq items}) h.objs.size items:=⟨_,bL _ rfl,rfl,⟨_,rfl⟩,rfl⟩
variable (P:AE)(w:AM)
noncomputable def ObjOk(H:Hp)(h:BG)(a:BE):HO->Prop
 |.lst xs=>xs.length<=AL/\∃ (its:List BC) (n:Nat),Vals xs its/\h.get? a=some {cls:=.type "list",data:=.seq its.toArray n}
 |.tup xs=>xs.length<=AL/\∃its:List BC,Vals xs its/\IsTupD h a its.toArray
 |.dK kvs=>kvs.length<=AL/\(a==AZ)=false/\∃vs,KV kvs vs/\h.DictOf (eI P w) a vs
 |.dT kvs=>kvs.length<=AL/\(a==AZ)=false/\∃xs:List (List Key×BE×BC),
   Paired (λ(p:List Key×V) (q:List Key×BE×BC)=>p.1=q.1/\H q.2.1=some (.tup<|p.1.map kV)/\RelV p.2 q.2.2) kvs xs/\
   ∃o es ep,h.get? a=some o/\o.ExactDict/\o.data=.dict es ep/\es.toList=xs.map (entryOfKey (Ah<|eI P w))/\(xs.map (·.1)).Nodup
 |.set S n=>h.SetOf (intKind P w) a S n
 |.ins C dx fs=>H dx=some (.own a)/\fs.length<=1000/\dx≠a/\h.get? a=some (cH C dx)/\
   ∃mA,h.Ns1 dx mA/\(∀f,RelO (fs.lookup f)<|mA f)/\PySem.Within mA (fs.map (·.1))
 |.own _=>∃o,h.get? a=some o
 |.xd fs=>∃mA,h.Ns1 a mA/\∀f,RelO (fs.lookup f)<|mA f
 |.rng lo hi=>∃t u v,h.get? a=some {cls:=.type "range",data:=.fields #[.int lo t,.int hi u,.int 1 v]}
 |.frz o u=>h.get? a=some o/\ObjOk H h a u
 |.tbl ps=>h.get? a=some {cls:=.none,data:=.fields ps}
 |.met f x=>h.get? a=some (sM (.ref f)<|.ref x)
 |.ext φ=>φ h/\(∃o,h.get? a=some o)/\∀h1 h2:BG,φ h1->(∀o,h1.get? a=some o->h2.get? a=some o)->φ h2
def HOk(H:Hp)(h:BG):Prop:=∀a o,H a=some o->ObjOk P w H h a o
variable {P:AE}{w:AM}{H H':Hp}{h h':BG}{a:BE}{o:HO}
theorem ObjOk.lt(x:ObjOk P w H h a o):a<h.objs.size:=by
 cases o with
 |lst xs=>obtain⟨_,_,_,_,e⟩:=x;exact aR e
 |tup xs=>obtain⟨_,_,_,p⟩:=x;exact p.tup.lt
 |dK kvs=>obtain⟨_,_,_,_,o,_,_,e,_⟩:=x;exact aR e
 |dT kvs=>obtain⟨_,_,_,_,o,_,_,e,_⟩:=x;exact aR e
 |set S n=>obtain⟨o,_,_,_,e,_⟩:=x;exact aR e
 |ins C dx fs=>obtain⟨_,_,_,e,_⟩:=x;exact aR e
 |own y=>obtain⟨_,e⟩:=x;exact aR e
 |xd fs=>obtain⟨_,⟨_,_,_,e,_⟩,_⟩:=x;exact aR e
 |rng lo hi=>obtain⟨_,_,_,e⟩:=x;exact aR e
 |frz ob u=>obtain⟨e,_⟩:=x;exact aR e
 |tbl ps=>exact aR (show h.get? a=some _ from x)
 |met f y=>exact aR (show h.get? a=some _ from x)
 |ext φ=>obtain⟨_,⟨_,e⟩,_⟩:=x;exact aR e
theorem Paired.mapP{α β:Type}{F G:α->β->Prop}:∀ {l₁:List α}{l₂:List β},Paired F l₁ l₂->(∀a b,F a b->G a b)->Paired G l₁ l₂
 |_,_,.nil,_=>.nil
 |_,_,.cons r t,f=>.cons (f _ _ r)<|Paired.mapP t f
theorem ObjOk.stay(x:ObjOk P w H h a o)(k:∀b u,(b=a\/H b=some (.own a))->h.get? b=some u->h'.get? b=some u)
  (ho:∀b,H b=some (.own a)->H' b=some (.own a)) (ht:∀b xs,H b=some (.tup xs)->H' b=some (.tup xs)):ObjOk P w H' h' a o:=by
 induction o with
 |lst xs=>obtain⟨z,its,n,r,e⟩:=x;exact⟨z,its,n,r,k _ _ (.inl rfl) e⟩
 |tup xs=>obtain⟨z,its,r,ob,e,c⟩:=x;exact⟨z,its,r,ob,k _ _ (.inl rfl) e,c⟩
 |dK kvs=>obtain⟨z,y,vs,r,ob,es,ep,e,c⟩:=x;exact⟨z,y,vs,r,ob,es,ep,k _ _ (.inl rfl) e,c⟩
 |dT kvs=>obtain⟨z,y,xs,r,ob,es,ep,e,c⟩:=x;exact⟨z,y,xs,Paired.mapP r λp q z=>⟨z.1,ht _ _ z.2.1,z.2.2⟩,ob,es,ep,k _ _ (.inl rfl) e,c⟩
 |set S n=>obtain⟨ob,es,ep,t,e,c⟩:=x;exact⟨ob,es,ep,t,k _ _ (.inl rfl) e,c⟩
 |ins C dx fs=>obtain⟨d,z,ne,e,mA,⟨od,es,ep,e2,c⟩,r⟩:=x;exact⟨ho _ d,z,ne,k _ _ (.inl rfl) e,mA,⟨od,es,ep,k _ _ (.inr d) e2,c⟩,r⟩
 |own y=>obtain⟨ob,e⟩:=x;exact⟨ob,k _ _ (.inl rfl) e⟩
 |xd fs=>obtain⟨mA,⟨od,es,ep,e,c⟩,r⟩:=x;exact⟨mA,⟨od,es,ep,k _ _ (.inl rfl) e,c⟩,r⟩
 |rng lo hi=>obtain⟨t,u,v,e⟩:=x;exact⟨t,u,v,k _ _ (.inl rfl) e⟩
 |frz ob u ih=>obtain⟨e,q⟩:=x;exact⟨k _ _ (.inl rfl) e,ih q⟩
 |tbl ps=>have e:h.get? a=some {cls:=.none,data:=.fields ps}:=x;show h'.get? a=some {cls:=.none,data:=.fields ps};exact k a _ (.inl rfl) e
 |met f y=>have e:h.get? a=some (sM (.ref f)<|.ref y):=x;show h'.get? a=some (sM (.ref f)<|.ref y);exact k a _ (.inl rfl) e
 |ext φ=>obtain⟨p,⟨o,e⟩,st⟩:=x;exact⟨st _ _ p λo q=>k _ _ (.inl rfl) q,⟨o,k _ _ (.inl rfl) e⟩,st⟩
theorem HOk.lt(x:HOk P w H h)(e:H a=some o):a<h.objs.size:=(x a o e).lt
theorem HOk.fresh(x:HOk P w H h)(e:h.objs.size<=a):H a=none:=by
 cases q:H a with
 |none=>rfl
 |some u=>exact absurd (aY (x.lt q) e)<|eL _
theorem HOk.kept(x:HOk P w H h)(k:∀b u,h.get? b=some u->h'.get? b=some u):HOk P w H h':=λa o e=>(x a o e).stay (λb u _ q=>k b u q) (λ_ q=>q) λ_ _ q=>q
theorem HOk.laid(x:HOk P w H h)(k:∀b u,h.get? b=some u->h'.get? b=some u)(hp:h.objs.size<=a)(new:ObjOk P w (upd H a o) h' a o):HOk P w (upd H a o) h':=λb u e=>by
 have hn:=x.fresh hp
 by_cases hb:b=a
 ·subst hb;rw[bK] at e;cases e;exact new
 ·rw[aV hb] at e;exact(x b u e).stay (λc v _ q=>k c v q) (λc q=>by rw[aV<|cJ q hn];exact q) λc xs q=>by rw[aV<|cJ q hn];exact q
def Rd(H:Hp)(a:BE)(u:HO):Prop:=H a=some u\/∃o,H a=some (.frz o u)
theorem Rd.of{u:HO}(h:H a=some u):Rd H a u:=.inl h
theorem Rd.ok{u:HO}(r:Rd H a u)(x:HOk P w H h):ObjOk P w H h a u:=by
 rcases r with r|⟨o,r⟩
 ·exact x a u r
 ·obtain⟨_,q⟩:=x a _ r;exact q
noncomputable def Mut:Option HO->Prop
 |some (.lst _)=>True
 |some (.dK _)=>True
 |some (.dT _)=>True
 |some (.set _ _)=>True
 |some (.ins _ _ _)=>True
 |some (.ext _)=>True
 |_=>False
variable {x e:BE}{o':HO}
theorem HOk.write(ok:HOk P w H h)(mu:Mut (H x))(he:e=x\/H e=some (.own x))(k:∀b u,b≠e->h.get? b=some u->h'.get? b=some u)(heo:∃u,h'.get? e=some u)
  (new:ObjOk P w (upd H x o') h' x o'):HOk P w (upd H x o') h':=λb u q=>by
 have nown:∀c y,H c=some (.own y)->c≠x:=λc y r z=>by subst z;rw[r] at mu;exact mu
 have ntup:∀c xs,H c=some (.tup xs)->c≠x:=λc xs r z=>by subst z;rw[r] at mu;exact mu
 by_cases hb:b=x
 ·subst hb;rw[bK] at q;cases q;exact new
 ·rw[aV hb] at q
  by_cases hbe:b=e
  ·have q':H b=some (.own x):=by
    rcases he with z|z
    ·exact absurd (hbe.trans z) hb
    ·rw[hbe];exact z
   rw[q] at q';cases q';obtain⟨v,hv⟩:=heo;exact⟨v,by rw[hbe];exact hv⟩
  ·refine(ok b u q).stay (λc v hc r=>k c v ?_ r) (λc r=>by rw[aV<|nown c b r];exact r) λc xs r=>by rw[aV<|ntup c xs r];exact r
   rcases hc with rfl|hc
   ·exact hbe
   ·rintro rfl
    rcases he with z|z
    ·exact nown c b hc z
    ·rw[hc] at z;cases z;exact hb rfl
structure Un(fs ex:List BE)(H H':Hp)(h h':BG):Prop where
 keep:∀b o,h.get? b=some o->H b=none->b∉fs->b∉ex->h'.get? b=some o
 slot:∀b o,h.get? b=some o->H b=none->b∈fs->b∉ex->∃sl,h'.get? b=some {o with slots:=sl}
 free:∀b o,h.get? b=some o->H b=none->b∉ex->H' b=none
 there:∀b o,h.get? b=some o->b∉ex->∃o',h'.get? b=some o'
 tups:∀b xs,H b=some (.tup xs)->H' b=some (.tup xs)
 frzs:∀b o u,H b=some (.frz o u)->H' b=some (.frz o u)
 tbls:∀b ps,H b=some (.tbl ps)->∃more,H' b=some (.tbl<|ps++more)
section
variable {fs fs' ex ex':List BE}{H H1 H2:Hp}{h h1 h2 h':BG}{a x e:BE}{o:HO}
theorem Un.any(u:Un fs ex H H1 h h1){b:BE}{ob:BH}(q:h.get? b=some ob)(n:H b=none)(hx:b∉ex):∃sl,h1.get? b=some {ob with slots:=sl}:=by
 by_cases hb:b∈fs
 ·exact u.slot b ob q n hb hx
 ·exact⟨ob.slots,u.keep b ob q n hb hx⟩
theorem Un.kept(k:∀b u,h.get? b=some u->h'.get? b=some u):Un fs ex H H h h':=
 ⟨λb ob q _ _ _=>k b ob q,λb ob q _ _ _=>⟨ob.slots,k b ob q⟩,λ_ _ _ n _=>n,λb ob q _=>⟨ob,k b ob q⟩,λ_ _ q=>q,λ_ _ _ q=>q,λ_ ps q=>⟨#[],by rw[q];simp⟩⟩
theorem Un.refl:Un fs ex H H h h:=Un.kept λ_ _ q=>q
theorem Un.laid(k:∀b u,h.get? b=some u->h'.get? b=some u)(hp:h.objs.size<=a)(hn:H a=none):Un fs ex H (upd H a o) h h' where
 keep:=λb u q _ _ _=>k b u q
 slot:=λb u q _ _ _=>⟨u.slots,k b u q⟩
 free:=λb u q n _=>by rw[aV (bW<|aY (aR q) hp)];exact n
 there:=λb u q _=>⟨u,k b u q⟩
 tups:=λb xs q=>by rw[aV<|cJ q hn];exact q
 frzs:=λb u xs q=>by rw[aV<|cJ q hn];exact q
 tbls:=λb ps q=>⟨#[],by rw[aV<|cJ q hn,q];simp⟩
theorem Un.write(mu:Mut (H x))(he:e=x\/H e=some (.own x))(k:∀b u,b≠e->h.get? b=some u->h'.get? b=some u)(heo:∃u,h'.get? e=some u):Un fs ex H (upd H x o) h h':=by
 have hx:∀b,H b=none->b≠x:=λb n z=>by subst z;rw[n] at mu;exact mu
 have hb:∀b,H b=none->b≠e:=λb n z=>by
  subst z
  rcases he with r|r
  ·exact hx b n r
  ·rw[n] at r;cases r
 have hm:∀b u,H b=some u->¬ Mut (some u)->b≠x:=λb u q nm z=>by subst z;rw[q] at mu;exact nm mu
 refine ⟨fun b u q n _ _=>k b u (hb b n) q,fun b u q n _ _=>⟨u.slots,k b u (hb b n) q⟩,fun b u q n _=>by rw [aV (hx b n)]; exact n,fun b u q _=> ?_,
  λb xs q=>by rw[aV (hm b _ q λz=>z)];exact q,λb u xs q=>by rw[aV (hm b _ q λz=>z)];exact q,λb ps q=>⟨#[],by rw[aV (hm b _ q λz=>z),q];simp⟩⟩
 by_cases hbe:b=e
 ·subst hbe;exact heo
 ·exact⟨u,k b u hbe q⟩
end
noncomputable def trk(h:BG)(H:Hp):List BE:=(bQ h.objs.size).filter λa=>(H a).isSome
noncomputable def aGg(h:BG)(H:Hp):BG:=PySem.W.hideAll h<|trk h H
theorem aFM(h:BG)(H:Hp):(aGg h H).objs.size=h.objs.size:=PySem.W.hideAll_size _ _
theorem aHt{b:BE}{o:BH}(e:h.get? b=some o)(n:H b=none):(aGg h H).get? b=some o:=
 PySem.W.hideAll_get _ e λhm=>by have q:(H b).isSome=true:=(gF.mp hm).2;rw[n] at q;simp at q
theorem aJJ{b:BE}{o:BH}(e:(aGg h H).get? b=some o):h.get? b=some o/\H b=none:=by
 have e':h.get? b=some o:=PySem.W.of_hideAll (trk h H) e;refine⟨e', ?_⟩;cases q:H b with
 |none=>rfl
 |some x=>have hm:b∈trk h H:=gF.mpr ⟨cX.mpr<|aR e',by simp[q]⟩;have z:(aGg h H).get? b=none:=PySem.W.hideAll_none (trk h H) hm;rw[z] at e;cases e
noncomputable def aKd(g h:BG)(L:BE):List (BE×BH):=(bQ h.objs.size).filterMap λa=>if a=L\/(g.get? a).isSome=true then none else(h.get? a).map λo=>(a,o)
noncomputable def rest(g h:BG)(L d:BE):List (BE×BH):=(aKd g h L).filter λp=>decide<|p.1≠d
structure Mod(K:aA)(mg:Str->Option BC)(base:BG):Prop where
 kin:K.In base
 glob:base.Ns AR mg
 blt:∃mb,base.Ns builtinsNs mb/\∀x:Str,x≠"__name__"->mb x=Ao x
 nolimit:base.NoLimit
noncomputable def mS:HO->Prop
 |.lst _=>False
 |.dK _=>False
 |.ext _=>False
 |_=>True
structure Cx where
 prog:AE
 w:AM
 K:aA
 mg:Str->Option BC
 base:BG
 A:BF
 N:List Str
 s₀:BD
 H₀:Hp
 env:Env
 outer:List Env
 stack:List Env
 ex:List BE
 fn:Str->Bool
 calm:Bool
 pn:List (BE×BH)
 xe:BC->BD->Prop
 B₀:Hp:=H₀
 hB:∀b o,H₀ b=some o->mS o->B₀ b=some o:=by intro b o e _;exact e
noncomputable def frs(l:List Env):List BE:=l.filterMap (·.frame)
noncomputable abbrev Cx.fs(X:Cx):List BE:=frs X.outer
def Vis(sc:Scope)(x:Str):Prop:=sc.names.lookup x=some .local\/sc.names.lookup x=some .cell\/sc.names.lookup x=some .free
def Loc(sc:Scope)(x:Str):Prop:=sc.names.lookup x=some .local\/sc.names.lookup x=some .cell
def Look(env:Env)(h:BG)(m:Str->Option BC)(x:Str)(u:BC):Prop:=
 (env.kindOf x=some .local/\m x=some u)\/((env.kindOf x=some .cell\/env.kindOf x=some .free)/\∃c,env.cells.lookup x=some c/\h.IsCell c (some u))
structure Cx.Ok(X:Cx):Prop where
 mod:Mod X.K X.mg X.base
 kind:X.env.scope.kind=.function
 glob:X.env.globals=AR
 blt:X.env.builtins=builtinsNs
 above:X.s₀.heap.objs.size<=X.env.locals
 inj:∀x y c,X.env.cells.lookup x=some c->X.env.cells.lookup y=some c->x=y
 has:∀x,(X.env.kindOf x=some .cell\/X.env.kindOf x=some .free)->∃c,X.env.cells.lookup x=some c
 cab:∀x c,X.fn x=true->X.env.cells.lookup x=some c->X.s₀.heap.objs.size<=c
 hd:X.calm=true->X.A.handled=none
 frames:X.A.frames=some X.stack
 stk:X.stack=X.outer\/(X.stack=X.env::X.outer/\X.env.frame=some X.env.locals)
 exf:∀b∈X.ex,b≠X.env.locals/\∀x c,X.env.cells.lookup x=some c->c≠b
 bs:∀b o,X.base.get? b=some o->X.s₀.heap.get? b=some o/\X.H₀ b=none
 bsz:X.base.objs.size<=X.s₀.heap.objs.size
 noex:∀b o,X.base.get? b=some o->b∉X.ex
 exfs:∀b∈X.ex,b∉X.fs
 funs:X.s₀.heap.FunFrames X.base X.outer
 frf:∀b∈X.fs,X.H₀ b=none
structure Inv(X:Cx)(pins:List (BE×BH))(σ:List (Option V))(H:Hp)(s:BD):Prop where
 ok:X.Ok
 os:s.os=X.s₀.os
 bare:AllBare s.gens
 base:Un X.fs X.ex X.H₀ H X.s₀.heap s.heap
 loc:∃m,s.heap.Ns X.env.locals m/\∀ (i:Nat) (x:Str) (v:V),X.N[i]? =some x->σ[i]? =some (some v)->Vis X.env.scope x->∃u,RelV v u/\Look X.env s.heap m x u
 cell:∀x c,X.env.cells.lookup x=some c->∃v,s.heap.IsCell c v
 free:H X.env.locals=none
 freeC:∀x c,X.env.cells.lookup x=some c->H c=none
 pin:∀p∈X.pn++pins,s.heap.get? p.1=some p.2/\H p.1=none/\p.1≠X.env.locals/\p.1∉X.fs/\∀v,p.2.data≠ .cell v
 hok:HOk X.prog X.w H s.heap
 len:σ.length=X.N.length
variable {X:Cx}{pins:List (BE×BH)}{σ:List (Option V)}{s:BD}
theorem Cx.Ok.nofr(ok:X.Ok){b:BE}{o:BH}(e:X.base.get? b=some o):b∉X.fs:=λhb=>by have:=(ok.funs.mem hb).1;rw[e] at this;cases this
theorem Inv.bs(I:Inv X pins σ H s):∀b o,X.base.get? b=some o->s.heap.get? b=some o/\H b=none:=λb o e=>⟨I.base.keep b o (I.ok.bs b o e).1 (I.ok.bs b o e).2 (I.ok.nofr e)<|I.ok.noex b o e,I.base.free b o (I.ok.bs b o e).1 (I.ok.bs b o e).2<|I.ok.noex b o e⟩
theorem Inv.bk(I:Inv X pins σ H s):∀b o,X.base.get? b=some o->s.heap.get? b=some o:=λb o e=>(I.bs b o e).1
theorem Inv.mod(I:Inv X pins σ H s):Mod X.K X.mg X.base:=I.ok.mod
theorem Inv.kIn(I:Inv X pins σ H s):X.K.In s.heap:=I.ok.mod.kin.keeps I.bk
theorem Inv.lt(I:Inv X pins σ H s):X.env.locals<s.heap.objs.size:=let ⟨_,hn,_⟩:=I.loc;hn.lt
theorem Inv.sz(I:Inv X pins σ H s):X.s₀.heap.objs.size<=s.heap.objs.size:=cF I.ok.above<|dE I.lt
theorem Inv.nofs(I:Inv X pins σ H s)(h:s.heap.objs.size<=a):a∉X.fs:=λhb=>by obtain⟨_,o,ho,_⟩:=I.ok.funs.mem hb;exact absurd (aY (aR ho)<|cF I.sz h)<|eL _
theorem Inv.cne(I:Inv X pins σ H s):∀x c,X.env.cells.lookup x=some c->c≠X.env.locals:=λx c e z=>by obtain⟨v,o,ho,hd⟩:=I.cell x c e;obtain⟨m,⟨o',es,ep,ho',hd',_⟩,_⟩:=I.loc;rw[z,ho'] at ho;cases ho;rw[hd'] at hd;cases hd
theorem Inv.funs(I:Inv X pins σ H s):s.heap.FunFrames X.base X.outer:=by
 have all:∀ (l:List Env),(∀b∈frs l,b∈X.fs)->X.s₀.heap.FunFrames X.base l->s.heap.FunFrames X.base l:=by
  intro l
  induction l with
  |nil=>intro _ _;trivial
  |cons env r ih=>
   intro hs hl;obtain⟨hk,⟨L,o,hf,hn,ho,hd⟩,hr⟩:=hl;have hL:L∈X.fs:=hs L (by unfold frs;rw[jD,hf];exact aJ);obtain⟨sl,e⟩:=I.base.slot L o ho (I.ok.frf L hL) hL λz=>I.ok.exfs L z hL
   exact⟨hk,⟨L,_,hf,hn,e,hd⟩,ih (λb hb=>hs b<|by unfold frs;rw[jD,hf];exact aF _ hb) hr⟩
 exact all X.outer (λ_ hb=>hb) I.ok.funs
theorem Inv.stack(I:Inv X pins σ H s):s.heap.FunFrames X.base X.stack:=by
 rcases I.ok.stk with e|⟨e,hf⟩
 ·rw[e];exact I.funs
 ·rw[e];obtain⟨m,hn,_⟩:=I.loc;refine .cons (by rw[I.ok.kind];decide) hf hn ?_ I.funs;exact Heap.get?_none_of_le<|cF I.ok.bsz I.ok.above
theorem Inv.stkSub(I:Inv X pins σ H s):∀b∈frs X.stack,b∈X.env.locals::X.fs:=λb hb=>by
 rcases I.ok.stk with e|⟨e,hf⟩
 ·rw[e] at hb;exact aF _ hb
 ·rw[e] at hb;unfold frs at hb;rw[jD,hf] at hb;exact hb
theorem Inv.stkFree(I:Inv X pins σ H s):∀b∈frs X.stack,H b=none:=λb hb=>by
 rcases bD.mp (I.stkSub b hb) with e|hb
 ·rw[e];exact I.free
 ·obtain⟨_,o,ho,_⟩:=I.ok.funs.mem hb;exact I.base.free b o ho (I.ok.frf b hb) λz=>I.ok.exfs b z hb
theorem Inv.step{g':Array GenState}{t':Nat}{d':Drawn}{ch:List BE}(I:Inv X pins σ H s)
  (hch:∀b∈ch,(b∈X.ex\/X.s₀.heap.objs.size<=b)/\b≠X.env.locals/\(∀x c,X.env.cells.lookup x=some c->c≠b)/\∀p∈X.pn++pins,p.1≠b)
  (keep:∀b o,b≠X.env.locals->b∉X.fs->b∉ch->s.heap.get? b=some o->H b=none->h'.get? b=some o)
  (slot:∀b o,b≠X.env.locals->b∈X.fs->b∉ch->s.heap.get? b=some o->H b=none->∃sl,h'.get? b=some {o with slots:=sl}) (free:∀b o,b∉ch->s.heap.get? b=some o->H b=none->H' b=none)
  (there:∀b o,b∉ch->s.heap.get? b=some o->∃o',h'.get? b=some o')
  (tups:∀b xs,H b=some (.tup xs)->H' b=some (.tup xs)) (frzs:∀b o u,H b=some (.frz o u)->H' b=some (.frz o u)) (tbls:∀b ps,H b=some (.tbl ps)->∃more,H' b=some (.tbl<|ps++more))
  (ns:∀m,s.heap.Ns X.env.locals m->h'.Ns X.env.locals m) (hok:HOk X.prog X.w H' h') (hg:AllBare g'):
  Inv X pins σ H' {s with heap:=h',gens:=g',drawn:=d',toks:=t'}:=by
 have neL:∀b o,X.s₀.heap.get? b=some o->b≠X.env.locals:=λb o e=>bW<|aY (aR e) I.ok.above
 have neC:∀b o,X.s₀.heap.get? b=some o->b∉X.ex->b∉ch:=λb o e hx hb=>by
  rcases(hch b hb).1 with z|z
  ·exact hx z
  ·exact absurd (aY (aR e) z)<|eL _
 have cellK:∀x c,X.env.cells.lookup x=some c->∀v,s.heap.IsCell c v->h'.IsCell c v:=λx c e v ⟨o,ho,hd⟩=>by
  have nch:c∉ch:=λz=>(hch c z).2.2.1 x c e rfl
  by_cases hc:c∈X.fs
  ·obtain⟨sl,q⟩:=slot c o (I.cne x c e) hc nch ho<|I.freeC x c e;exact⟨_,q,hd⟩
  ·exact⟨o,keep c o (I.cne x c e) hc nch ho<|I.freeC x c e,hd⟩
 refine⟨I.ok,I.os,hg,⟨λb o e n hb hx=> ?_,λb o e n hb hx=> ?_,λb o e n hx=> ?_,λb o e hx=> ?_,λb xs e=>tups b xs<|I.base.tups b xs e,λb o xs e=>frzs b o xs<|I.base.frzs b o xs e,λb ps e=> ?_⟩, ?_,λx c e=> ?_, ?_,λx c e=> ?_,λp hp=> ?_,hok,I.len⟩
 ·exact keep b o (neL b o e) hb (neC b o e hx) (I.base.keep b o e n hb hx)<|I.base.free b o e n hx
 ·obtain⟨sl,e1⟩:=I.base.slot b o e n hb hx;obtain⟨sl',e2⟩:=slot b _ (neL b o e) hb (neC b o e hx) e1<|I.base.free b o e n hx;exact⟨sl',e2⟩
 ·obtain⟨o',e1⟩:=I.base.there b o e hx;exact free b o' (neC b o e hx) e1<|I.base.free b o e n hx
 ·obtain⟨o',e1⟩:=I.base.there b o e hx;exact there b o' (neC b o e hx) e1
 ·obtain⟨m1,e1⟩:=I.base.tbls b ps e;obtain⟨m2,e2⟩:=tbls b _ e1;exact⟨m1++m2,by rw[e2,Array.append_assoc]⟩
 ·obtain⟨m,hn,hl⟩:=I.loc;refine⟨m,ns m hn,λi x v e1 e2 e3=> ?_⟩;obtain⟨u,r,l⟩:=hl i x v e1 e2 e3;refine⟨u,r, ?_⟩
  rcases l with l|⟨k,c,e,z⟩
  ·exact .inl l
  ·exact .inr ⟨k,c,e,cellK x c e _ z⟩
 ·obtain⟨v,z⟩:=I.cell x c e;exact⟨v,cellK x c e v z⟩
 ·obtain⟨m,⟨o,_,_,ho,_⟩,_⟩:=I.loc;exact free _ o (λz=>(hch _ z).2.1 rfl) ho I.free
 ·obtain⟨v,o,ho,hd⟩:=I.cell x c e;exact free c o (λz=>(hch c z).2.2.1 x c e rfl) ho<|I.freeC x c e
 ·obtain⟨e,n,ne,nf,d⟩:=I.pin p hp;have nch:p.1∉ch:=λz=>(hch p.1 z).2.2.2 p hp rfl
  exact⟨keep p.1 p.2 ne nf nch e n,free p.1 p.2 nch e n,ne,nf,d⟩
theorem Inv.un{t':Nat}(I:Inv X pins σ H s)(u:Un X.fs [] H H' s.heap h')(hok:HOk X.prog X.w H' h'):Inv X pins σ H' {s with heap:=h',toks:=t'}:=by
 obtain⟨m,⟨o,es,ep,ho,r⟩,_⟩:=id I.loc;obtain⟨sl,hL⟩:=u.any ho I.free<|by simp
 exact I.step (g':=s.gens) (d':=s.drawn) (ch:=[]) (fun _ z=>nomatch z) (fun b o _ hb _ e n=>u.keep b o e n hb (by simp)) (fun b o _ hb _ e n=>u.slot b o e n hb (by simp)) (fun b o _ e n=>u.free b o e n (by simp)) (fun b o _ e=>u.there b o e (by simp)) u.tups u.frzs u.tbls (fun m' hm=>by
  obtain⟨o',es',ep',ho',r'⟩:=hm;rw[ho] at ho';cases ho'
  exact⟨_,es',ep',hL,r'⟩) hok I.bare
theorem Inv.call{g':Array GenState}{t':Nat}{d':Drawn}{ch:List BE}(I:Inv X pins σ H s)(u:Un (frs X.stack) ch H H' s.heap h')(hok:HOk X.prog X.w H' h')(hg:AllBare g')
  (hch:∀b∈ch,(b∈X.ex\/X.s₀.heap.objs.size<=b)/\b≠X.env.locals/\(∀x c,X.env.cells.lookup x=some c->c≠b)/\∀p∈X.pn++pins,p.1≠b):
  Inv X pins σ H' {s with heap:=h',gens:=g',drawn:=d',toks:=t'}:=by
 obtain⟨m,⟨o,es,ep,ho,r⟩,_⟩:=id I.loc;obtain⟨sl,hL⟩:=u.any ho I.free λz=>(hch _ z).2.1 rfl
 exact I.step (ch:=ch) hch (fun b o hL hb hc e n=>u.keep b o e n (fun z=>(bD.mp (I.stkSub b z)).elim hL hb) hc) (fun b o _ _ hc e n=>u.any e n hc) (fun b o hc e n=>u.free b o e n hc) (fun b o hc e=>u.there b o e hc) u.tups u.frzs u.tbls (fun m' hm=>by
  obtain⟨o',es',ep',ho',r'⟩:=hm;rw[ho] at ho';cases ho'
  exact⟨_,es',ep',hL,r'⟩) hok hg
theorem Inv.turned{t':Nat}{it:BE}(I:Inv X pins σ H s)(k:∀b o,b≠it->s.heap.get? b=some o->h'.get? b=some o)(hn:H it=none)(hL:it≠X.env.locals)
  (h1:it∈X.ex\/X.s₀.heap.objs.size<=it) (h2:∀x c,X.env.cells.lookup x=some c->c≠it) (h3:∀p∈X.pn++pins,p.1≠it):Inv X pins σ H {s with heap:=h',toks:=t'}:=by
 have nit:∀b u,H b=some u->b≠it:=λb u e z=>by rw[z,hn] at e;cases e
 refine I.step (g':=s.gens) (d':=s.drawn) (ch:=[it]) (λb hb=> ?_) (λb o _ _ hc e _=>k b o (λz=>hc<|by simp[z]) e) (λb o _ _ hc e _=>⟨o.slots,k b o (λz=>hc<|by simp[z]) e⟩) (λ_ _ _ _ n=>n)
  (λb o hc e=>⟨o,k b o (λz=>hc<|by simp[z]) e⟩) (λ_ _ e=>e) (λ_ _ _ e=>e) (λb ps e=>⟨#[],by rw[e];simp⟩) (λm hm=> ?_) (λb u e=> ?_) I.bare
 ·have e:b=it:=by simpa using hb
  subst e;exact⟨h1,hL,h2,h3⟩
 ·obtain⟨o,es,ep,ho,r⟩:=hm;exact⟨o,es,ep,k _ o (Ne.symm hL) ho,r⟩
 ·refine(I.hok b u e).stay (λc v hc q=>k c v ?_ q) (λ_ q=>q) λ_ _ q=>q
  rcases hc with z|z
  ·rw[z];exact nit b u e
  ·exact nit c _ z
theorem Inv.tok(I:Inv X pins σ H s)(t:Nat):Inv X pins σ H {s with toks:=t}:=I.un (h':=s.heap) (t':=t) Un.refl I.hok
theorem Inv.kept{t':Nat}(I:Inv X pins σ H s)(k:∀b u,s.heap.get? b=some u->h'.get? b=some u):Inv X pins σ H {s with heap:=h',toks:=t'}:=I.un (Un.kept k)<|I.hok.kept k
theorem Inv.laid{t':Nat}(I:Inv X pins σ H s)(k:∀b u,s.heap.get? b=some u->h'.get? b=some u)(hp:s.heap.objs.size<=a)(new:ObjOk X.prog X.w (upd H a o) h' a o):
  Inv X pins σ (upd H a o) {s with heap:=h',toks:=t'}:=I.un (Un.laid k hp<|I.hok.fresh hp)<|I.hok.laid k hp new
theorem Inv.write{t':Nat}(I:Inv X pins σ H s)(mu:Mut (H x))(he:e=x\/H e=some (.own x))(k:∀b u,b≠e->s.heap.get? b=some u->h'.get? b=some u)(heo:∃u,h'.get? e=some u)
  (new:ObjOk X.prog X.w (upd H x o) h' x o):Inv X pins σ (upd H x o) {s with heap:=h',toks:=t'}:=I.un (Un.write mu he k heo)<|I.hok.write mu he k heo new
theorem Inv.pins_of{pins':List (BE×BH)}(I:Inv X pins σ H s)(h:∀p∈pins',s.heap.get? p.1=some p.2/\H p.1=none/\p.1≠X.env.locals/\p.1∉X.fs/\∀v,p.2.data≠ .cell v):Inv X pins' σ H s:=
 ⟨I.ok,I.os,I.bare,I.base,I.loc,I.cell,I.free,I.freeC,λp hp=>(aS.mp hp).elim (λz=>I.pin p<|bO _ z)<|h p,I.hok,I.len⟩
theorem aBV{N:List Str}(hN:N.Nodup){i j:Nat}{x:Str}(a:N[i]? =some x)(b:N[j]? =some x):i=j:=by obtain⟨h1,e1⟩:=aE.mp a;obtain⟨h2,e2⟩:=aE.mp b;exact(kP hN).mp<|e1.trans e2.symm
theorem aFD{M:Model}{A:BF}{E:BC->BD->Prop}{i:Nat}{x:Str}{v:V}{u:BC}{Q:Unit->BD->Prop}(I:Inv X pins σ H s)(hN:X.N.Nodup)(hi:X.N[i]? =some x)(hx:Loc X.env.scope x)(r:RelV v u)
  (h:∀s',Inv X pins (σ.set i (some v)) H s'->(∃a,Heap.SameBut a s.heap s'.heap/\(a=X.env.locals\/X.env.cells.lookup x=some a))->Q () s') (hf:X.fn x=true\/X.env.scope.names.lookup x=some .local:=by first|exact .inl rfl|exact .inr rfl|assumption):AK M A (storeName X.env x u) Q E s:=by
 obtain⟨m,hn,hl⟩:=id I.loc;have hcls:(X.env.scope.kind==.class||(X.env.scope.kind==.module&&X.env.locals !=X.env.globals))=false:=by rw[I.ok.kind];rfl
 have hiσ:i<σ.length:=by rw[I.len];exact(aE.mp hi).1
 have cne:=I.cne
 have tracked:∀ {a:BE}{h':BG},(∃o,s.heap.get? a=some o/\H a=none)->Heap.SameBut a s.heap h'->HOk X.prog X.w H h':=λ{a h'} ha hs b ob e=>by
  obtain⟨_,_,hfree⟩:=ha;refine(I.hok b ob e).stay (λc w' hc q=>(hs.2 c ?_).trans q) (λ_ q=>q) λ_ _ q=>q
  rintro rfl
  rcases hc with rfl|hc
  ·rw[hfree] at e;cases e
  ·rw[hfree] at hc;cases hc
 rcases hx with hk|hk
 ·refine wpAny_storeName_local hk hn (λh' hn' hs=> ?_) hcls;obtain⟨oL,_,_,hoL,_⟩:=id hn;refine h _ ⟨I.ok,I.os,I.bare,⟨λb o e n hb hx=> ?_,λb o e n hb hx=> ?_,I.base.free,λb o e hx=> ?_,I.base.tups,I.base.frzs,I.base.tbls⟩,⟨_,hn',λj y v' e1 e2 e3=> ?_⟩,λy c e=> ?_,I.free,I.freeC,λp hp=> ?_,tracked ⟨oL,hoL,I.free⟩ hs,by simpa using I.len⟩ ⟨_,hs,.inl rfl⟩
  ·exact(hs.2 b (bW<|aY (aR e) I.ok.above)).trans<|I.base.keep b o e n hb hx
  ·obtain⟨sl,e1⟩:=I.base.slot b o e n hb hx;exact⟨sl,(hs.2 b (bW<|aY (aR e) I.ok.above)).trans e1⟩
  ·obtain⟨o',e1⟩:=I.base.there b o e hx;exact⟨o',(hs.2 b (bW<|aY (aR e) I.ok.above)).trans e1⟩
  ·by_cases hj:j=i
   ·subst hj;rw[hi] at e1;cases e1;rw[kA hiσ] at e2;cases e2;exact⟨u,r,.inl ⟨hk,by simp⟩⟩
   ·rw[lA<|Ne.symm hj] at e2;obtain⟨u',r',q⟩:=hl j y v' e1 e2 e3;refine⟨u',r', ?_⟩
    rcases q with⟨k,e⟩|⟨k,c,e,z⟩
    ·refine .inl ⟨k, ?_⟩;have:y≠x:=λe=>hj (aBV hN e1<|e▸hi)
     simp[this,e]
    ·exact .inr ⟨k,c,e,z.sameBut hs<|cne y c e⟩
  ·obtain⟨w',z⟩:=I.cell y c e;exact⟨w',z.sameBut hs<|cne y c e⟩
  ·obtain⟨e,n,ne,nf,d⟩:=I.pin p hp;exact⟨(hs.2 p.1 ne).trans e,n,ne,nf,d⟩
 ·have hfn:X.fn x=true:=by
   rcases hf with z|z
   ·exact z
   ·rw[z] at hk;cases hk
  obtain⟨c,hc⟩:=I.ok.has x<|.inl hk;obtain⟨w',z⟩:=I.cell x c hc;refine wpAny_storeName_cell I.ok.kind hk hc z λh' hc' hs=> ?_;obtain⟨oc,hoc,hocd⟩:=id z;refine h {s with heap:=h'} ⟨I.ok,I.os,I.bare,⟨λb o e n hb hx=> ?_,λb o e n hb hx=> ?_,I.base.free,λb o e hx=> ?_,I.base.tups,I.base.frzs,I.base.tbls⟩,⟨m,hn.sameBut hs (Ne.symm<|cne x c hc),λj y v' e1 e2 e3=> ?_⟩,λy c' e=> ?_,I.free,I.freeC,λp hp=> ?_,tracked ⟨oc,hoc,I.freeC x c hc⟩ hs,by simpa using I.len⟩ ⟨c,hs,.inr hc⟩
  ·exact(hs.2 b<|bW (aY (aR e)<|I.ok.cab x c hfn hc)).trans<|I.base.keep b o e n hb hx
  ·obtain⟨sl,e1⟩:=I.base.slot b o e n hb hx;exact⟨sl,(hs.2 b<|bW (aY (aR e)<|I.ok.cab x c hfn hc)).trans e1⟩
  ·obtain⟨o',e1⟩:=I.base.there b o e hx;exact⟨o',(hs.2 b<|bW (aY (aR e)<|I.ok.cab x c hfn hc)).trans e1⟩
  ·by_cases hj:j=i
   ·subst hj;rw[hi] at e1;cases e1;rw[kA hiσ] at e2;cases e2;exact⟨u,r,.inr ⟨.inl hk,c,hc,hc'⟩⟩
   ·rw[lA<|Ne.symm hj] at e2;obtain⟨u',r',q⟩:=hl j y v' e1 e2 e3;refine⟨u',r', ?_⟩
    rcases q with q|⟨k,c',e,z'⟩
    ·exact .inl q
    ·refine .inr ⟨k,c',e,z'.sameBut hs ?_⟩;rintro rfl;exact hj (aBV hN e1<|I.ok.inj _ _ _ e hc▸hi)
  ·by_cases hcc:c'=c
   ·subst hcc;exact⟨_,hc'⟩
   ·obtain⟨w2,z2⟩:=I.cell y c' e;exact⟨w2,z2.sameBut hs hcc⟩
  ·obtain⟨e,n,ne,nf,d⟩:=I.pin p hp;refine⟨(hs.2 p.1 ?_).trans e,n,ne,nf,d⟩;intro q;rw[q,hoc] at e;have q':oc=p.2:=bZ.inj e;exact d w' (by rw[<-q'];exact hocd)
theorem aBR{M:Model}{A:BF}{E:BC->BD->Prop}{i:Nat}{x:Str}{v:V}{u:BC}{Q:Unit->BD->Prop}(I:Inv X pins σ H s)(hN:X.N.Nodup)(hi:X.N[i]? =some x)(hx:Loc X.env.scope x)(r:RelV v u)
  (h:∀s',Inv X pins (σ.set i (some v)) H s'->Q () s') (hf:X.fn x=true\/X.env.scope.names.lookup x=some .local:=by first|exact .inl rfl|exact .inr rfl|assumption):AK M A (storeName X.env x u) Q E s:=
 aFD I hN hi hx r (λs' I' _=>h s' I') hf
theorem Inv.call'{s':BD}{ch:List BE}(I:Inv X pins σ H s)(ho:s'.os=s.os)(u:Un (frs X.stack) ch H H' s.heap s'.heap)(hok:HOk X.prog X.w H' s'.heap)(hg:AllBare s'.gens)
  (hch:∀b∈ch,(b∈X.ex\/X.s₀.heap.objs.size<=b)/\b≠X.env.locals/\(∀x c,X.env.cells.lookup x=some c->c≠b)/\∀p∈X.pn++pins,p.1≠b):Inv X pins σ H' s':=by
 obtain⟨h',g',d',t',o'⟩:=s';have e:o'=s.os:=ho;subst e;exact I.call (g':=g') (t':=t') (d':=d') u hok hg hch
noncomputable abbrev XK:=BC->Option BE->Hp->Prop
noncomputable abbrev St:=List<|Option V
noncomputable abbrev VK:=V->Hp->Prop
noncomputable abbrev TE:=St->Hp->VK->Prop
noncomputable abbrev TT:=St->Hp->(Bool->Hp->Prop)->Prop
noncomputable abbrev TA:=St->Hp->(List V->Hp->Prop)->Prop
structure tZ where
 nx:St->Hp->Prop
 rt:VK
 bk:St->Hp->Prop:=λ_ _=>False
 ct:St->Hp->Prop:=λ_ _=>False
noncomputable abbrev TS:=tZ->St->Hp->Prop
def EP(X:Cx)(pins:List (BE×BH))(σ:St)(Q:VK)(u:BC)(s':BD):Prop:=∃v H',Inv X pins σ H' s'/\RelV v u/\Q v H'
def TP(X:Cx)(pins:List (BE×BH))(σ:St)(Q:Bool->Hp->Prop)(b:Bool)(s':BD):Prop:=∃H',Inv X pins σ H' s'/\Q b H'
def AP(X:Cx)(pins:List (BE×BH))(σ:St)(Q:List V->Hp->Prop)(us:List BC)(s':BD):Prop:=∃vs H',Inv X pins σ H' s'/\Vals vs us/\Q vs H'
def SP(X:Cx)(pins:List (BE×BH))(D:tZ)(f:Flow)(s':BD):Prop:=
 match f with
 |.next=>∃σ' H',Inv X pins σ' H' s'/\D.nx σ' H'
 |.brk=>∃σ' H',Inv X pins σ' H' s'/\D.bk σ' H'
 |.cont=>∃σ' H',Inv X pins σ' H' s'/\D.ct σ' H'
 |.ret u=>∃v σ' H',Inv X pins σ' H' s'/\RelV v u/\D.rt v H'
def PE(X:Cx)(e:Expr)(t:TE):Prop:=
 ∀ (pins:List (BE×BH)) (s:BD) (σ:St) (H:Hp) (Q:VK),Inv X pins σ H s->t σ H Q->AK (AH X.prog X.w) X.A (eval e X.env) (EP X pins σ Q) X.xe s
def PT(X:Cx)(e:Expr)(t:TT):Prop:=
 ∀ (pins:List (BE×BH)) (s:BD) (σ:St) (H:Hp) (Q:Bool->Hp->Prop),Inv X pins σ H s->t σ H Q->AK (AH X.prog X.w) X.A (isTrue e X.env<|eval e X.env) (TP X pins σ Q) X.xe s
def PW(X:Cx)(e:Expr)(t:TT):Prop:=
 ∀ (whole:Sem BC) (pins:List (BE×BH)) (s:BD) (σ:St) (H:Hp) (Q:Bool->Hp->Prop),Inv X pins σ H s->t σ H Q->AK (AH X.prog X.w) X.A (isTrue e X.env whole) (TP X pins σ Q) X.xe s
theorem PW.pt{e:Expr}{t:TT}(h:PW X e t):PT X e t:=h _
def PA(X:Cx)(es:List Expr)(t:TA):Prop:=
 ∀ (pos:Pos) (pins:List (BE×BH)) (s:BD) (σ:St) (H:Hp) (Q:List V->Hp->Prop),Inv X pins σ H s->t σ H Q->AK (AH X.prog X.w) X.A (spliced (AX pos<|AB es X.env)) (AP X pins σ Q) X.xe s
def PS(X:Cx)(st:BI)(t:TS):Prop:=
 ∀ (pins:List (BE×BH)) (s:BD) (σ:St) (H:Hp) (D:tZ),Inv X pins σ H s->t D σ H->AK (AH X.prog X.w) X.A (exec st X.env) (SP X pins D) X.xe s
def PSs(X:Cx)(st:List BI)(t:TS):Prop:=
 ∀ (pins:List (BE×BH)) (s:BD) (σ:St) (H:Hp) (D:tZ),Inv X pins σ H s->t D σ H->AK (AH X.prog X.w) X.A (execs st X.env) (SP X pins D) X.xe s
theorem thn{α:Type}{t:Sem α}{Q Q':α->BD->Prop}{M:Model}{A:BF}{E:BC->BD->Prop}(h:AK M A t Q E s)(hQ:∀a s,Q a s->Q' a s):AK M A t Q' E s:=Aa h hQ λ_ _ x=>x
noncomputable def iT(i:Nat):TE:=λσ H Q=>∃v,σ[i]? =some (some v)/\Q v H
noncomputable def tC(v:V):TE:=λ_ H Q=>Q v H
theorem aNM{i:Nat}{x:Str}{pos:Pos}(hN:X.N[i]? =some x)(hv:Vis X.env.scope x)(hd:(x==("__debug__":Str))=false:=by decide)(hcd:(x==("__classdict__":Str))=false:=by decide):PE X (.Name x pos) (iT i):=by
 intro pins s σ H Q I h;obtain⟨v,e,h⟩:=h;obtain⟨m,hn,hl⟩:=I.loc;obtain⟨u,r,l⟩:=hl i x v hN e hv;have fin:EP X pins σ Q u s:=⟨v,H,I,r,h⟩
 rcases l with⟨hk,hm⟩|⟨hk,c,hc,hcell⟩
 ·exact wpAny_Name (wpAny_loadName_local I.ok.kind hk hn hm fin) hd
 ·rcases hk with hk|hk
  ·exact wpAny_Name (wpAny_loadName_cell I.ok.kind hk hc hcell fin) hd
  ·exact wpAny_Name (wpAny_loadName_free I.ok.kind hk hc hcell fin hcd) hd
theorem pe_int{i j pos}:PE X (.Constant (.int i) j pos) (tC<|.int i):=λ_ _ _ H _ I h=>wpAny_Constant_int ⟨.int i,H,I.tok _,⟨_,rfl⟩,h⟩
theorem pe_bl{b j pos}:PE X (.Constant (.bool b) j pos) (tC<|.bl b):=λ_ _ _ H _ I h=>Constant_bool ⟨.bl b,H,I,rfl,h⟩
theorem pe_non{j pos}:PE X (.Constant .none j pos) (tC .non):=λ_ _ _ H _ I h=>Constant_none ⟨.non,H,I,rfl,h⟩
theorem pe_str{x j pos}:PE X (.Constant (.str x) j pos) (tC<|.str x):=λ_ _ _ H _ I h=>Calls.Constant_str ⟨.str x,H,I.tok _,⟨_,rfl⟩,h⟩
def Gl(X:Cx)(x:Str):Prop:=X.env.kindOf x=some .globalImplicit
theorem lG{E:BC->BD->Prop}{σ:St}{x:Str}{u:BC}{pos:Pos}{Q:BC->BD->Prop}(I:Inv X pins σ H s)(hg:Gl X x)(hm:X.mg x=some u)(h:Q u s)
  (hd:(x==("__debug__":Str))=false:=by decide):AK (AH X.prog X.w) X.A (eval (.Name x pos) X.env) Q E s:=
 Calls.Name_function_global I.ok.kind hg (Calls.loadGlobal_global (by rw[I.ok.glob];exact I.mod.glob.keeps I.bk) hm h) hd
theorem lP{E:BC->BD->Prop}{σ:St}{x:Str}{u:BC}{pos:Pos}{Q:BC->BD->Prop}(I:Inv X pins σ H s)(hg:Gl X x)(hm:X.mg x=none)(hv:Ao x=some u)(h:Q u s)
  (hn:x≠"__name__":=by decide) (hd:(x==("__debug__":Str))=false:=by decide):AK (AH X.prog X.w) X.A (eval (.Name x pos) X.env) Q E s:=by
 obtain⟨mb,h1,h2⟩:=I.mod.blt;exact Calls.Name_function_global I.ok.kind hg (Calls.loadGlobal_builtin (by rw[I.ok.glob];exact I.mod.glob.keeps I.bk) hm (by rw[I.ok.blt];exact h1.keeps I.bk) ((h2 x hn).trans hv) h) hd
theorem aEi{x:Str}{v:V}{u:BC}{pos:Pos}(hg:Gl X x)(hm:X.mg x=some u)(r:RelV v u)(hd:(x==("__debug__":Str))=false:=by decide):PE X (.Name x pos) (tC v):=
 λ_ _ _ H _ I h=>lG I hg hm ⟨v,H,I,r,h⟩ hd
theorem aKG{x:Str}{v:V}{u:BC}{pos:Pos}(hg:Gl X x)(hm:X.mg x=none)(hv:Ao x=some u)(r:RelV v u)(hn:x≠"__name__":=by decide)(hd:(x==("__debug__":Str))=false:=by decide):PE X (.Name x pos) (tC v):=
 λ_ _ _ H _ I h=>lP I hg hm hv ⟨v,H,I,r,h⟩ hn hd
def t2I(ta tb:TE)(k:Int->Int->Hp->Prop):St->Hp->Prop:=λσ H=>ta σ H λx H1=>tb σ H1 λy H2=>∃i j,x=.int i/\y=.int j/\k i j H2
variable {a b:Expr}{ta tb:TE}{pos:Pos}
def PC(X:Cx)(op:CmpOp)(a b:Expr)(t:TE):Prop:=
 ∀ (pins:List (BE×BH)) (s:BD) (σ:St) (H:Hp) (Q:VK),Inv X pins σ H s->t σ H Q->
  AK (AH X.prog X.w) X.A (eval a X.env) (λv s₁=>AK (AH X.prog X.w) X.A (eval b X.env) (λu s₂=>AK (AH X.prog X.w) X.A (AY op v u) (EP X pins σ Q) X.xe s₂) X.xe s₁) X.xe s
noncomputable def aLx(p:Int->Int->Bool)(ta tb:TE):TE:=λσ H Q=>t2I ta tb (λi j H2=>Q (.bl<|p i j) H2) σ H
noncomputable abbrev tLt:TE->TE->TE:=aLx λi j=>decide<|i<j
noncomputable abbrev tLe:TE->TE->TE:=aLx λi j=>decide<|i<=j
noncomputable abbrev tGt:TE->TE->TE:=aLx λi j=>decide<|j<i
noncomputable abbrev tGe:TE->TE->TE:=aLx λi j=>decide<|j<=i
noncomputable abbrev tEqI:TE->TE->TE:=aLx λi j=>decide<|i=j
noncomputable abbrev tNeI:TE->TE->TE:=aLx λi j=> !decide (i=j)
noncomputable def tB(t:TE):TT:=λσ H Q=>t σ H λx H1=>∃c,x=.bl c/\Q c H1
theorem aMC{op:CmpOp}{t:TE}(h:PC X op a b t)(h1:AU op b=false:=by first|exact nobehind _ (by decide) (by decide)|rfl):PT X (.Compare a [op] [b] pos) (tB t):=by intro pins s σ H Q I hw;refine wpAny_isTrue_Compare1 (thn (h pins s σ H _ I hw) λv s1 h1=>thn h1 λu s2 h2=>thn h2 λc s3 ⟨x,H1,I1,r1,q1⟩=> ?_) h1;obtain⟨d,rfl,q⟩:=q1;cases r1;exact Ax ⟨H1,I1,q⟩
theorem aNc{e:Expr}{t:TE}(h:PE X e t)(he:∀whole,isTrue e X.env whole=(do let v <-whole;standAt e.pos;holding [v] (truthy v)):=by intro _;rfl):PT X e (tB t):=by intro pins s σ H Q I hw;refine isTrue_plain (thn (h pins s σ H _ I hw) λv s1 ⟨x,H1,I1,r1,q1⟩=> ?_)<|he _;obtain⟨d,rfl,q⟩:=q1;cases r1;exact Ax ⟨H1,I1,q⟩
variable {tA tB':TT}{rest:List Expr}
noncomputable def tAnd(t u:TT):TT:=λσ H Q=>t σ H λc H1=>if c=true then u σ H1 Q else Q false H1
noncomputable def tOr(t u:TT):TT:=λσ H Q=>t σ H λc H1=>if c=true then Q true H1 else u σ H1 Q
noncomputable def tNot(t:TT):TT:=λσ H Q=>t σ H λc H1=>Q (!c) H1
theorem aJZ(ha:PT X a tA):PW X (.BoolOp .And [a] pos) tA:=by
 intro wh pins s σ H Q I h;refine isTrue_and<|thn (ha pins s σ H Q I h) λc s1 e=> ?_;cases c with
 |true=>exact isTrue_and_nil e
 |false=>exact e
theorem aMz(ha:PT X a tA):PW X (.BoolOp .Or [a] pos) tA:=by
 intro wh pins s σ H Q I h;refine isTrue_or<|thn (ha pins s σ H Q I h) λc s1 e=> ?_;cases c with
 |false=>exact isTrue_or_nil e
 |true=>exact e
theorem aNC(ha:PT X a tA)(hb:PW X (.BoolOp .And (b::rest) pos) tB'):PW X (.BoolOp .And (a::b::rest) pos) (tAnd tA tB'):=by
 intro wh pins s σ H Q I h;refine isTrue_and<|thn (ha pins s σ H _ I h) λc s1 ⟨H1,I1,q1⟩=> ?_;cases c with
 |true=>exact hb wh pins s1 σ H1 Q I1 q1
 |false=>exact⟨H1,I1,q1⟩
theorem aPi(ha:PT X a tA)(hb:PW X (.BoolOp .Or (b::rest) pos) tB'):PW X (.BoolOp .Or (a::b::rest) pos) (tOr tA tB'):=by
 intro wh pins s σ H Q I h;refine isTrue_or<|thn (ha pins s σ H _ I h) λc s1 ⟨H1,I1,q1⟩=> ?_;cases c with
 |true=>exact⟨H1,I1,q1⟩
 |false=>exact hb wh pins s1 σ H1 Q I1 q1
theorem aMO(ha:PT X a tA):PT X (.UnaryOp .Not a pos) (tNot tA):=by intro pins s σ H Q I h;exact isTrue_not<|ha pins s σ H (λc H1=>Q (!c) H1) I h
noncomputable def aPt(ta tb:TE):TE:=λσ H Q=>ta σ H λx H1=>∃c,x=.bl c/\if c=true then tb σ H1 Q else Q (.bl false) H1
theorem aNv{op}{t:TE}(h:PE X a t):PE X (.BoolOp op [a] pos) t:=λpins s σ H Q I hw=>BoolOp_one<|h pins s σ H Q I hw
theorem aNQ(ha:PE X a ta)(hb:PE X (.BoolOp .And (b::rest) pos) tb):PE X (.BoolOp .And (a::b::rest) pos) (aPt ta tb):=by
 intro pins s σ H Q I h;refine BoolOp_and<|thn (ha pins s σ H _ I h) λv s1 ⟨x,H1,I1,r1,q1⟩=> ?_;obtain⟨c,rfl,q1⟩:=q1;cases r1;refine Ax ?_;cases c with
 |true=>exact hb pins s1 σ H1 Q I1 q1
 |false=>exact⟨.bl false,H1,I1,rfl,q1⟩
noncomputable def tIf(t:TT)(ta tb:TE):TE:=λσ H Q=>t σ H λc H1=>if c=true then ta σ H1 Q else tb σ H1 Q
theorem aGJ{c:Expr}(hc:PT X c tA)(ha:PE X a ta)(hb:PE X b tb):PE X (.IfExp c a b pos) (tIf tA ta tb):=by
 intro pins s σ H Q I h;refine wpAny_IfExp<|thn (hc pins s σ H _ I h) λd s1 ⟨H1,I1,q1⟩=> ?_;cases d with
 |true=>exact ha pins s1 σ H1 Q I1 q1
 |false=>exact hb pins s1 σ H1 Q I1 q1
def SqL(K:aA)(H:Hp)(a:BE)(xs:List V):Prop:=
 Rd H a (.lst xs)\/
  ∃ (o:BH) (its:Array BC) (n:Nat),K.lookup a=some o/\o.cls=.type "list"/\o.dict=none/\o.data=.seq its n/\its.size<=AL/\Vals xs its.toList
def SqT(K:aA)(H:Hp)(a:BE)(xs:List V):Prop:=
 Rd H a (.tup xs)\/
  ∃ (o:BH) (its:Array BC) (n:Nat),K.lookup a=some o/\o.cls=.type "tuple"/\o.data=.seq its n/\its.size<=AL/\Vals xs its.toList
noncomputable def absV:BC->Option V
 |.none=>some .non
 |.bool b=>some<|.bl b
 |.int i _=>some<|.int i
 |.str x _=>some<|.str x
 |.bytes b _=>some<|.byt b
 |.float b _=>some<|.flt b
 |.ref a=>some<|.ref a
 |.type n=>some<|.ty n
 |_=>none
theorem RelV.abs{x:V}{u:BC}(r:RelV x u):absV u=some x:=by
 cases x with
 |non=>cases r;rfl
 |bl _=>cases r;rfl
 |int _=>obtain⟨t,rfl⟩:=r;rfl
 |str _=>obtain⟨t,rfl⟩:=r;rfl
 |byt _=>obtain⟨t,rfl⟩:=r;rfl
 |flt _=>obtain⟨t,rfl⟩:=r;rfl
 |ref _=>cases r;rfl
 |ty _=>cases r;rfl
theorem RelV.inj{x y:V}{u:BC}(r:RelV x u)(q:RelV y u):x=y:=bZ.inj<|r.abs.symm.trans q.abs
theorem Vals.inj:∀ {xs ys:List V}{us:List BC},Vals xs us->Vals ys us->xs=ys
 |_,_,_,.nil,.nil=>rfl
 |_,_,_,.cons r t,.cons r' t'=>by rw[r.inj r',Vals.inj t t']
variable {σ:St}{a:BE}{xs ys:List V}
theorem SqL.of{K:aA}(h:H a=some (.lst xs)):SqL K H a xs:=.inl<|.inl h
theorem SqT.of{K:aA}(h:H a=some (.tup xs)):SqT K H a xs:=.inl<|.inl h
theorem Inv.list(I:Inv X pins σ H s)(h:SqL X.K H a xs):∃its:List BC,Vals xs its/\PlainL s.heap a its.toArray/\xs.length<=AL:=by
 rcases h with h|⟨o,its,n,hk,hc,hd,hs,hz,r⟩
 ·obtain⟨z,its,n,r,e⟩:=h.ok I.hok;exact⟨its,r,⟨_,n,e,rfl,rfl,rfl⟩,z⟩
 ·refine⟨its.toList,r,⟨o,n,I.kIn a o hk,hc,hd,by simpa using hs⟩, ?_⟩;have e:=r.length;simp only[cS] at e;omega
theorem Inv.tuple(I:Inv X pins σ H s)(h:SqT X.K H a xs):∃its:List BC,Vals xs its/\IsTup s.heap a its.toArray/\xs.length<=AL:=by
 rcases h with h|⟨o,its,n,hk,hc,hs,hz,r⟩
 ·obtain⟨z,its,r,p⟩:=h.ok I.hok;exact⟨its,r,p.tup,z⟩
 ·refine⟨its.toList,r,⟨o,I.kIn a o hk,hc,n,by simpa using hs⟩, ?_⟩;have e:=r.length;simp only[cS] at e;omega
theorem Inv.list_inj(I:Inv X pins σ H s)(h:SqL X.K H a xs)(h':SqL X.K H a ys):xs=ys:=by
 obtain⟨its,r,⟨o,n,e,_,_,d⟩,_⟩:=I.list h;obtain⟨its',r',⟨o',n',e',_,_,d'⟩,_⟩:=I.list h';rw[e] at e';cases e';rw[d] at d';injection d' with d1 _
 have:its=its':=by simpa using congrArg aOu d1
 subst this;exact r.inj r'
theorem Inv.tuple_inj(I:Inv X pins σ H s)(h:SqT X.K H a xs)(h':SqT X.K H a ys):xs=ys:=by
 obtain⟨its,r,⟨o,e,_,n,d⟩,_⟩:=I.tuple h;obtain⟨its',r',⟨o',e',_,n',d'⟩,_⟩:=I.tuple h';rw[e] at e';cases e';rw[d] at d';injection d' with d1 _
 have:its=its':=by simpa using congrArg aOu d1
 subst this;exact r.inj r'
noncomputable abbrev Cx.wish(X:Cx)(E:BC->BD->Prop):Cx:={X with xe:=E}
noncomputable abbrev Cx.nox(X:Cx):Cx:=X.wish λ_ _=>False
theorem Cx.Ok.wish(ok:X.Ok)(E:BC->BD->Prop):(X.wish E).Ok:=
 ⟨ok.mod,ok.kind,ok.glob,ok.blt,ok.above,ok.inj,ok.has,ok.cab,ok.hd,ok.frames,ok.stk,ok.exf,ok.bs,ok.bsz,ok.noex,ok.exfs,ok.funs,ok.frf⟩
theorem Cx.Ok.unwish{E:BC->BD->Prop}(ok:(X.wish E).Ok):X.Ok:=
 ⟨ok.mod,ok.kind,ok.glob,ok.blt,ok.above,ok.inj,ok.has,ok.cab,ok.hd,ok.frames,ok.stk,ok.exf,ok.bs,ok.bsz,ok.noex,ok.exfs,ok.funs,ok.frf⟩
variable {E:BC->BD->Prop}
theorem Inv.wish(I:Inv X pins σ H s)(E:BC->BD->Prop):Inv (X.wish E) pins σ H s:=⟨I.ok.wish E,I.os,I.bare,I.base,I.loc,I.cell,I.free,I.freeC,I.pin,I.hok,I.len⟩
theorem Inv.unwish(I:Inv (X.wish E) pins σ H s):Inv X pins σ H s:=⟨I.ok.unwish,I.os,I.bare,I.base,I.loc,I.cell,I.free,I.freeC,I.pin,I.hok,I.len⟩
theorem SP.unwish{D:tZ}{f:Flow}{s':BD}(h:SP (X.wish E) pins D f s'):SP X pins D f s':=by
 cases f with
 |next=>obtain⟨σ',H',I,q⟩:=h;exact⟨σ',H',I.unwish,q⟩
 |brk=>obtain⟨σ',H',I,q⟩:=h;exact⟨σ',H',I.unwish,q⟩
 |cont=>obtain⟨σ',H',I,q⟩:=h;exact⟨σ',H',I.unwish,q⟩
 |ret u=>obtain⟨v,σ',H',I,r,q⟩:=h;exact⟨v,σ',H',I.unwish,r,q⟩
theorem PSs.nox{st:List BI}{t:TS}(h:PSs X.nox st t):PSs X st t:=λpins s σ H D I hw=>Aa (h pins s σ H D (I.wish _) hw) (λ_ _ q=>q.unwish) λ_ _ z=>False.elim z
variable {st:BI}{rest:List BI}{t u:TS}{e:Expr}{te:TE}
noncomputable def aPd:TS:=λD σ H=>D.nx σ H
noncomputable def tSeq(t u:TS):TS:=λD σ H=>t {D with nx:=u D} σ H
theorem pss_nil:PSs X [] aPd:=λ_ _ σ H _ I h=>wpAny_execs_nil ⟨σ,H,I,h⟩
theorem wN(h1:PS X st t)(h2:PSs X rest u):PSs X (st::rest) (tSeq t u):=by
 intro pins s σ H D I h;refine wpAny_execs_cons<|thn (h1 pins s σ H {D with nx:=u D} I h) λf s1 q=> ?_;cases f with
 |next=>obtain⟨σ',H',I',q⟩:=q;exact h2 pins s1 σ' H' D I' q
 |ret v=>exact q
 |brk=>exact q
 |cont=>exact q
theorem aEp(h1:PS X st t):PSs X [st] t:=by
 intro pins s σ H D I h;refine wpAny_execs_cons<|thn (h1 pins s σ H D I h) λf s1 q=> ?_;cases f with
 |next=>exact wpAny_execs_nil q
 |ret v=>exact q
 |brk=>exact q
 |cont=>exact q
theorem Inv.quiet(I:Inv X pins σ H s):interactive X.env=false:=by simp[interactive,I.ok.kind]
noncomputable def aPa(te:TE):TS:=λD σ H=>te σ H λ_ H1=>D.nx σ H1
theorem uO(he:PE X e te)(hs:Ab e none pos.line X.env=pure false:=by rfl):PS X (.Expr e pos) (aPa te):=by intro pins s σ H D I h;exact wpAny_Expr_any (thn (he pins s σ H _ I h) λv s1 ⟨x,H1,I1,r1,q1⟩=>⟨σ,H1,I1,q1⟩) I.quiet hs
noncomputable def tRet(te:TE):TS:=λD σ H=>te σ H D.rt
theorem tG(he:PE X e te):PS X (.Return (some e) pos) (tRet te):=by intro pins s σ H D I h;exact wpAny_Return_some<|thn (he pins s σ H _ I h) λv s1 ⟨x,H1,I1,r1,q1⟩=>⟨x,σ,H1,I1,r1,q1⟩
noncomputable def tIfS(c:TT)(t u:TS):TS:=λD σ H=>c σ H λb H1=>if b=true then t D σ H1 else u D σ H1
theorem aPf{c:Expr}{a b:List BI}{tc:TT}(hc:PT X c tc)(ha:PSs X a t)(hb:PSs X b u):PS X (.If c a b pos) (tIfS tc t u):=by
 intro pins s σ H D I h;refine wpAny_If<|thn (hc pins s σ H _ I h) λd s1 ⟨H1,I1,q1⟩=> ?_;cases d with
 |true=>exact ha pins s1 σ H1 D I1 q1
 |false=>exact hb pins s1 σ H1 D I1 q1
noncomputable abbrev TG:=V->St->Hp->(St->Hp->Prop)->Prop
noncomputable abbrev TGs:=List V->St->Hp->(St->Hp->Prop)->Prop
def PG(X:Cx)(target:Expr)(t:TG):Prop:=
 ∀ (pins:List (BE×BH)) (s:BD) (σ:St) (H:Hp) (v:V) (u:BC) (Q:St->Hp->Prop),Inv X pins σ H s->RelV v u->t v σ H Q->
  AK (AH X.prog X.w) X.A (assign target X.env u) (λ_ s'=>∃σ' H',Inv X pins σ' H' s'/\Q σ' H') X.xe s
def PGs(X:Cx)(ts:List Expr)(t:TGs):Prop:=
 ∀ (pins:List (BE×BH)) (s:BD) (σ:St) (H:Hp) (vs:List V) (us:List BC) (Q:St->Hp->Prop),Inv X pins σ H s->Vals vs us->t vs σ H Q->
  AK (AH X.prog X.w) X.A (assignInOrder ((Ag ts X.env).map (·.2)) us) (λ_ s'=>∃σ' H',Inv X pins σ' H' s'/\Q σ' H') X.xe s
noncomputable abbrev TSet:=V->V->V->Hp->(Hp->Prop)->Prop
noncomputable abbrev TIp:=V->V->Hp->VK->Prop
noncomputable def aDh(i:Nat):TG:=λv σ H Q=>Q (σ.set i (some v)) H
theorem rJ{i:Nat}{x:Str}(hN:X.N.Nodup)(hi:X.N[i]? =some x)(hx:Loc X.env.scope x)(hf:X.fn x=true\/X.env.scope.names.lookup x=some .local:=by first|exact .inl rfl|exact .inr rfl|assumption):PG X (.Name x pos) (aDh i):=by intro pins s σ H v u Q I r h;exact wpAny_assign_Name<|aBR I hN hi hx r (λs' I'=>⟨_,H,I',h⟩) hf
noncomputable def aPE:TGs:=λvs σ H Q=>vs=[]/\Q σ H
noncomputable def aLX(t:TG)(u:TGs):TGs:=λvs σ H Q=>∃v r,vs=v::r/\t v σ H λσ' H'=>u r σ' H' Q
theorem iL:PGs X [] aPE:=by intro pins s σ H vs us Q I r h;obtain⟨e,h⟩:=h;subst e;cases r;exact assignInOrder_nil ⟨σ,H,I,h⟩
theorem dD{es:List Expr}{t:TG}{u:TGs}(h1:PG X e t)(h2:PGs X es u)
  (hs:(Ag (e::es) X.env).map (·.2)=assign e X.env::(Ag es X.env).map (·.2):=by rfl):PGs X (e::es) (aLX t u):=by
 intro pins s σ H vs us Q I r h;obtain⟨v,vr,e1,h⟩:=h;subst e1;cases r with
 |cons r rr=>rw[hs];refine assignInOrder_cons<|thn (h1 pins s σ H _ _ _ I r h) λ_ s1 ⟨σ1,H1,I1,q1⟩=> ?_;exact h2 pins s1 σ1 H1 _ _ Q I1 rr q1
noncomputable def gTup(K:aA)(n:Nat)(t:TGs):TG:=λv σ H Q=>∃a xs,v=.ref a/\SqT K H a xs/\xs.length=n/\t xs σ H Q
theorem aNl{es:List Expr}{k:Nat}{t:TGs}{n:Nat}(hc:X.calm=true)(h:PGs X es t)
  (hn:(Ag es X.env).length=n:=by rfl) (hst:(Ag es X.env).findIdx? (·.1)=none:=by rfl):PG X (.Tuple es k pos) (gTup X.K n t):=by
 intro pins s σ H v u Q I r hw;obtain⟨a,xs,e1,hq,hl,hw⟩:=hw;subst e1;cases r;obtain⟨its,rv,ht,hz⟩:=I.tuple hq;refine assign_Tuple_tuple (I.ok.hd hc) ht (by simp[hn,<-hl,rv.length]) hst λh' hx=> ?_
 have I1:Inv X pins σ H {s with heap:=h'}:=I.kept (t':=s.toks) λb o e=>hx b o (bW<|aR e) e
 exact h pins _ σ H xs _ Q I1 (by simpa using rv) hw
noncomputable def aPC(te:TE)(g:TG):TS:=λD σ H=>te σ H λx H1=>g x σ H1 D.nx
theorem aIQ{tg:Expr}{g:TG}(he:PE X e te)(hg:PG X tg g)(hs:swapsWithSole [tg] e pos.line X.env=pure false:=by rfl)(hw:swappedStores [tg] e X.env=pure none:=by rfl)
  (h1:(Ag [tg] X.env).map (·.2)=[assign tg X.env]:=by rfl):PS X (.Assign [tg] e pos) (aPC te g):=by
 intro pins s σ H D I h;refine wpAny_Assign_stores (thn (he pins s σ H _ I h) λv s1 ⟨x,H1,I1,r1,q1⟩=> ?_) hs hw;rw[h1];exact thn (hg pins s1 σ H1 x v _ I1 r1 q1) λ_ s2 q=>q
theorem qM{i:Nat}{x:Str}{pos':Pos}(hN:X.N.Nodup)(hi:X.N[i]? =some x)(hx:Loc X.env.scope x)(he:PE X e te)(hs:Ab e (some<|.Name x pos') pos.line X.env=pure false:=by rfl)(hf:X.fn x=true\/X.env.scope.names.lookup x=some .local:=by first|exact .inl rfl|exact .inr rfl|assumption):
  PS X (.Assign [.Name x pos'] e pos) (aPC te<|aDh i):=by
 intro pins s σ H D I h;refine wpAny_Assign_Name (thn (he pins s σ H _ I h) λv s1 ⟨y,H1,I1,r1,q1⟩=> ?_) hs;exact aBR I1 hN hi hx r1 (λs2 I2=>⟨_,H1,I2,q1⟩) hf
noncomputable def aMy(c:TT)(tb:TS):TS:=λD σ H=>∃W:Nat->St->Hp->Prop,(∃m,W m σ H)/\∀m σ H,W m σ H->
 c σ H λb H1=>if b=true then ∃N:St->Hp->Prop,(∀σ' H',N σ' H'->∃m',m'<m/\W m' σ' H')/\tb {D with nx:=N,ct:=N,bk:=D.nx} σ H1 else D.nx σ H1
theorem aHL{c:Expr}{body:List BI}{tc:TT}{tb:TS}(hp:PassesOwn (AH X.prog X.w) X.A X.env X.xe)(hc:PT X c tc)(hb:PSs X body tb):PS X (.While c body [] pos) (aMy tc tb):=by
 intro pins s σ H D I h;obtain⟨W,⟨m0,w0⟩,turn⟩:=h;refine wpAny_While<|codeAny_whileLoop (λn s'=>∃σ' H',Inv X pins σ' H' s'/\W n σ' H') ?_ m0 ⟨σ,H,I,w0⟩;rintro n s1 ⟨σ1,H1,I1,w1⟩;refine Ar hp<|thn (hc pins s1 σ1 H1 _ I1<|turn n σ1 H1 w1) λb s2 ⟨H2,I2,q2⟩=> ?_;cases b with
 |true=>
  obtain⟨N,hN,q2⟩:=q2;rw[if_pos rfl];refine Ar hp<|thn (hb pins s2 σ1 H2 _ I2 q2) λf s3 q3=> ?_;cases f with
  |next=>obtain⟨σ3,H3,I3,n3⟩:=q3;obtain⟨m',hm,w3⟩:=hN σ3 H3 n3;exact⟨m',hm,σ3,H3,I3,w3⟩
  |cont=>obtain⟨σ3,H3,I3,n3⟩:=q3;obtain⟨m',hm,w3⟩:=hN σ3 H3 n3;exact⟨m',hm,σ3,H3,I3,w3⟩
  |brk=>exact q3
  |ret v=>exact q3
 |false=>rw[if_neg bE];exact wpAny_execs_nil ⟨σ1,H2,I2,q2⟩
structure It where
 go:Nat->Hp->Prop
 yld:Nat->Hp->V->Hp->Prop
 stop:Nat->Hp->Prop
def xD(X:Cx)(pins:List (BE×BH))(H:Hp)(b:BE):Prop:=
 H b=none/\b≠X.env.locals/\b∉X.fs/\(b∈X.ex\/X.s₀.heap.objs.size<=b)/\(∀x c,X.env.cells.lookup x=some c->c≠b)/\∀p∈X.pn++pins,p.1≠b
theorem Inv.fpOk{b:BE}(I:Inv X pins σ H s)(hb:s.heap.objs.size<=b)(hn:H' b=none):xD X pins H' b:=by
 refine⟨hn,kE<|aY I.lt hb,I.nofs hb,.inr<|cF I.sz hb,λx c e z=> ?_,λp hp z=> ?_⟩
 ·obtain⟨v,q⟩:=I.cell x c e;exact absurd (aY q.lt<|by rw[z];exact hb)<|eL _
 ·exact absurd (aY (aR (I.pin p hp).1)<|by rw[z];exact hb)<|eL _
structure aJg(P:AE)(w:AM)(K:aA)(tg:Expr)(J:It)(fp:List BE)(it:BE)(tn:Nat->BG->Prop):Prop where
 mem:it∈fp
 obj:∀i h,tn i h->∀b∈fp,∃o,h.get? b=some o/\∀v,o.data≠ .cell v
 keep:∀i h h',tn i h->(∀b∈fp,∀o,h.get? b=some o->h'.get? b=some o)->tn i h'
 item:∀ (X:Cx),X.prog=P->X.w=w->X.K=K->X.calm=true->∀ (i:Nat) (pins:List (BE×BH)) (s:BD) (σ:St) (H:Hp) (E:BC->BD->Prop),Inv X pins σ H s->(∀b∈fp,xD X pins H b)->tn i s.heap->J.go i H->
  AK (AH P w) X.A (pyNext (.ref it)) (fun r s1=>∃u,r=some u∧
   AK (AH P w) X.A (letOwnedTupleGo tg (.ref it) u) (λ_ s2=>∃x H',Inv X pins σ H' s2/\RelV x u/\J.yld i H x H'/\tn (i+1) s2.heap/\∀b∈fp,H' b=none) E s1) E s
 done:∀ (X:Cx),X.prog=P->X.w=w->X.K=K->X.calm=true->∀ (i:Nat) (pins:List (BE×BH)) (s:BD) (σ:St) (H:Hp) (E:BC->BD->Prop),Inv X pins σ H s->(∀b∈fp,xD X pins H b)->tn i s.heap->J.stop i H->
  AK (AH P w) X.A (pyNext<|.ref it) (λr s1=>r=none/\Inv X pins σ H s1) E s
 self:∀ (A:BF) (i:Nat) (s:BD) (Q:BC->BD->Prop) (E:BC->BD->Prop),tn i s.heap->Q (.ref it) s->AK (AH P w) A (pyIter<|.ref it) Q E s
noncomputable abbrev TI:=St->Hp->(It->Hp->Prop)->Prop
def PIE(X:Cx)(pins:List (BE×BH))(σ:St)(tg:Expr)(R:It->Hp->Prop)(itv:BC)(s2:BD):Prop:=
 ∃ (it:BE) (fp:List BE) (tn:Nat->BG->Prop) (J:It) (H':Hp),itv=.ref it/\Inv X pins σ H' s2/\aJg X.prog X.w X.K tg J fp it tn/\tn 0 s2.heap/\(∀b∈fp,xD X pins H' b)/\R J H'
def PI(X:Cx)(tg iter:Expr)(wi:TI):Prop:=
 ∀ (pins:List (BE×BH)) (s:BD) (σ:St) (H:Hp) (R:It->Hp->Prop),Inv X pins σ H s->wi σ H R->
  AK (AH X.prog X.w) X.A (eval iter X.env) (λv s1=>AK (AH X.prog X.w) X.A (pyIter v) (PIE X pins σ tg R) X.xe s1) X.xe s
theorem aJt{M:Model}{A:BF}{tg:Expr}{it:BE}{u:BC}{o:BH}{n:String}{vs:Array BC}{Q:Unit->BD->Prop}(ho:s.heap.get? it=some o)(hc:o.cls=.type n)(hd:o.data=.fields vs)
  (hn:["enumerate","zip","dict_itemiterator","dict_reverseitemiterator","odict_iterator","itertools.zip_longest","itertools.pairwise"].contains n=false) (hQ:Q () s):AK M A (letOwnedTupleGo tg (.ref it) u) Q E s:=by
 unfold letOwnedTupleGo
 cases tg<;>first
  |exact AC hQ
  | (cases u<;>first
    |exact AC hQ
    | (refine AA (wpAny_load ho ?_)
       rw[hc,hd];show AK M A (if(["enumerate","zip","dict_itemiterator","dict_reverseitemiterator","odict_iterator","itertools.zip_longest","itertools.pairwise"].contains n&&vs[0]? ==some (rawInt _))=true then _ else _) Q E s;rw[if_neg<|by intro h;rw[hn,zV] at h;cases h]
       exact AC hQ))
noncomputable def Itl(K:aA)(a:BE):It:=
 ⟨λi H=>∃xs x,SqL K H a xs/\xs[i]? =some x,λi H x H'=>H'=H/\∀xs,SqL K H a xs->xs[i]? =some x,λi H=>∃xs,SqL K H a xs/\xs.length<=i⟩
noncomputable def Itt(K:aA)(a:BE):It:=
 ⟨λi H=>∃xs x,SqT K H a xs/\xs[i]? =some x,λi H x H'=>H'=H/\∀xs,SqT K H a xs->xs[i]? =some x,λi H=>∃xs,SqT K H a xs/\xs.length<=i⟩
noncomputable def Itr(lo:Int)(n:Nat):It:=⟨λi _=>i<n,λi H x H'=>H'=H/\x=.int (lo+i),λi _=>n<=i⟩
theorem aFV{K:aA}{tg:Expr}(a it:BE):aJg P w K tg (Itl K a) [it] it (λi h=>h.IsListIter it a i) where
 mem:=by simp
 obj:=λi h st b hb=>by
  have e:b=it:=by simpa using hb
  subst e;obtain⟨o,e,c,d⟩:=st;exact⟨o,e,λv z=>by rw[d] at z;cases z⟩
 keep:=λi h h' st k=>st.at λo e=>k it (by simp) o e
 item:=by
  intro X hP hw hK hc i pins s σ H E I hf st hg;subst hP hw hK;obtain⟨xs,x,hq,hx⟩:=hg;obtain⟨its,rv,p,hz⟩:=I.list hq;obtain⟨u,hu,ru⟩:=rv.get hx;obtain⟨f0,f1,f2,f3,f4,f5⟩:=hf it (by simp);refine wpAny_pyNext_list_item st p.isList (x:=u) (by simpa using hu) λh' st' sb=> ?_
  have I1:Inv X pins σ H {s with heap:=h'}:=I.turned (t':=s.toks) (λb o hb e=>(sb.2 b hb).trans e) f0 f1 f3 f4 f5;obtain⟨o,e,c,d⟩:=id st';exact⟨u,rfl,aJt (s:={s with heap:=h'}) e c d (by decide) ⟨x,H,I1,ru,⟨rfl,λys hy=>by rw[I.list_inj hy hq];exact hx⟩,st',λb hb=>(hf b hb).1⟩⟩
 done:=by intro X hP hw hK hc i pins s σ H E I hf st hg;subst hP hw hK;obtain⟨xs,hq,hx⟩:=hg;obtain⟨its,rv,p,hz⟩:=I.list hq;obtain⟨f0,f1,f2,f3,f4,f5⟩:=hf it (by simp);have hl:=rv.length;exact wpAny_pyNext_list_end (I.ok.hd hc) st p.isList (by simp;omega) λh' eb=>⟨rfl,I.turned (t':=s.toks) (λb o hb e=>eb b o hb e) f0 f1 f3 f4 f5⟩
 self:=λ_ _ _ _ _ st h=>wpAny_pyIter_listiter st h
theorem aCO{K:aA}{tg:Expr}(a it:BE):aJg P w K tg (Itt K a) [it] it (λi h=>h.IsTupleIter it a i) where
 mem:=by simp
 obj:=λi h st b hb=>by
  have e:b=it:=by simpa using hb
  subst e;obtain⟨o,e,c,d⟩:=st;exact⟨o,e,λv z=>by rw[d] at z;cases z⟩
 keep:=λi h h' st k=>st.at λo e=>k it (by simp) o e
 item:=by
  intro X hP hw hK hc i pins s σ H E I hf st hg;subst hP hw hK;obtain⟨xs,x,hq,hx⟩:=hg;obtain⟨its,rv,p,hz⟩:=I.tuple hq;obtain⟨u,hu,ru⟩:=rv.get hx;obtain⟨f0,f1,f2,f3,f4,f5⟩:=hf it (by simp);refine wpAny_pyNext_tuple_item st (show s.heap.IsTuple a its.toArray from p) (x:=u) (by simpa using hu) λh' st' sb=> ?_
  have I1:Inv X pins σ H {s with heap:=h'}:=I.turned (t':=s.toks) (λb o hb e=>(sb.2 b hb).trans e) f0 f1 f3 f4 f5;obtain⟨o,e,c,d⟩:=id st';exact⟨u,rfl,aJt (s:={s with heap:=h'}) e c d (by decide) ⟨x,H,I1,ru,⟨rfl,λys hy=>by rw[I.tuple_inj hy hq];exact hx⟩,st',λb hb=>(hf b hb).1⟩⟩
 done:=by intro X hP hw hK hc i pins s σ H E I hf st hg;subst hP hw hK;obtain⟨xs,hq,hx⟩:=hg;obtain⟨its,rv,p,hz⟩:=I.tuple hq;obtain⟨f0,f1,f2,f3,f4,f5⟩:=hf it (by simp);have hl:=rv.length;exact wpAny_pyNext_tuple_end (I.ok.hd hc) st (show s.heap.IsTuple a its.toArray from p) (by simp;omega) λh' eb=>⟨rfl,I.turned (t':=s.toks) (λb o hb e=>eb b o hb e) f0 f1 f3 f4 f5⟩
 self:=λ_ _ _ _ _ st h=>wpAny_pyIter_tupleiter st h
theorem aCX{K:aA}{tg:Expr}(it:BE)(lo:Int)(n:Nat):aJg P w K tg (Itr lo n) [it] it (λi h=>IsRangeIter h it (lo+(i:Nat)*1) ((n:Int)-(i:Nat)) 1) where
 mem:=by simp
 obj:=λi h st b hb=>by
  have e:b=it:=by simpa using hb
  subst e
  exact ⟨_,st,fun v z=>by
   have z':Data.fields _=Data.cell v:=z
   cases z'⟩
 keep:=λi h h' st k=>k it (by simp) _ st
 item:=by
  intro X hP hw hK hc i pins s σ H E I hf st hg;subst hP hw hK;obtain⟨f0,f1,f2,f3,f4,f5⟩:=hf it (by simp);have W:=Walks.range (prog:=X.prog) (w:=X.w) (I.ok.hd hc) it lo 1 n;refine W.item i s _ _ hg st λv h' tk hv st' kk=> ?_
  obtain⟨t,rfl⟩:=hv;have I1:Inv X pins σ H {s with heap:=h',toks:=tk}:=I.turned (λb o hb e=>kk b o (by simpa using hb) e) f0 f1 f3 f4 f5;refine⟨_,rfl,aJt (s:={s with heap:=h',toks:=tk}) (n:="range_iterator") st' rfl rfl (by decide) ⟨.int<|lo+i,H,I1,⟨t, ?_⟩,⟨rfl,rfl⟩,st',λb hb=>(hf b hb).1⟩⟩;rw[Int.mul_one]
 done:=by intro X hP hw hK hc i pins s σ H E I hf st hg;subst hP hw hK;obtain⟨f0,f1,f2,f3,f4,f5⟩:=hf it (by simp);exact wpAny_pyNext_range_end (I.ok.hd hc) st (by have:n<=i:=hg;omega) λh' eb=>⟨rfl,I.turned (t':=s.toks) (λb o hb e=>eb b o hb e) f0 f1 f3 f4 f5⟩
 self:=λ_ _ _ _ _ st h=>wpAny_pyIter_rangeiter st h
variable {tg:Expr}
noncomputable def aPn(K:aA)(tl:TE):TI:=λσ H R=>tl σ H λx H1=>∃a,x=.ref a/\(∃xs,SqL K H1 a xs)/\R (Itl K a) H1
noncomputable def iTup(K:aA)(tl:TE):TI:=λσ H R=>tl σ H λx H1=>∃a,x=.ref a/\(∃xs,SqT K H1 a xs)/\R (Itt K a) H1
theorem aJO{l:Expr}{tl:TE}(hl:PE X l tl):PI X tg l (aPn X.K tl):=by
 intro pins s σ H R I h;refine thn (hl pins s σ H _ I h) λv s1 ⟨x,H1,I1,r1,q1⟩=> ?_
 obtain⟨a,e,⟨xs,hq⟩,q⟩:=q1;subst e;cases r1;obtain⟨its,rv,p,hz⟩:=I1.list hq;refine wpAny_pyIter_list p.isList ?_;refine⟨s1.heap.objs.size,[s1.heap.objs.size],_,_,H1,rfl,I1.kept (t':=s1.toks) λb o e=>aD _ e,aFV a _,⟨_,bL _ rfl,rfl,rfl⟩,λb hb=> ?_,q⟩;have e:b=s1.heap.objs.size:=by simpa using hb
 subst e;exact I1.fpOk (aN _) (I1.hok.fresh<|aN _)
theorem aNd{l:Expr}{tl:TE}(hl:PE X l tl):PI X tg l (iTup X.K tl):=by
 intro pins s σ H R I h;refine thn (hl pins s σ H _ I h) λv s1 ⟨x,H1,I1,r1,q1⟩=> ?_
 obtain⟨a,e,⟨xs,hq⟩,q⟩:=q1;subst e;cases r1;obtain⟨its,rv,p,hz⟩:=I1.tuple hq;refine wpAny_pyIter_tuple (show s1.heap.IsTuple a its.toArray from p) ?_;refine⟨s1.heap.objs.size,[s1.heap.objs.size],_,_,H1,rfl,I1.kept (t':=s1.toks) λb o e=>aD _ e,aCO a _,⟨_,bL _ rfl,rfl,rfl⟩,λb hb=> ?_,q⟩;have e:b=s1.heap.objs.size:=by simpa using hb
 subst e;exact I1.fpOk (aN _) (I1.hok.fresh<|aN _)
theorem aBQ{R:It->Hp->Prop}{lo hi:Int}{t u v:Tok}{tk:Nat}(I:Inv X pins σ H s)(h1: -(2^62)<=lo)(h2:lo<2^62)(h3: -(2^62)<=hi)(h4:hi<2^62)
  (q:R (Itr lo (hi-lo).toNat) H):AK (AH X.prog X.w) X.A (pyIter<|.ref s.heap.objs.size) (PIE X pins σ tg R) E {s with heap:=s.heap.push {cls:=.type "range",data:=.fields #[.int lo t,.int hi u,.int 1 v]},toks:=tk}:=by
 refine wpAny_pyIter_range (IsRange.new ..) (small_one h1 h2 h3 h4) ?_;have I1:Inv X pins σ H {s with heap:=s.heap.push {cls:=.type "range",data:=.fields #[.int lo t,.int hi u,.int 1 v]},toks:=tk}:=I.kept λb o e=>aD _ e
 refine ⟨(s.heap.push {cls:= .type "range",data:= .fields #[.int lo t, .int hi u, .int 1 v]}).objs.size,[(s.heap.push {cls:= .type "range",data:= .fields #[.int lo t, .int hi u, .int 1 v]}).objs.size],_,_,H,rfl,
  I1.kept (t':=tk) λb o e=>aD _ e,aCX _ lo (hi-lo).toNat, ?_,λb hb=> ?_,q⟩
 ·have e1:lo+((0:Nat):Int)*1=lo:=by simp
  have e2:(((hi-lo).toNat:Nat):Int)-((0:Nat):Int)=Builtin.Range.rangeSize lo hi 1:=by rw[rangeSize_one];split<;>omega
  show IsRangeIter _ _ (lo+((0:Nat):Int)*1) ((((hi-lo).toNat:Nat):Int)-((0:Nat):Int)) 1;rw[e1,e2];exact bL _ rfl
 ·have e:b=(s.heap.push {cls:=.type "range",data:=.fields #[.int lo t,.int hi u,.int 1 v]}).objs.size:=by simpa using hb
  subst e;exact I1.fpOk (aN _) (I1.hok.fresh<|aN _)
noncomputable def aPh(ta:TA):TI:=λσ H R=>ta σ H λvs H1=>∃j:Int,vs=[.int j]/\ -(2^62)<=j/\j<2^62/\R (Itr 0 j.toNat) H1
noncomputable def aPk(ta:TA):TI:=λσ H R=>ta σ H λvs H1=>∃i j:Int,vs=[.int i,.int j]/\(-(2^62)<=i/\i<2^62/\ -(2^62)<=j/\j<2^62)/\R (Itr i (j-i).toNat) H1
theorem yP{a:Expr}{ta:TA}{p:Pos}(hg:Gl X "range")(hm:X.mg "range"=none)(ha:PA X [a] ta)(hs:AB [a] X.env=[(false,eval a X.env)]:=by rfl):PI X tg (.Call (.Name "range" p) [a] [] pos) (aPh ta):=by
 intro pins s σ H R I h;refine Call_ (lP I hg hm boot_range<|PyProof.Rows.callWith_type1 (thn (ha pos pins s σ H _ I h) λus s1 ⟨vs,H1,I1,r1,q1⟩=> ?_) hs rfl);obtain⟨j,e,q1,q2,q⟩:=q1;subst e;cases r1 with
 |cons r rr=>cases rr;obtain⟨t,rfl⟩:=r;exact call_range_1 (aBQ I1 (by omega) (by omega) q1 q2<|by simpa using q)
theorem aFn{a:Expr}{ta:TA}{p:Pos}(hg:Gl X "range")(hm:X.mg "range"=none)(ha:PA X [a,b] ta)(hs:AB [a,b] X.env=[(false,eval a X.env),(false,eval b X.env)]:=by rfl)(hs2:AB [b] X.env=[(false,eval b X.env)]:=by rfl):
  PI X tg (.Call (.Name "range" p) [a,b] [] pos) (aPk ta):=by
 intro pins s σ H R I h;refine Call_<|lP I hg hm boot_range (PyProof.Rows.callWith_type1 (thn (ha pos pins s σ H _ I h) λus s1 ⟨vs,H1,I1,r1,q1⟩=> ?_) (by rw[hs,hs2])<|by rw[hs2];rfl);obtain⟨i,j,e,⟨q1,q2,q3,q4⟩,q⟩:=q1;subst e;cases r1 with
 |cons r rr=>
  cases rr with
  |cons r' rr=>cases rr;obtain⟨t,rfl⟩:=r;obtain⟨t',rfl⟩:=r';exact call_range_2<|aBQ I1 q1 q2 q3 q4 q
noncomputable def tFor(wi:TI)(g:TG)(tb:TS):TS:=λD σ H=>wi σ H λJ H1=>∃W:Nat->Nat->St->Hp->Prop,(∃m,W 0 m σ H1)/\∀i m σ H,W i m σ H->
 (J.stop i H/\D.nx σ H)\/(J.go i H/\∃N:St->Hp->Prop,(∀σ' H',N σ' H'->∃m',m'<m/\W (i+1) m' σ' H')/\∀x H',J.yld i H x H'->g x σ H' λσ2 H2=>tb {D with nx:=N,ct:=N,bk:=D.nx} σ2 H2)
noncomputable def nQ(fp:List BE)(h:BG):List (BE×BH):=fp.filterMap λb=>(h.get? b).map λo=>(b,o)
theorem jF{fp:List BE}{b:BE}{o:BH}(hb:b∈fp)(e:h.get? b=some o):(b,o)∈nQ fp h:=aHV.mpr ⟨b,hb,by rw[e];rfl⟩
theorem tI{fp:List BE}{p:BE×BH}(hp:p∈nQ fp h):p.1∈fp/\h.get? p.1=some p.2:=by
 obtain⟨b,hb,e⟩:=aHV.mp hp;cases q:h.get? b with
 |none=>rw[q] at e;cases e
 |some o=>rw[q] at e;have e':(b,o)=p:=bZ.inj e;subst e';exact⟨hb,q⟩
theorem Inv.pinned{fp:List BE}(I:Inv X pins σ H s)(hf:∀b∈fp,xD X pins H b)(ho:∀b∈fp,∃o,s.heap.get? b=some o/\∀v,o.data≠ .cell v):Inv X (pins++nQ fp s.heap) σ H s:=
 I.pins_of λp hp=>(aS.mp hp).elim (λz=>I.pin p<|aM _ z) λz=>by obtain⟨hb,e⟩:=tI z;obtain⟨f0,f1,f2,_⟩:=hf p.1 hb;obtain⟨o,e',d⟩:=ho p.1 hb;rw[e] at e';cases e';exact⟨e,f0,f1,f2,d⟩
theorem Inv.unpinned{pl:List (BE×BH)}(I:Inv X (pins++pl) σ H s):Inv X pins σ H s:=I.pins_of λp hp=>I.pin p (aM _<|bO _ hp)
theorem aIv{iter:Expr}{body:List BI}{wi:TI}{g:TG}{tb:TS}(hp:PassesOwn (AH X.prog X.w) X.A X.env X.xe)(hc:X.calm=true)(hi:PI X tg iter wi)(hg:PG X tg g)(hb:PSs X body tb)
  (hs:∀x,Ay iter X.env x=pure x:=by intro _;rfl):PS X (.For tg iter body [] pos) (tFor wi g tb):=by
 intro pins s σ H D I h;refine wpAny_For (thn (hi pins s σ H _ I h) λv s1 h1=>thn h1 λitv s2 h2=> ?_) hs;obtain⟨it,fp,tn,J,H2,e,I2,T,st2,f2,W,⟨m0,w0⟩,turn⟩:=h2;subst e
 have stat:∀ {H':Hp},(∀b∈fp,H' b=none)->∀b∈fp,xD X pins H' b:=λhn b hb=>⟨hn b hb,(f2 b hb).2⟩
 refine codeAny_forLoop_any (λn s'=>∃i σ' H',Inv X pins σ' H' s'/\tn i s'.heap/\(∀b∈fp,H' b=none)/\W i n σ' H') ?_ m0 ⟨0,σ,H2,I2,st2,λb hb=>(f2 b hb).1,w0⟩;rintro n s3 ⟨i,σ3,H3,I3,st3,fr3,w3⟩
 rcases turn i n σ3 H3 w3 with⟨stop,qn⟩|⟨go,N,hN,step⟩
 ·refine Ar hp<|thn (T.done X rfl rfl rfl hc i pins s3 σ3 H3 X.xe I3 (stat fr3) st3 stop) λr s4 ⟨hr,I4⟩=> ?_;subst hr;exact wpAny_execs_nil ⟨σ3,H3,I4,qn⟩
 ·refine Ar hp<|thn (T.item X rfl rfl rfl hc i pins s3 σ3 H3 X.xe I3 (stat fr3) st3 go) λr s4 ⟨u,hr,h4⟩=> ?_;subst hr;refine Ar hp<|thn h4 λ_ s5 ⟨x,H5,I5,r5,y5,st5,fr5⟩=> ?_;have I5':=I5.pinned (stat fr5)<|T.obj _ _ st5;refine Ar hp<|thn (hg _ s5 σ3 H5 x u _ I5' r5<|step x H5 y5) λ_ s6 ⟨σ6,H6,I6,q6⟩=> ?_;refine Ar hp (thn (hb _ s6 σ6 H6 _ I6 q6) λf s7 q7=> ?_)
  have again:∀ {σ7:St}{H7:Hp},Inv X (pins++nQ fp s5.heap) σ7 H7 s7->N σ7 H7->∃m,m<n/\∃i σ' H',Inv X pins σ' H' s7/\tn i s7.heap/\(∀b∈fp,H' b=none)/\W i m σ' H':=λ{σ7 H7} I7 n7=>by obtain⟨m',hm,w7⟩:=hN σ7 H7 n7;refine⟨m',hm,i+1,σ7,H7,I7.unpinned,T.keep _ _ _ st5 λb hb o e=>(I7.pin (b,o)<|aM _ (aM _<|jF hb e)).1,λb hb=> ?_,w7⟩;obtain⟨o,e,d⟩:=T.obj _ _ st5 b hb;exact(I7.pin (b,o)<|aM _ (aM _<|jF hb e)).2.1
  cases f with
  |next=>obtain⟨σ7,H7,I7,n7⟩:=q7;exact again I7 n7
  |cont=>obtain⟨σ7,H7,I7,n7⟩:=q7;exact again I7 n7
  |brk=>obtain⟨σ7,H7,I7,q7⟩:=q7;exact⟨σ7,H7,I7.unpinned,q7⟩
  |ret v=>obtain⟨x7,σ7,H7,I7,r7,q7⟩:=q7;exact⟨x7,σ7,H7,I7.unpinned,r7,q7⟩
noncomputable abbrev R2:=V->V->Hp->VK->Prop
def OpR(X:Cx)(f:BC->BC->Sem BC)(r:R2):Prop:=
 ∀ (pins:List (BE×BH)) (s:BD) (σ:St) (H:Hp) (x y:V) (v u:BC) (Q:VK),Inv X pins σ H s->RelV x v->RelV y u->r x y H Q->
  AK (AH X.prog X.w) X.A (f v u) (EP X pins σ Q) X.xe s
def UnR(X:Cx)(f:BC->Sem BC)(r:V->Hp->VK->Prop):Prop:=
 ∀ (pins:List (BE×BH)) (s:BD) (σ:St) (H:Hp) (x:V) (v:BC) (Q:VK),Inv X pins σ H s->RelV x v->r x H Q->
  AK (AH X.prog X.w) X.A (f v) (EP X pins σ Q) X.xe s
def mG(X:Cx)(f:BC)(r:List V->Hp->VK->Prop):Prop:=
 ∀ (pins:List (BE×BH)) (s:BD) (σ:St) (H:Hp) (xs:List V) (us:List BC) (Q:VK),Inv X pins σ H s->Vals xs us->r xs H Q->
  AK (AH X.prog X.w) X.A (call f us) (EP X pins σ Q) X.xe s
noncomputable def tOp(r:R2)(ta tb:TE):TE:=λσ H Q=>ta σ H λx H1=>tb σ H1 λy H2=>r x y H2 Q
noncomputable def tUn(r:V->Hp->VK->Prop)(ta:TE):TE:=λσ H Q=>ta σ H λx H1=>r x H1 Q
noncomputable def rI(C:Int->Int->Prop)(g:Int->Int->V):R2:=λx y H Q=>∃i j,x=.int i/\y=.int j/\C i j/\Q (g i j) H
noncomputable def rI0(g:Int->Int->V):R2:=λx y H Q=>∃i j,x=.int i/\y=.int j/\Q (g i j) H
def rU(g:Int->V):V->Hp->VK->Prop:=λx H Q=>∃i,x=.int i/\Q (g i) H
variable {a c:Expr}{tc:TE}
theorem aOA(ha:PE X a ta)(hb:PE X b tb){R:V->V->Hp->Prop}(I:Inv X pins σ H s)
  (h:ta σ H λx H1=>tb σ H1 λy H2=>R x y H2) {Q:BC->BD->Prop}{f:BC->BC->Sem BC}
  (hf:∀v u s2 x y H2,Inv X pins σ H2 s2->RelV x v->RelV y u->R x y H2->AK (AH X.prog X.w) X.A (f v u) Q X.xe s2):
  AK (AH X.prog X.w) X.A (eval a X.env) (λv s₁=>AK (AH X.prog X.w) X.A (eval b X.env) (λu s₂=>AK (AH X.prog X.w) X.A (f v u) Q X.xe s₂) X.xe s₁) X.xe s:=by
 refine thn (ha pins s σ H _ I h) λv s1 ⟨x,H1,I1,r1,q1⟩=> ?_
 refine thn (hb pins s1 σ H1 _ I1 q1) λu s2 ⟨y,H2,I2,r2,q2⟩=> ?_
 exact hf v u s2 x y H2 I2 r1 r2 q2
theorem aPo{op:Operator}{r:R2}(ho:OpR X (Ak op) r)(ha:PE X a ta)(hb:PE X b tb):PE X (.BinOp a op b pos) (tOp r ta tb):=by intro pins s σ H Q I h;exact wpAny_BinOp<|aOA ha hb I h λv u s2 x y H2 I2 rx ry q=>ho pins s2 σ H2 x y v u Q I2 rx ry q
theorem aPj{op:UnaryOp}{r:V->Hp->VK->Prop}(ho:UnR X (unaryOp op) r)(ha:PE X a ta):PE X (.UnaryOp op a pos) (tUn r ta):=by intro pins s σ H Q I h;exact UnaryOp_<|thn (ha pins s σ H _ I h) λv s1 ⟨x,H1,I1,r1,q1⟩=>ho pins s1 σ H1 x v Q I1 r1 q1
theorem opI{f:BC->BC->Sem BC}{C:Int->Int->Prop}{g:Int->Int->Int}
  (rule:∀ (i j:Int) (t u:Tok) (s:BD) (Q:BC->BD->Prop) (E:BC->BD->Prop),C i j->Q (.int (g i j) s.toks) {s with toks:=s.toks+1}->AK (AH X.prog X.w) X.A (f (.int i t)<|.int j u) Q E s):
  OpR X f (rI C λi j=>.int<|g i j):=by
 intro pins s σ H x y v u Q I rx ry h;obtain⟨i,j,rfl,rfl,hc,q⟩:=h;obtain⟨t,rfl⟩:=rx;obtain⟨t',rfl⟩:=ry;exact rule i j t t' s _ _ hc ⟨.int<|g i j,H,I.tok _,⟨_,rfl⟩,q⟩
theorem aLR{f:BC->BC->Sem BC}{g:Int->Int->Int}
  (rule:∀ (i j:Int) (t u:Tok) (s:BD) (Q:BC->BD->Prop) (E:BC->BD->Prop),Q (.int (g i j) s.toks) {s with toks:=s.toks+1}->AK (AH X.prog X.w) X.A (f (.int i t)<|.int j u) Q E s):
  OpR X f (rI0 λi j=>.int<|g i j):=by
 intro pins s σ H x y v u Q I rx ry h;obtain⟨i,j,rfl,rfl,q⟩:=h;obtain⟨t,rfl⟩:=rx;obtain⟨t',rfl⟩:=ry;exact rule i j t t' s _ _ ⟨.int<|g i j,H,I.tok _,⟨_,rfl⟩,q⟩
theorem aOe{f:BC->BC->Sem BC}{g:Int->Int->Bool}
  (rule:∀ (i j:Int) (t u:Tok) (s:BD) (Q:BC->BD->Prop) (E:BC->BD->Prop),Q (.bool<|g i j) s->AK (AH X.prog X.w) X.A (f (.int i t)<|.int j u) Q E s):
  OpR X f (rI0 λi j=>.bl<|g i j):=by
 intro pins s σ H x y v u Q I rx ry h;obtain⟨i,j,rfl,rfl,q⟩:=h;obtain⟨t,rfl⟩:=rx;obtain⟨t',rfl⟩:=ry;exact rule i j t t' s _ _ ⟨.bl<|g i j,H,I,rfl,q⟩
def CDiv(i j:Int):Prop:=0<j/\j<1073741824
def CPow(i j:Int):Prop:=0<=j/\j<=1000000/\i.natAbs<2^64
theorem gL:OpR X (Ak .Add) (rI0 λi j=>.int<|i+j):=aLR λ_ _ _ _ _ _ _ q=>add_int q
theorem oQ:OpR X (Ak .Sub) (rI0 λi j=>.int<|i-j):=aLR λ_ _ _ _ _ _ _ q=>sub_int q
theorem aKg:OpR X (Ak .FloorDiv) (rI CDiv λi j=>.int<|i / j):=opI λi j _ _ _ _ _ hc q=>by have h1:(0:Int)<j:=hc.1;have h2:j<1073741824:=hc.2;exact floordiv_int (by omega) (by rw[aAk i<|by omega];exact q)<|.inl (PyProof.noPylong_small<|by omega)
theorem fZ:OpR X (Ak .Mod) (rI (λ_ j=>0<j) λi j=>.int<|i%j):=opI λi j _ _ _ _ _ hc q=>by have h1:(0:Int)<j:=hc;exact mod_int' (by omega) (by rw[Int.fmod_eq_emod_of_nonneg i<|by omega];exact q)
theorem aIo:OpR X (Ak .Pow) (rI CPow λi j=>.int<|i^j.toNat):=opI λ_ _ _ _ _ _ _ hc q=>pow_int_small hc.1 hc.2.1 hc.2.2 q
theorem aNx:OpR X (Ak .BitAnd) (rI0 λi j=>.int<|Builtin.bitAnd i j):=aLR λ_ _ _ _ _ _ _ q=>and_int q
theorem aOZ:OpR X (Ak .BitOr) (rI0 λi j=>.int<|Builtin.bitOr i j):=aLR λ_ _ _ _ _ _ _ q=>or_int q
theorem aNe:OpR X (Ak .BitXor) (rI0 λi j=>.int<|Builtin.bitXor i j):=aLR λ_ _ _ _ _ _ _ q=>xor_int q
theorem unI{f:BC->Sem BC}{g:Int->Int}
  (rule:∀ (i:Int) (t:Tok) (s:BD) (Q:BC->BD->Prop) (E:BC->BD->Prop),Q (.int (g i) s.toks) {s with toks:=s.toks+1}->AK (AH X.prog X.w) X.A (f<|.int i t) Q E s):
  UnR X f (rU λi=>.int<|g i):=by
 intro pins s σ H x v Q I rx h;obtain⟨i,rfl,q⟩:=h;obtain⟨t,rfl⟩:=rx;exact rule i t s _ _ ⟨.int<|g i,H,I.tok _,⟨_,rfl⟩,q⟩
theorem aNn:UnR X (unaryOp .USub) (rU λi=>.int (-i)):=unI λ_ _ _ _ _ q=>neg_int q
noncomputable def aLT:V->V->Bool
 |.non,.non=>true | .non,.int _=>true | .int _,.non=>true | .non,.bl _=>true | .bl _,.non=>true | .non,.str _=>true | .str _,.non=>true
 |.int _,.int _=>true | .bl _,.bl _=>true | .str _,.str _=>true | .byt _,.byt _=>true
 |.int _,.str _=>true | .str _,.int _=>true | .bl _,.str _=>true | .str _,.bl _=>true
 |_,_=>false
noncomputable def rEq:R2:=λx y H Q=>aLT x y=true/\Q (.bl (decide<|x=y)) H
noncomputable def rNe:R2:=λx y H Q=>aLT x y=true/\Q (.bl<|!decide (x=y)) H
theorem aAt{i j:Int}:decide (V.int i=V.int j)=(i==j):=by rw[iE];simp
theorem aDx{i j:Bool}:decide (V.bl i=V.bl j)=(i==j):=by rw[iE];simp
theorem aEt{i j:Str}:decide (V.str i=V.str j)=(i==j):=by rw[iE];simp
theorem aEw{i j:Array UInt8}:decide (V.byt i=V.byt j)=(i.toList==j.toList):=by rw[iE];cases i;cases j;simp
theorem eE{Q:VK}{k k':Bool}(I:Inv X pins σ H s)(q:Q (.bl k) H)(e:k=k'):EP X pins σ Q (.bool k') s:=by subst e;exact⟨.bl k,H,I,rfl,q⟩
theorem aMq:OpR X (AY .Eq) rEq:=by
 intro pins s σ H x y v u Q I rx ry h;obtain⟨hs,q⟩:=h;cases x with
 |non=>
  cases rx;cases y with
  |non=>cases ry;exact PySem.EqNone.eq_none_none (eE I q<|by simp)
  |bl j=>cases ry;exact PySem.EqNone.eq_none_bool (eE I q<|by simp)
  |int j=>obtain⟨t',rfl⟩:=ry;exact PySem.EqNone.eq_none_int (eE I q<|by simp)
  |str j=>obtain⟨t',rfl⟩:=ry;exact PySem.EqNone.eq_none_str (eE I q<|by simp)
  |_=>exact absurd (show false=true from hs) bE
 |bl i=>
  cases rx;cases y with
  |non=>cases ry;exact PySem.EqNone.eq_bool_none (eE I q<|by simp)
  |bl j=>cases ry;exact eq_bool<|eE I q aDx
  |str j=>obtain⟨t',rfl⟩:=ry;exact PySem.EqMixed.eq_bool_str (eE I q<|by simp)
  |_=>exact absurd (show false=true from hs) bE
 |int i=>
  obtain⟨t,rfl⟩:=rx;cases y with
  |non=>cases ry;exact PySem.EqNone.eq_int_none (eE I q<|by simp)
  |int j=>obtain⟨t',rfl⟩:=ry;exact eq_int<|eE I q aAt
  |str j=>obtain⟨t',rfl⟩:=ry;exact PySem.EqMixed.eq_int_str (eE I q<|by simp)
  |_=>exact absurd (show false=true from hs) bE
 |str i=>
  obtain⟨t,rfl⟩:=rx;cases y with
  |non=>cases ry;exact PySem.EqNone.eq_str_none (eE I q<|by simp)
  |bl j=>cases ry;exact PySem.EqMixed.eq_str_bool (eE I q<|by simp)
  |int j=>obtain⟨t',rfl⟩:=ry;exact PySem.EqMixed.eq_str_int (eE I q<|by simp)
  |str j=>obtain⟨t',rfl⟩:=ry;exact eq_str<|eE I q aEt
  |_=>exact absurd (show false=true from hs) bE
 |byt i=>
  obtain⟨t,rfl⟩:=rx;cases y with
  |byt j=>obtain⟨t',rfl⟩:=ry;exact PySem.W.eq_bytes<|eE I q aEw
  |_=>exact absurd (show false=true from hs) bE
 |_=>cases y<;>exact absurd (show false=true from hs) bE
theorem aOV:OpR X (AY .NotEq) rNe:=by
 intro pins s σ H x y v u Q I rx ry h;obtain⟨hs,q⟩:=h;cases x with
 |non=>
  cases rx;cases y with
  |non=>cases ry;exact PySem.EqNone.ne_none_none (eE I q<|by simp)
  |bl j=>cases ry;exact PySem.EqNone.ne_none_bool (eE I q<|by simp)
  |int j=>obtain⟨t',rfl⟩:=ry;exact PySem.EqNone.ne_none_int (eE I q<|by simp)
  |str j=>obtain⟨t',rfl⟩:=ry;exact PySem.EqNone.ne_none_str (eE I q<|by simp)
  |_=>exact absurd (show false=true from hs) bE
 |bl i=>
  cases rx;cases y with
  |non=>cases ry;exact PySem.EqNone.ne_bool_none (eE I q<|by simp)
  |bl j=>cases ry;exact ne_bool (eE I q<|congrArg not aDx)
  |str j=>obtain⟨t',rfl⟩:=ry;exact PySem.EqMixed.ne_bool_str (eE I q<|by simp)
  |_=>exact absurd (show false=true from hs) bE
 |int i=>
  obtain⟨t,rfl⟩:=rx;cases y with
  |non=>cases ry;exact PySem.EqNone.ne_int_none (eE I q<|by simp)
  |int j=>obtain⟨t',rfl⟩:=ry;exact ne_int (eE I q<|congrArg not aAt)
  |str j=>obtain⟨t',rfl⟩:=ry;exact PySem.EqMixed.ne_int_str (eE I q<|by simp)
  |_=>exact absurd (show false=true from hs) bE
 |str i=>
  obtain⟨t,rfl⟩:=rx;cases y with
  |non=>cases ry;exact PySem.EqNone.ne_str_none (eE I q<|by simp)
  |bl j=>cases ry;exact PySem.EqMixed.ne_str_bool (eE I q<|by simp)
  |int j=>obtain⟨t',rfl⟩:=ry;exact PySem.EqMixed.ne_str_int (eE I q<|by simp)
  |str j=>obtain⟨t',rfl⟩:=ry;exact ne_str (eE I q<|congrArg not aEt)
  |_=>exact absurd (show false=true from hs) bE
 |byt i=>
  obtain⟨t,rfl⟩:=rx;cases y with
  |byt j=>obtain⟨t',rfl⟩:=ry;exact PySem.W.ne_bytes (eE I q<|congrArg not aEw)
  |_=>exact absurd (show false=true from hs) bE
 |_=>cases y<;>exact absurd (show false=true from hs) bE
theorem aJB:OpR X (AY .Lt) (rI0 λi j=>.bl (decide<|i<j)):=aOe λ_ _ _ _ _ _ _ q=>lt_int q
theorem aMf:OpR X (AY .LtE) (rI0 λi j=>.bl (decide<|i<=j)):=aOe λ_ _ _ _ _ _ _ q=>le_int q
theorem aJv:OpR X (AY .Gt) (rI0 λi j=>.bl (decide<|j<i)):=aOe λ_ _ _ _ _ _ _ q=>gt_int q
theorem aJq:OpR X (AY .GtE) (rI0 λi j=>.bl (decide<|j<=i)):=aOe λ_ _ _ _ _ _ _ q=>ge_int q
theorem aDu:OpR X (AY .Is) (λx y H Q=>y=.non/\Q (.bl (decide<|x=.non)) H):=by
 intro pins s σ H x y v u Q I rx ry h;obtain⟨rfl,q⟩:=h;cases ry;refine is_none_gen<|eE I q ?_
 cases x<;>first
  |(cases rx;rfl)
  |(obtain⟨t,rfl⟩:=rx;rfl)
theorem aKV:OpR X (AY .IsNot) (λx y H Q=>y=.non/\Q (.bl<|!decide (x=.non)) H):=by
 intro pins s σ H x y v u Q I rx ry h;obtain⟨rfl,q⟩:=h;cases ry;refine isnot_none_gen<|eE I q ?_
 cases x<;>first
  |(cases rx;rfl)
  |(obtain⟨t,rfl⟩:=rx;rfl)
theorem OpR.or{f:BC->BC->Sem BC}{r r':R2}(h:OpR X f r)(h':OpR X f r'):OpR X f (λx y H Q=>r x y H Q\/r' x y H Q):=by
 intro pins s σ H x y v u Q I rx ry q
 rcases q with q|q
 ·exact h pins s σ H x y v u Q I rx ry q
 ·exact h' pins s σ H x y v u Q I rx ry q
theorem gP(b:Expr){op:CmpOp}(h:op≠ .In:=by decide)(h2:op≠ .NotIn:=by decide):AU op b=false:=by
 have e1:(op==CmpOp.In)=false:=by cases op<;>first|rfl|exact absurd rfl h
 have e2:(op==CmpOp.NotIn)=false:=by cases op<;>first|rfl|exact absurd rfl h2
 cases b<;>simp[AU,e1,e2]
theorem aDT{op:CmpOp}{r:R2}(ho:OpR X (AY op) r)(ha:PE X a ta)(hb:PE X b tb)(hm:AU op b=false):PE X (.Compare a [op] [b] pos) (tOp r ta tb):=by intro pins s σ H Q I h;exact wpAny_Compare1 (aOA ha hb I h λv u s2 x y H2 I2 rx ry q=>ho pins s2 σ H2 x y v u Q I2 rx ry q) hm
noncomputable def aPp(t:TE):TT:=λσ H Q=>t σ H λx H'=>∃k,x=.bl k/\Q k H'
theorem aAy{op:CmpOp}{r:R2}(ho:OpR X (AY op) r)(ha:PE X a ta)(hb:PE X b tb)(hm:AU op b=false):PT X (.Compare a [op] [b] pos) (aPp<|tOp r ta tb):=by
 intro pins s σ H Q I h
 refine wpAny_isTrue_Compare1 (thn (ha pins s σ H _ I h) λv s1 ⟨x,H1,I1,r1,q1⟩=>thn (hb pins s1 σ H1 _ I1 q1) λu s2 ⟨y,H2,I2,r2,q2⟩=>thn (ho pins s2 σ H2 x y v u _ I2 r1 r2 q2) λc s3 ⟨z,H3,I3,r3,k,e,q3⟩=> ?_) hm
 subst e;cases r3;exact Ax ⟨H3,I3,q3⟩
theorem aDs:(AL:Nat)<2^63:=by rw[Aq];decide
theorem qI{x:V}{us:List BC}(r:Vals [x] us):∃u,us=[u]/\RelV x u:=by
 cases r with
 |cons r1 r2=>cases r2;exact⟨_,rfl,r1⟩
theorem aMo{x y:V}{us:List BC}(r:Vals [x,y] us):∃u w',us=[u,w']/\RelV x u/\RelV y w':=by
 cases r with
 |cons r1 r2=>
  cases r2 with
  |cons r3 r4=>cases r4;exact⟨_,_,rfl,r1,r3⟩
theorem aFU(hc:X.calm=true):mG X (.builtin "min") (λxs H Q=>∃i j,xs=[.int i,.int j]/\Q (.int (if j<i then j else i)) H):=by
 intro pins s σ H xs us Q I r h;obtain⟨i,j,rfl,q⟩:=h;obtain⟨u,w',rfl,⟨t,rfl⟩,⟨t',rfl⟩⟩:=aMo r;refine min_two_ints (I.ok.hd hc) λh' tk k=>⟨_,H,I.kept k, ?_,q⟩
 by_cases hj:j<i
 ·rw[if_pos hj,if_pos hj];exact⟨_,rfl⟩
 ·rw[if_neg hj,if_neg hj];exact⟨_,rfl⟩
structure ObjM(h:BG)(x dx C:BE)(mA:Str->Option BC):Prop where
 obj:h.get? x=some (cH C dx)
 ns:h.Ns1 dx mA
 ne:dx≠x
theorem aEM{dx:BE}{mA:Str->Option BC}(n:h.Ns1 dx mA):∃od,h.get? dx=some od/\∀name,pJ name od=some (mA name):=by
 obtain⟨o,es,ep,ho,hd,hk,_,hm⟩:=n;refine⟨o,ho,λname=> ?_⟩;have e:=hm name;unfold nsFind findBy at e;rw[<-Array.find?_toList] at e;unfold pJ;rw[hd];dsimp only
 split
 ·rename_i y q;rw[q] at e;exact congrArg some e
 ·rename_i q;rw[q] at e
  have a:es.toList.any (·.refKey)=false:=by rw[List.any_eq_false];intro y hy;obtain⟨z,t,hkey⟩:=hk y<|Array.mem_toList_iff.mp hy;simp[DictEntry.refKey,hkey]
  have a':¬ es.toList.any (·.refKey)=true:=by rw[a];exact bE
  rw[if_neg a'];exact congrArg some e
theorem ObjM.look{dx C:BE}{mA:Str->Option BC}(I:ObjM h x dx C mA):∃od,PySem.W.InstAt h x (cH C dx) C (some od)/\∀name,pJ name od=some (mA name):=
 let ⟨od,ho,hl⟩:=aEM I.ns
 ⟨od,⟨I.obj,rfl,rfl,ho⟩,hl⟩
variable {prog:AE}{A:BF}{K:aA}{dx C f:BE}{mA:Str->Option BC}{name:Str}{v:BC}
theorem aAK{expr:Bool}{Q:BC->BD->Prop}(X:K.In s.heap)(I:ObjM s.heap x dx C mA)(hg:kG K C name=true)(hh:mJ K C=true)
  (ha:cZ K (.ref C) name=some none) (hv:mA name=some v) (hv':aGf v=true) (h:Q v {s with toks:=s.toks+1}):
  AK (AH prog w) A (getAttr (.ref x) name expr) Q E s:=by
 obtain⟨od,J,hl⟩:=I.look;exact PySem.W.get_value X J (qG hg).1 (PySem.W.findObj_own hh ha rfl<|by rw[hl,hv]) hv' h
theorem aBH{pl:Sem Bool}{Q:BC×List BC->BD->Prop}(X:K.In s.heap)(I:ObjM s.heap x dx C mA)(hg:kG K C name=true)
  (hf:cZ K (.ref C) name=some (some<|.ref f)) (ht:oC K (.ref f)=true) (hv:mA name=none) (h:Q (.ref f,[.ref x]) s):
  AK (AH prog w) A (getMethod (.ref x) name pl) Q E s:=by
 obtain⟨od,J,hl⟩:=I.look;exact PySem.W.method_fn X J (qG hg).1 (qG hg).2 hf (beq_iff_eq.mp ht) (by show(pJ name od).map (·.isSome)=some false;rw[hl,hv];rfl) h
theorem aKe{ns:List Str}{Q:Unit->BD->Prop}(X:K.In s.heap)(I:ObjM s.heap x dx C mA)
  (hs:cZ K (.ref C) "__setattr__"=some (some<|.builtin "object.__setattr__")) (hp:sN K C=true) (ht:uI K C name=some none) (hh:mJ K C=true)
  (hw:PySem.Within mA ns) (hsz:ns.length<=AL)
  (h:∀h',ObjM h' x dx C (λy=>if y=name then some v else mA y)->Heap.SameBut dx s.heap h'->Q () {s with heap:=h',toks:=s.toks+2}):
  AK (AH prog w) A (setAttr (.ref x) name v) Q E s:=by
 obtain⟨od,J,hl⟩:=I.look;refine PySem.W.set_plain X J hs<|PySem.W.osa_open (s:={s with toks:=s.toks+1}) (r:=none) X J hp ht λb=> ?_;obtain⟨cd,hc,hd'⟩:=PySem.W.any_some hh;have hx:s.heap.get? x=some ⟨.ref C,some dx,.plain, #[]⟩:=I.obj;refine AA (AC<|AA (AA<|wpAny_loadPart hx (AA<|PySem.W.Looks.here (s:={s with toks:=s.toks+1}) (PySem.W.looks_clsIn X hc) ?_)));rw[hd'];refine AC (a:=some dx)<|AA (AC<|AA ?_);refine wpAny_nsSet1 (s:={s with toks:=s.toks+1}) I.ns λh' hn2 hs2=> ?_
 obtain⟨oD,esD,epD,hoD,hdD,hcD⟩:=hn2.count<|PySem.Within.cons name v hw;refine AA<|wpAny_lookBehind hoD (by rw[hdD];exact pastItsLine_dict (cF hcD<|by rw[bF];omega)) ?_;exact AC<|h _ ⟨(hs2.2 _<|Ne.symm I.ne).trans I.obj,hn2,I.ne⟩ hs2
theorem aHz{R:Result->BD->Prop}{vs:List BC}{kw:List (Str×BC)}(X:K.In s.heap)(hm:uJ K C=true)
  (hi:cZ K (.ref C) "__init__"=some (some<|.ref f)) (hf:PySem.W.typeIn K (.ref f)=some (.type "function"))
  (h:codeAny (AH prog w) (A.under (.builtin "type.__call__" ⟨.ref C::vs,kw⟩)) (.call (.ref f) ⟨.ref (s.heap.objs.size+1)::vs,kw⟩) (PySem.W.InitBack (s.heap.objs.size+1) R)
   {s with heap:=(s.heap.push eW).push (cH C s.heap.objs.size)}):
  codeAny (AH prog w) A (.call (.ref C) ⟨vs,kw⟩) R s:=by
 obtain⟨hh,g,d,t,os⟩:=s;exact PySem.W.make_core (PySem.W.makes_of X hm) (PySem.W.looks_findIn X hi) (λself=>PySem.W.bind_fn X self hf) (.inl rfl) h
noncomputable def mU(f:Str)(v:V):List (Str×V)->List (Str×V)
 |[]=>[(f,v)]
 |(g,x)::r=>if g=f then(g,v)::r else(g,x)::mU f v r
theorem fH(f g:Str)(v:V):∀fs:List (Str×V),(mU f v fs).lookup g=if g=f then some v else fs.lookup g
 |[]=>by
  show iR g [(f,v)]=_
  by_cases h:g=f
  ·have hb:(g==f)=true:=beq_iff_eq.mpr h;simp only[iR,hb,if_pos h]
  ·have hb:(g==f)=false:=beq_eq_false_iff_ne.mpr h;simp only[iR,hb,if_neg h]
 |(k,x)::r=>by
  have ih:=fH f g v r;rw[show mU f v ((k,x)::r)=(if k=f then(k,v)::r else(k,x)::mU f v r) from rfl]
  by_cases hk:k=f
  ·rw[if_pos hk]
   by_cases h:g=k
   ·have hb:(g==k)=true:=beq_iff_eq.mpr h;simp only[iR,hb,if_pos<|h.trans hk]
   ·have hb:(g==k)=false:=beq_eq_false_iff_ne.mpr h;simp only[iR,hb,if_neg (λe:g=f=>h<|e.trans hk.symm)]
  ·rw[if_neg hk]
   by_cases h:g=k
   ·have hb:(g==k)=true:=beq_iff_eq.mpr h;simp only[iR,hb,if_neg (λe:g=f=>hk<|h.symm.trans e)]
   ·have hb:(g==k)=false:=beq_eq_false_iff_ne.mpr h;simp only[iR,hb];exact ih
theorem tQ(f:Str)(v:V):∀fs:List (Str×V),f∈(mU f v fs).map (·.1)/\∀g,g∈fs.map (·.1)->g∈(mU f v fs).map (·.1)
 |[]=>⟨by simp[mU],λg h=>by simp at h⟩
 |(k,x)::r=>by
  obtain⟨i1,i2⟩:=tQ f v r;rw[show mU f v ((k,x)::r)=(if k=f then(k,v)::r else(k,x)::mU f v r) from rfl]
  by_cases hk:k=f
  ·rw[if_pos hk];subst hk;exact⟨by simp,λg h=>by simpa using h⟩
  ·rw[if_neg hk];refine⟨?_,λg h=> ?_⟩
   ·rw[aZ];exact aF _ i1
   ·rw[aZ] at h ⊢
    rcases bD.mp h with e|e
    ·exact bD.mpr<|.inl e
    ·exact aF _<|i2 g e
theorem lY(f:Str)(v:V):∀fs:List (Str×V),(mU f v fs).length<=fs.length+1
 |[]=>by simp[mU]
 |(k,x)::r=>by
  have ih:=lY f v r;rw[show mU f v ((k,x)::r)=(if k=f then(k,v)::r else(k,x)::mU f v r) from rfl]
  by_cases hk:k=f
  ·rw[if_pos hk,bF,bF];omega
  ·rw[if_neg hk,bF,bF];omega
theorem RelO.some_of{v:V}{o:Option BC}(r:RelO (some v) o):∃u,o=some u/\RelV v u:=by
 cases o with
 |none=>exact(show False from r).elim
 |some u=>exact⟨u,rfl,r⟩
theorem RelO.none_of{o:Option BC}(r:RelO none o):o=none:=by
 cases o with
 |none=>rfl
 |some u=>exact(show False from r).elim
theorem tO{v:V}{u:BC}(r:RelV v u):aGf u=true:=by
 cases v with
 |non=>cases(show u=Value.none from r);rfl
 |bl b=>cases(show u=Value.bool b from r);rfl
 |int i=>obtain⟨t,e⟩:=(show ∃t,u=Value.int i t from r);cases e;rfl
 |str x=>obtain⟨t,e⟩:=(show ∃t,u=Value.str x t from r);cases e;rfl
 |byt b=>obtain⟨t,e⟩:=(show ∃t,u=Value.bytes b t from r);cases e;rfl
 |flt b=>obtain⟨t,e⟩:=(show ∃t,u=Value.float b t from r);cases e;rfl
 |ref a=>cases(show u=Value.ref a from r);rfl
 |ty n=>cases(show u=Value.type n from r);rfl
variable {a:BE}{fs fs':List (Str×V)}
theorem aAL(hok:HOk P w H h)(e:H a=some (.ins C dx fs)):∃mA,ObjM h a dx C mA/\(∀f,RelO (fs.lookup f)<|mA f)/\PySem.Within mA (fs.map (·.1))/\fs.length<=1000/\H dx=some (.own a):=by obtain⟨d,z,ne,ob,mA,n,r,q⟩:=(show ObjOk P w H h a (.ins C dx fs) from hok a _ e);exact⟨mA,⟨ob,n,ne⟩,r,q,z,d⟩
structure Cls(K:aA)(C:BE):Prop where
 pg:kG K C Str.empty=true
 hd:mJ K C=true
 po:sN K C=true
 sa:cZ K (.ref C) "__setattr__"=some (some<|.builtin "object.__setattr__")
theorem Cls.get(c:Cls K C)(f:Str):kG K C f=true:=c.pg
def NoAttr(K:aA)(C:BE)(f:Str):Prop:=cZ K (.ref C) f=some none
theorem NoAttr.taker{f:Str}(n:NoAttr K C f):uI K C f=some none:=by unfold uI;rw[show cZ K (.ref C) f=some none from n];rfl
structure Con(K:aA)(C:BE)(f:Str)(v:V)(u:BC):Prop where
 at_:cZ K (.ref C) f=some (some u)
 rel:RelV v u
 get:aFZ K u "__get__"=some none
 cp:PySem.W.copiedNames.contains f=false
structure aLG(K:aA)(C:BE)(m:Str)(f:BE):Prop where
 at_:cZ K (.ref C) m=some (some<|.ref f)
 fn:oC K (.ref f)=true
 kp:cO K (.ref f)=true
variable {f:Str}{v:V}
theorem aCY{y:V}{u:BC}{Q:Unit->BD->Prop}(I:Inv X pins σ H s)(e:H a=some (.ins C dx fs))(c:Cls X.K C)(n:NoAttr X.K C f)(hl:fs.length<1000)(ry:RelV y u)
  (h:∀s',Inv X pins σ (upd H a (.ins C dx<|mU f y fs)) s'->Q () s'):AK (AH X.prog X.w) A (setAttr (.ref a) f u) Q E s:=by
 obtain⟨mA,O,r,wi,_,ho⟩:=aAL I.hok e;have hz:(fs.map (·.1)).length<=AL:=by rw[aC,Aq];omega
 refine aKe I.kIn O c.sa c.po n.taker c.hd wi hz λh' O' sb=>h _ ?_
 have hd:∃o,h'.get? dx=some o:=let ⟨o,_,_,e',_⟩:=O'.ns;⟨o,e'⟩
 refine I.write (x:=a) (e:=dx) (by rw[e];exact True.intro) (.inr ho) (λb q hb z=>(sb.2 b hb).trans z) hd ?_;refine⟨by rw[aV O.ne];exact ho, ?_,O.ne,O'.obj,_,O'.ns,λg=> ?_,λg hg=> ?_⟩
 ·have:=lY f y fs;omega
 ·show RelO ((mU f y fs).lookup g) (if g=f then some u else mA g);rw[fH]
  by_cases q:g=f
  ·rw[if_pos q,if_pos q];exact ry
  ·rw[if_neg q,if_neg q];exact r g
 ·by_cases q:g=f
  ·rw[q];exact(tQ f y fs).1
  ·refine(tQ f y fs).2 g<|wi g λz=>hg ?_;show(if g=f then some u else mA g)=none;rw[if_neg q];exact z
theorem Inv.made(I:Inv X pins σ H s):Inv X pins σ (upd (upd H s.heap.objs.size (.own<|s.heap.objs.size+1)) (s.heap.objs.size+1)<|.ins C s.heap.objs.size [])
  {s with heap:=(s.heap.push eW).push (cH C s.heap.objs.size)}:=by
 have e1:(s.heap.push eW).get? s.heap.objs.size=some eW:=bL s.heap rfl
 have e2:((s.heap.push eW).push<|cH C s.heap.objs.size).get? (s.heap.objs.size+1)=some (cH C s.heap.objs.size):=by
  have:=bL (s.heap.push eW) (o:=cH C s.heap.objs.size) rfl
  rwa[mI] at this
 have e3:(s.heap.push eW).Ns s.heap.objs.size (λ_=>none):=⟨eW, #[],_,e1,rfl,(λe he=>absurd he<|by simp),λ_=>rfl⟩;have I1:=I.laid (a:=s.heap.objs.size) (o:=.own<|s.heap.objs.size+1) (h':=s.heap.push eW) (t':=s.toks) (λb u q=>aD _ q) (aN _) ⟨_,e1⟩;refine I1.laid (a:=s.heap.objs.size+1) (o:=.ins C s.heap.objs.size []) (t':=s.toks) (λb u q=>aD _ q) (pD<|mI _ _) ?_;have ne:s.heap.objs.size≠s.heap.objs.size+1:=bW<|gS _;refine⟨by rw[aV ne,bK],cP _,ne,e2,λ_=>none,(Heap.Ns1.of_empty e3).at λo q=>aD _ q,λ_=>True.intro,λy hy=>absurd rfl hy⟩
theorem aAC{env:Env}{Q:BC->BD->Prop}(hb:Af e f env (eval e env)=eval e env)
  (h:AK (AH prog w) A (eval e env) (λo s₁=>AK (AH prog w) A (getAttr o f true) Q E s₁) E s):AK (AH prog w) A (eval (.Attribute e f pos) env) Q E s:=
 Attribute_any_ h (by rw[arm_eval_Attribute,hb])
noncomputable def sFld(K:aA)(ta tv:TE)(f:Str):TS:=λD σ H=>tv σ H λy H1=>ta σ H1 λx H2=>∃a C dx fs,x=.ref a/\H2 a=some (.ins C dx fs)/\Cls K C/\NoAttr K C f/\fs.length<1000/\
 D.nx σ (upd H2 a (.ins C dx<|mU f y fs))
variable {o value:Expr}{pos' tpos:Pos}{tv:TE}
theorem aDJ(ha:PE X o ta)(hv:PE X value tv)(hs:Ab value (some<|.Attribute o f pos') pos.line X.env=pure false):PS X (.Assign [.Attribute o f pos'] value pos) (sFld X.K ta tv f):=by intro pins s σ H D I h;refine plainObj_wpAny_Assign_Attribute (thn (hv pins s σ H _ I h) λu s1 ⟨y,H1,I1,ry,q⟩=>thn (ha pins s1 σ H1 _ I1 q) λov s2 ⟨x,H2,I2,rx,a,C,dx,fs,ex,ea,c,n,l,q2⟩=> ?_) hs;subst ex;obtain rfl:ov=Value.ref a:=rx;exact aCY I2 ea c n l ry λs3 I3=>⟨σ,_,I3,q2⟩
variable {Q:BC->BD->Prop}{c:BC}{b:Bool}
inductive rK(K:aA)(H:Hp):V->BC->Prop where
 |non:rK K H .non (.type "NoneType")
 |bl (x:Bool):rK K H (.bl x) (.type "bool")
 |int (i:Int):rK K H (.int i) (.type "int")
 |str (x:Str):rK K H (.str x) (.type "str")
 |flt (x:UInt64):rK K H (.flt x) (.type "float")
 |lst {a:BE}{xs:List V} (e:H a=some (.lst xs)):rK K H (.ref a) (.type "list")
 |frz {a:BE}{o:BH}{xs:List V} (e:H a=some (.frz o<|.lst xs)):rK K H (.ref a) (.type "list")
 |tup {a:BE}{xs:List V} (e:H a=some (.tup xs)):rK K H (.ref a) (.type "tuple")
 |dK {a:BE}{kvs:List (Key×V)} (e:Rd H a (.dK kvs)):rK K H (.ref a) (.type "dict")
 |dT {a:BE}{kvs:List (List Key×V)} (e:H a=some (.dT kvs)):rK K H (.ref a) (.type "dict")
 |ins {a C dx:BE}{fs:List (Str×V)} (e:H a=some (.ins C dx fs)) (cl:Cls K C) (ha:cZ K (.ref C) "__class__"=some (some<|.builtin "object.__class__"))
   (hn:aFZ K (.builtin "object.__class__") "__get__"=some (some<|.builtin "getset_descriptor.__get__")) (htk:PySem.W.takesIn K (.builtin "object.__class__")=some true)
   (hm:PySem.W.mroIn K C (.type "object")=some true):rK K H (.ref a) (.ref C)
theorem aEV{x:V}{u t:BC}(I:Inv X pins σ H s)(rx:RelV x u)(ty:rK X.K H x t)(e:pK X.K t c=some b)(h:∀tk,Q (.bool b) {s with toks:=tk}):
  AK (AH X.prog X.w) A (call (.builtin "isinstance") [u,c]) Q E s:=by
 cases ty with
 |non=>cases(show u=Value.none from rx);exact eJ PySem.W.kitx_none I.kIn True.intro e (λz=>nomatch z) h
 |bl y=>cases(show u=Value.bool y from rx);exact eJ PySem.W.kitx_bool I.kIn True.intro e (λz=>nomatch z) h
 |int i=>obtain⟨t,q⟩:=(show ∃t,u=Value.int i t from rx);cases q;exact eJ PySem.W.kitx_int I.kIn True.intro e (λz=>nomatch z) h
 |str y=>obtain⟨t,q⟩:=(show ∃t,u=Value.str y t from rx);cases q;exact eJ PySem.W.kitx_str I.kIn True.intro e (λz=>nomatch z) h
 |flt y=>obtain⟨t,q⟩:=(show ∃t,u=Value.float y t from rx);cases q;exact eJ PySem.W.kitx_float I.kIn True.intro e (λz=>nomatch z) h
 |@lst a xs ea=>cases(show u=Value.ref a from rx);obtain⟨_,_,n,_,h1⟩:=(show ObjOk X.prog X.w H s.heap a (.lst xs) from I.hok a _ ea);exact eJ aGa I.kIn ⟨_,h1,rfl⟩ e (λz=>nomatch z) h
 |@frz a ob xs ea=>cases(show u=Value.ref a from rx);obtain⟨_,_,_,n,_,h1⟩:=(show ObjOk X.prog X.w H s.heap a (.frz ob<|.lst xs) from I.hok a _ ea);exact eJ aGa I.kIn ⟨_,h1,rfl⟩ e (λz=>nomatch z) h
 |@tup a xs ea=>cases(show u=Value.ref a from rx);obtain⟨_,_,_,p⟩:=(show ObjOk X.prog X.w H s.heap a (.tup xs) from I.hok a _ ea);obtain⟨o,h1,h2,_⟩:=p;exact eJ PySem.W.kitx_tuple I.kIn ⟨o,h1,h2⟩ e (λz=>nomatch z) h
 |@dK a kvs ea=>cases(show u=Value.ref a from rx);obtain⟨_,_,vs,_,p⟩:=(show ObjOk X.prog X.w H s.heap a (.dK kvs) from ea.ok I.hok);obtain⟨o,es,ep,h1,h2,_⟩:=p;exact eJ aGb I.kIn ⟨o,h1,h2.1⟩ e (λz=>nomatch z) h
 |@dT a kvs ea=>cases(show u=Value.ref a from rx);obtain⟨_,_,xs,_,o,es,ep,h1,h2,_⟩:=(show ObjOk X.prog X.w H s.heap a (.dT kvs) from I.hok a _ ea);exact eJ aGb I.kIn ⟨o,h1,h2.1⟩ e (λz=>nomatch z) h
 |@ins a C dx fs ea cl ha hn htk hm=>cases(show u=Value.ref a from rx);obtain⟨mA,O,_⟩:=aAL I.hok ea;obtain⟨od,J,_⟩:=O.look;exact eJ (PySem.W.kitx_own (cl.get _) cl.hd ha hn htk hm) I.kIn J e (λz=>nomatch z) h
structure Room(k:Nat)(A:BF):Prop where
 hd:A.handled=none
 dp:A.depth+3*k+5<recursionLimit
 un:A.units+16*k+200<AS
 gd:A.guards=some []
theorem Room.mono{j k:Nat}(r:Room k A)(h:j<=k):Room j A:=⟨r.hd,by have:=r.dp;omega,by have:=r.un;omega,r.gd⟩
theorem Room.deeper{k:Nat}(r:Room (k+1) A)(env:Env):Room k (A.deeper env):=
 ⟨r.hd,by have:=r.dp;show A.depth+1+3*k+5<_;omega,by have:=r.un;show A.units+3+16*k+200<_;omega,r.gd⟩
theorem aCq{us:List BC}{kw:List (Str×BC)}:(A.under<|.builtin "type.__call__" ⟨.ref C::us,kw⟩).depth=A.depth+1:=by first|rfl|simp[Around.under,Code.weight,Code.isCreation,Code.isGuard,Code.isCaller,Code.frames,Code.isFrame,guardIds]
theorem aCx{us:List BC}{kw:List (Str×BC)}:(A.under<|.builtin "type.__call__" ⟨.ref C::us,kw⟩).units=A.units+1:=by first|rfl|simp[Around.under,Code.cUnits,Code.frames,Code.isFrame]
theorem Room.make{k:Nat}(r:Room (k+1) A)(C:BE)(us:List BC)(kw:List (Str×BC)):Room k (A.under<|.builtin "type.__call__" ⟨.ref C::us,kw⟩):=
 ⟨r.hd,by have:=r.dp;rw[aCq];omega,by have:=r.un;rw[aCx];omega,by rw[show(A.under<|.builtin "type.__call__" ⟨.ref C::us,kw⟩).guards=pushGuards (Code.builtin "type.__call__" ⟨.ref C::us,kw⟩).guards A.guards from rfl,r.gd];first|rfl|simp[Code.guards,Code.isGuard,guardIds,pushGuards]⟩
theorem Room.depth{k:Nat}(r:Room k A):A.depth<recursionLimit:=by have:=r.dp;omega
noncomputable def aGi:TA:=λ_ H Q=>Q [] H
noncomputable def oP(ta:TE)(tr:TA):TA:=λσ H Q=>ta σ H λx H1=>tr σ H1 λxs H2=>Q (x::xs) H2
variable {es:List Expr}{t:TA}
theorem pa_nil:PA X [] aGi:=λ_ _ _ _ H Q I h=>Calls.spliced_nil ⟨[],H,I,.nil,h⟩
theorem dA(ha:PE X e te)(hr:PA X es t)(hs:AB (e::es) X.env=(false,eval e X.env)::AB es X.env:=by rfl):PA X (e::es) (oP te t):=by intro pos pins s σ H Q I h;rw[hs];show AK _ _ (spliced ((false,eval e X.env)::AX pos (AB es X.env))) _ _ s;refine Calls.spliced_cons<|thn (ha pins s σ H _ I h) λu s1 ⟨x,H1,I1,r1,q1⟩=> ?_;exact thn (hr pos pins s1 σ H1 _ I1 q1) λus s2 ⟨xs,H2,I2,r2,q2⟩=>⟨x::xs,H2,I2,.cons r1 r2,q2⟩
noncomputable def aQi(t:TA):TE:=λσ H Q=>t σ H λxs H1=>xs.length<=AL/\∀p,H1 p=none->Q (.ref p) (upd H1 p<|.tup xs)
noncomputable def tLst(t:TA):TE:=λσ H Q=>t σ H λxs H1=>xs.length<=AL/\∀p,H1 p=none->Q (.ref p) (upd H1 p<|.lst xs)
theorem aIh{x1}(h:PA X es t):PE X (.Tuple es x1 pos) (aQi t):=by intro pins s σ H Q I hq;refine wpAny_Tuple_spliced<|thn (h pos pins s σ H _ I hq) λus s1 ⟨xs,H1,I1,r,z,q⟩=>⟨by rw[<-r.length];exact z, ?_⟩;have hf:H1 s1.heap.objs.size=none:=I1.hok.fresh<|aN _;refine⟨.ref s1.heap.objs.size,upd H1 s1.heap.objs.size<|.tup xs,I1.laid (t':=s1.toks) (λb u e=>aD _ e) (aN _) ?_,rfl,q _ hf⟩;exact⟨z,us,r,IsTupD.new _ _⟩
theorem aMG(h:PA X es t):PE X (.List es pos) (tLst t):=by intro pins s σ H Q I hq;refine wpAny_List_spliced<|thn (h pos pins s σ H _ I hq) λus s1 ⟨xs,H1,I1,r,z,q⟩=>⟨by rw[<-r.length];exact z, ?_⟩;have hf:H1 s1.heap.objs.size=none:=I1.hok.fresh<|aN _;refine⟨.ref s1.heap.objs.size,upd H1 s1.heap.objs.size<|.lst xs,I1.laid (t':=s1.toks) (λb u e=>aD _ e) (aN _) ?_,rfl,q _ hf⟩;exact⟨z,us,0,r,bL _ rfl⟩
noncomputable abbrev Sp:=List V->Hp->VK->XK->Prop
noncomputable abbrev CXT:=List Env->Hp->BD->XK->BC->BD->Prop
structure Env0(P:AE)(w:AM)(K:aA)(mg:Str->Option BC)(base:BG)(A:BF)(outer:List Env)(s:BD)(H:Hp):Prop where
 frames:A.frames=some outer
 mod:Mod K mg base
 bs:∀b o,base.get? b=some o->s.heap.get? b=some o/\H b=none
 bsz:base.objs.size<=s.heap.objs.size
 funs:s.heap.FunFrames base outer
 frf:∀b∈frs outer,H b=none
 hok:HOk P w H s.heap
 bare:AllBare s.gens
def CE(outer:List Env)(P:AE)(w:AM)(H:Hp)(s:BD)(Q:VK)(u:BC)(s':BD):Prop:=
 ∃v H',s'.os=s.os/\AllBare s'.gens/\Un (frs outer) [] H H' s.heap s'.heap/\HOk P w H' s'.heap/\RelV v u/\Q v H'
def CR(CX:CXT)(outer:List Env)(P:AE)(w:AM)(H:Hp)(s:BD)(Q:VK)(E:XK)(r:Result)(s':BD):Prop:=
 match r with
 |.ok (.ret u)=>CE outer P w H s Q u s'
 |.ok _=>False
 |.error e=>CX outer H s E e s'
structure FnOk(P:AE)(w:AM)(K:aA)(mg:Str->Option BC)(base:BG)(CX:CXT)(k:Nat)(f:BE)(fd:AN)(ps:List Str)(sp:Sp):Prop where
 len:∀vs H Q E,sp vs H Q E->vs.length=ps.length
 run:∀ (A:BF) (outer:List Env) (s:BD) (H:Hp) (args:Args) (us:List BC) (vs:List V) (Q:VK) (E:XK),Room k A->Env0 P w K mg base A outer s H->BindsTo s fd args (ps.zip us)->Vals vs us->sp vs H Q E->
  codeAny (AH P w) A (.call (.ref f) args) (CR CX outer P w H s Q E) s
theorem Env0.make{mg:Str->Option BC}{base:BG}{outer:List Env}(e:Env0 P w K mg base A outer s H)(C:BE)(us:List BC)(kw:List (Str×BC)):
  Env0 P w K mg base (A.under<|.builtin "type.__call__" ⟨.ref C::us,kw⟩) outer s H:=⟨by first|exact e.frames|(simpa[Around.under,Code.envs,Code.isFrame,pushEnvs] using e.frames),e.mod,e.bs,e.bsz,e.funs,e.frf,e.hok,e.bare⟩
variable {s':BD}
theorem Inv.env0(I:Inv X pins σ H s):Env0 X.prog X.w X.K X.mg X.base X.A X.stack s H:=
 ⟨I.ok.frames,I.ok.mod,I.bs,cF I.ok.bsz I.sz,I.stack,I.stkFree,I.hok,I.bare⟩
theorem Inv.after{Q:VK}{u:BC}(I:Inv X pins σ H s)(h:CE X.stack X.prog X.w H s Q u s'):EP X pins σ Q u s':=by obtain⟨v,H',os,bare,un,hok,r,q⟩:=h;obtain⟨hh,g,d,t,os'⟩:=s';obtain rfl:os'=s.os:=os;exact⟨v,H',I.call (h':=hh) (g':=g) (d':=d) (t':=t) (ch:=[]) un hok bare (λb z=>absurd z<|by simp),r,q⟩
noncomputable def aPv(sp:Sp)(dvs:List V)(E:XK)(t:TA):TE:=λσ H Q=>t σ H λvs H1=>sp (vs++dvs) H1 Q E
noncomputable def aPb(C:BE)(sp:Sp)(dvs:List V)(E:XK)(t:TA):TE:=λσ H Q=>t σ H λvs H1=>∀x dx,H1 x=none->H1 dx=none->dx≠x->
 sp (.ref x::(vs++dvs)) (upd (upd H1 dx<|.own x) x<|.ins C dx []) (λv H2=>v=.non/\Q (.ref x) H2) E
def Binds(K:aA)(fd:AN)(ps:List Str)(ds:List BC):Prop:=
 ∀ (s:BD) (us:List BC),K.In s.heap->(us++ds).length=ps.length->BindsTo s fd ⟨us,[]⟩ (ps.zip<|us++ds)
theorem Binds.all{fd:AN}{ps:List Str}(h:∀us:List BC,us.length=ps.length->bindArgs fd ⟨us,[]⟩=pure (ps.zip us)):Binds K fd ps []:=λs us _ hl=>by rw[bN] at hl ⊢;exact .of_eq<|h us hl
def wC(CX:CXT)(X:Cx)(E:XK):Prop:=∀ (pins:List (BE×BH)) (σ:St) (H:Hp) (s:BD) (e:BC) (s':BD),Inv X pins σ H s->CX X.stack H s E e s'->X.xe e s'
variable {CX:CXT}{k:Nat}{f:BE}{fd:AN}{ps:List Str}{sp:Sp}{dvs:List V}{ds:List BC}{E:XK}{x m:Str}{p apos:Pos}
theorem aIM{Q:VK}{us:List BC}{vs:List V}(F:FnOk X.prog X.w X.K X.mg X.base CX k f fd ps sp)(hr:Room k X.A)(hb:Binds X.K fd ps ds)(hd:Vals dvs ds)(hx:wC CX X E)
  (I:Inv X pins σ H s) (r:Vals vs us) (h:sp (vs++dvs) H Q E):AK (AH X.prog X.w) X.A (call (.ref f) us) (EP X pins σ Q) X.xe s:=by
 have r2:Vals (vs++dvs) (us++ds):=r.append hd;have hl:(us++ds).length=ps.length:=by rw[<-r2.length];exact F.len _ _ _ _ h
 refine wpAny_call<|Ap (F.run X.A X.stack s H ⟨us,[]⟩ (us++ds) (vs++dvs) Q E hr I.env0 (hb s us I.kIn hl) r2 h) λr s' hq=> ?_;cases r with
 |error e=>exact hx pins σ H s e s' I hq
 |ok fl=>
  cases fl with
  |ret u=>exact I.after hq
  |next=>exact False.elim hq
  |brk=>exact False.elim hq
  |cont=>exact False.elim hq
theorem rM(F:FnOk X.prog X.w X.K X.mg X.base CX k f fd ps sp)(hr:Room k X.A)(hg:Gl X x)(hm:X.mg x=some (.ref f))(hk:cO X.K (.ref f)=true)(hb:Binds X.K fd ps ds)(hd:Vals dvs ds)(hx:wC CX X E)
  (ha:PA X (e::es) t) (hdb:(x==("__debug__":Str))=false:=by decide) (he:AB (e::es) X.env=(false,eval e X.env)::AB es X.env:=by rfl) (hpl:(AX pos<|AB es X.env).any (·.1)=false:=by rfl):
  PE X (.Call (.Name x p) (e::es) [] pos) (aPv sp dvs E t):=by
 intro pins s σ H Q I h;refine AQ<|lG I hg hm ?_ hdb;refine eM (h₀:=X.base) I.ok.mod.kin hk (thn (ha pos pins s σ H _ I h) λus s1 ⟨vs,H1,I1,r,q⟩=>⟨I1.kIn, ?_⟩) he hpl;exact aIM F hr hb hd hx I1 r q
structure Mk(K:aA)(C f:BE):Prop where
 makes:uJ K C=true
 init:cZ K (.ref C) "__init__"=some (some<|.ref f)
 fn:oC K (.ref f)=true
 kp:cO K (.ref C)=true
theorem aHg{Q:VK}{us:List BC}{vs:List V}(M:Mk X.K C f)(F:FnOk X.prog X.w X.K X.mg X.base CX k f fd ps sp)(hr:Room (k+1) X.A)(hb:Binds X.K fd ps ds)(hd:Vals dvs ds)
  (hx:wC CX X E) (I:Inv X pins σ H s) (r:Vals vs us)
  (h:∀x dx,H x=none->H dx=none->dx≠x->sp (.ref x::(vs++dvs)) (upd (upd H dx<|.own x) x<|.ins C dx []) (λv H2=>v=.non/\Q (.ref x) H2) E):
  AK (AH X.prog X.w) X.A (call (.ref C) us) (EP X pins σ Q) X.xe s:=by
 have hq:=h (s.heap.objs.size+1) s.heap.objs.size (I.hok.fresh<|hW _) (I.hok.fresh<|aN _) (bW<|gS _);have I2:=Inv.made (C:=C) I;have r2:Vals (V.ref (s.heap.objs.size+1)::(vs++dvs)) (Value.ref (s.heap.objs.size+1)::(us++ds)):=.cons rfl<|r.append hd
 have hl:(Value.ref (s.heap.objs.size+1)::us++ds).length=ps.length:=by have e:=r2.length;rw[F.len _ _ _ _ hq] at e;exact e.symm
 refine wpAny_call (aHz (f:=f) I.kIn M.makes M.init (beq_iff_eq.mp M.fn) (Ap (F.run _ X.stack _ _ ⟨Value.ref (s.heap.objs.size+1)::us,[]⟩ (Value.ref (s.heap.objs.size+1)::(us++ds)) _ _ E (hr.make C us [])
  (I2.env0.make C us []) (hb _ (Value.ref (s.heap.objs.size+1)::us) I2.kIn hl) r2 hq) λr s' hq'=> ?_))
 cases r with
 |error e=>exact hx pins σ _ _ e s' I2 hq'
 |ok fl=>
  cases fl with
  |ret u=>obtain⟨v,H',I3,rv,ev,q3⟩:=I2.after hq';subst ev;exact⟨rv,⟨V.ref<|s.heap.objs.size+1,H',I3,rfl,q3⟩⟩
  |next=>exact False.elim hq'
  |brk=>exact False.elim hq'
  |cont=>exact False.elim hq'
theorem aLb(M:Mk X.K C f)(F:FnOk X.prog X.w X.K X.mg X.base CX k f fd ps sp)(hr:Room (k+1) X.A)(hg:Gl X x)(hm:X.mg x=some (.ref C))(hb:Binds X.K fd ps ds)(hd:Vals dvs ds)(hx:wC CX X E)
  (ha:PA X (e::es) t) (hdb:(x==("__debug__":Str))=false:=by decide) (he:AB (e::es) X.env=(false,eval e X.env)::AB es X.env:=by rfl) (hpl:(AX pos<|AB es X.env).any (·.1)=false:=by rfl):
  PE X (.Call (.Name x p) (e::es) [] pos) (aPb C sp dvs E t):=by
 intro pins s σ H Q I h;refine AQ<|lG I hg hm ?_ hdb;refine eM (h₀:=X.base) I.ok.mod.kin M.kp (thn (ha pos pins s σ H _ I h) λus s1 ⟨vs,H1,I1,r,q⟩=>⟨I1.kIn, ?_⟩) he hpl;exact aHg M F hr hb hd hx I1 r q
section
variable {X:Cx}{CX:CXT}{k:Nat}{f C:BE}{fd:AN}{ps ks:List Str}{sp:Sp}{E:XK}{x m:Str}{p pos apos kpos:Pos}{e o:Expr}{es:List Expr}{kws:List Keyword}{te ta:TE}{t tk:TA}{nm:Option Str}
structure aQm(K:aA)(fd:AN)(ps ks:List Str)(g:List BC->List BC->List BC)(gV:List V->List V->List V):Prop where
 to:∀ (s:BD) (us ws:List BC),K.In s.heap->(g us ws).length=ps.length->BindsTo s fd ⟨us,ks.zip ws⟩ (ps.zip<|g us ws)
 rel:∀ {vs:List V}{us:List BC}{zs:List V}{ws:List BC},Vals vs us->Vals zs ws->Vals (gV vs zs) (g us ws)
variable {g:List BC->List BC->List BC}{gV:List V->List V->List V}
end
structure gO(N P:List Str)(sc:Scope):Prop where
 kind:sc.kind=.function
 co:sc.isCoroutine=false
 gen:sc.isGenerator=false
 nd:N.Nodup
 pre:N.take P.length=P
 par:∀x∈P,sc.names.lookup x=some .local\/sc.names.lookup x=some .cell
 nofree:∀y∈sc.names,y.2≠ .free
theorem yS{kindOf:Str->Option NameKind}{x:Str}:∀ {binds:List (Str×BC)}{m:Str->Option BC},(∀v,(x,v)∉binds)->bindL kindOf binds m x=m x
 |[],_,_=>rfl
 |(n,v)::r,m,h=>by
  unfold bindL;rw[yS λw hw=>h w<|aF _ hw]
  split
  ·have:x≠n:=by rintro rfl;exact h v aJ
   simp[this]
  ·rfl
theorem yN{kindOf:Str->Option NameKind}{x:Str}:∀ {binds:List (Str×BC)}{m:Str->Option BC},(∀v,(x,v)∉binds)->bindC kindOf binds m x=m x
 |[],_,_=>rfl
 |(n,v)::r,m,h=>by
  unfold bindC;rw[yN λw hw=>h w<|aF _ hw]
  split
  ·rfl
  ·have:x≠n:=by rintro rfl;exact h v aJ
   simp[this]
theorem yL{kindOf:Str->Option NameKind}{x:Str}{v:BC}:∀ {P:List Str}{vs:List BC}{i:Nat}{m:Str->Option BC},P.Nodup->P[i]? =some x->vs[i]? =some v->kindOf x=some .local->
  bindL kindOf (P.zip vs) m x=some v
 |[],_,_,_,_,h,_,_=>by simp at h
 |_::_,[],_,_,_,_,h,_=>by simp at h
 |p::P,w::vs,0,m,nd,h1,h2,hk=>by simp at h1 h2;subst h1;subst h2;show bindL kindOf ((p,w)::P.zip vs) m p=_;unfold bindL;rw[yS λv hv=>(bV.mp nd).1 (xR hv).1,if_pos hk];simp
 |p::P,w::vs,i+1,m,nd,h1,h2,hk=>by show bindL kindOf ((p,w)::P.zip vs) m x=_;unfold bindL;exact yL (i:=i) (bV.mp nd).2 (by simpa using h1) (by simpa using h2) hk
theorem zO{kindOf:Str->Option NameKind}{x:Str}{v:BC}:∀ {P:List Str}{vs:List BC}{i:Nat}{m:Str->Option BC},P.Nodup->P[i]? =some x->vs[i]? =some v->kindOf x≠some .local->
  bindC kindOf (P.zip vs) m x=some v
 |[],_,_,_,_,h,_,_=>by simp at h
 |_::_,[],_,_,_,_,h,_=>by simp at h
 |p::P,w::vs,0,m,nd,h1,h2,hk=>by simp at h1 h2;subst h1;subst h2;show bindC kindOf ((p,w)::P.zip vs) m p=_;unfold bindC;rw[yN λv hv=>(bV.mp nd).1 (xR hv).1,if_neg hk];simp
 |p::P,w::vs,i+1,m,nd,h1,h2,hk=>by show bindC kindOf ((p,w)::P.zip vs) m x=_;unfold bindC;exact zO (i:=i) (bV.mp nd).2 (by simpa using h1) (by simpa using h2) hk
noncomputable def start(N:List Str)(vs:List V):St:=vs.map some++bG (N.length-vs.length) none
noncomputable def iF(CX:CXT)(P:AE)(w:AM)(K:aA)(mg:Str->Option BC)(base:BG)(N:List Str)(qual:Str)(scope:Scope)(f:BE)(cd:BC)(A:BF)(outer:List Env)(s:BD)(H:Hp)(E:XK):Cx where
 prog:=P
 w:=w
 K:=K
 mg:=mg
 base:=base
 A:=A.deeper<|Ai qual scope s.heap.objs.size f cd
 N:=N
 s₀:=s
 H₀:=H
 env:=Ai qual scope s.heap.objs.size f cd
 outer:=outer
 stack:=Ai qual scope s.heap.objs.size f cd::outer
 ex:=[]
 calm:=true
 fn:=λ_=>true
 pn:=[]
 xe:=λe s'=>AK (AH P w) (A.deeper<|Ai qual scope s.heap.objs.size f cd) (leaving (Ai qual scope s.heap.objs.size f cd) e) (λ_ s''=>CX outer H s E e s'') (λe' s''=>CX outer H s E e' s'') s'
theorem aBs{sc:Scope}{n:Nat}(h:sc.names.lookup x=some .cell):∃c,(cellsFrom n sc.names []).lookup x=some c:=by have q:=aAl sc.names n []<|.inl h;exact Option.isSome_iff_exists.mp q
theorem aFT{mg:Str->Option BC}{base:BG}{N:List Str}{qual:Str}{scope:Scope}{cd:BC}{outer:List Env}{s1:BD}{us:List BC}{vs:List V}
  (S:gO N ps scope) (hd:A.handled=none) (e0:Env0 P w K mg base A outer s H) (hl:vs.length=ps.length) (r:Vals vs us)
  (x:InCallC s s.heap.objs.size (bindL (Ai qual scope s.heap.objs.size f cd).kindOf (ps.zip us) λ_=>none) (cellsFrom (s.heap.objs.size+1) scope.names []) (bindC (Ai qual scope s.heap.objs.size f cd).kindOf (ps.zip us) λ_=>none) s1):
  Inv (iF CX P w K mg base N qual scope f cd A outer s H E) [] (start N vs) H s1:=by
 have hpl:ps.length<=N.length:=by have:=congrArg xO S.pre;rw[cV] at this;omega
 obtain⟨h1,tk,rfl,hk⟩:=x.done;have noA:∀b:BE,b∉(iF CX P w K mg base N qual scope f cd A outer s H E).ex:=λb z=>absurd (show b∈([]:List BE) from z)<|by simp
 refine ⟨⟨e0.mod,S.kind,rfl,rfl,aN _,fun y z c h1 h2=> ?_,fun y hy=> ?_,fun y c _ h=> ?_,fun _=>hd,Around.frames_deeper e0.frames, .inr ⟨rfl,rfl⟩,fun b z=>absurd z (noA b),e0.bs,e0.bsz,fun b _ _=>noA b,fun b z=>absurd z (noA b),e0.funs,e0.frf⟩,
  rfl,e0.bare,Un.kept hk,⟨_,x.toInCall.ns,λi y v h1 h2 h3=> ?_⟩,λy c h=>⟨_,x.cell y c h⟩,e0.hok.fresh (aN _),λy c h=> ?_,λp hp=>absurd (show p∈([]:List (BE×BH)) from hp) (by simp),e0.hok.kept hk, ?_⟩
 ·exact name_of_addr x.apart (PySem.mem_of_lookup h1)<|PySem.mem_of_lookup h2
 ·have hy:scope.names.lookup y=some .cell\/scope.names.lookup y=some .free:=hy
  rcases hy with hy|hy
  ·exact aBs hy
  ·exact absurd rfl (S.nofree _<|PySem.mem_of_lookup hy)
 ·exact dE (x.above y c<|PySem.mem_of_lookup h)
 ·have hi:i<vs.length:=by
   unfold start at h2
   by_cases hi:i<vs.length
   ·exact hi
   ·rw[fY<|by simpa using hi] at h2;rw[List.getElem?_replicate] at h2
    split at h2<;>cases h2
  have ha:vs[i]? =some v:=by
   unfold start at h2;rw[eB (by simpa using hi),aW] at h2;cases e:vs[i]? with
   |none=>rw[e] at h2;cases h2
   |some a=>rw[e] at h2;cases h2;rfl
  obtain⟨u,hu,rv⟩:=r.get ha
  have hp:ps[i]? =some y:=by rw[<-S.pre,aAZ<|by omega];exact h1
  have ndP:ps.Nodup:=by rw[<-S.pre];exact S.nd.sublist<|List.take_sublist _ _
  refine⟨u,rv, ?_⟩
  rcases S.par y (bA hp) with k|k
  ·exact .inl ⟨k,yL ndP hp hu k⟩
  ·obtain⟨c,e⟩:=aBs (n:=s.heap.objs.size+1) k;refine .inr ⟨.inl k,c,e, ?_⟩;have q:=x.cell y c e;rw[zO ndP hp hu<|by show scope.names.lookup y≠_;rw[k];decide] at q;exact q
 ·exact e0.hok.fresh<|dE (x.above y c<|PySem.mem_of_lookup h)
 ·unfold start;show _=N.length;rw[aH,aC,kN];omega
theorem aGq{mg:Str->Option BC}{base:BG}{qual:Str}{params:Arguments}{body:List BI}{scope:Scope}{dV kV doc pm cdv ct oc:BC}{an od:Option BE}
  {osl:Array (Option BC)}{N ps:List Str}{sp:Sp} (lk:K.lookup f=some ⟨oc,od,.func<|cE name qual params body scope dV kV doc pm an cdv ct,osl⟩) (hcd:eG K cdv qual=true) (S:gO N ps scope)
  (len:∀vs H Q E,sp vs H Q E->vs.length=ps.length)
  (hbody:∀ (A:BF) (outer:List Env) (s:BD) (H:Hp) (vs:List V) (Q:VK) (E:XK),Room k (A.deeper (Ai qual scope s.heap.objs.size f cdv))→sp vs H Q E→
   ∃t,PSs (iF CX P w K mg base N qual scope f cdv A outer s H E) body t/\t {nx:=λ_ H'=>Q .non H',rt:=Q} (start N vs) H):
  FnOk P w K mg base CX (k+1) f (cE name qual params body scope dV kV doc pm an cdv ct) ps sp:=by
 refine⟨len,λA outer s H args us vs Q E hr e0 hb r hsp=> ?_⟩;have hl:=len _ _ _ _ hsp;have KX:K.In s.heap:=e0.mod.kin.keeps λb o e=>(e0.bs b o e).1
 have lim:s.heap.NoLimit:=e0.mod.nolimit.keeps λb o e=>(e0.bs b o e).1
 have hkind:∀y∈ps.zip us,scope.names.lookup y.1=some .local\/(scope.names.lookup y.1=some .cell/\((cellsFrom (s.heap.objs.size+1) scope.names []).lookup y.1).isSome=true):=λ⟨n,v⟩ hy=>by
  rcases S.par n (xR hy).1 with q|q
  ·exact .inl q
  ·exact .inr ⟨q,aAl _ _ _<|.inl q⟩
 refine codeAny_call_function hr.depth (KX _ _ lk) rfl S.co S.gen rfl (PySem.W.codeRec_of KX hcd)<|hb _ _ _ _ ?_;refine wpAny_newFunctionEnv_cells S.kind hkind λenv he s1 x=> ?_
 subst he;refine⟨lim.keeps x.toInCall.keep,codeAny_func ?_⟩;obtain⟨t,ht,hq⟩:=hbody A outer s H vs Q E (hr.deeper _) hsp;have I:Inv (iF CX P w K mg base N qual scope f cdv A outer s H E) [] (start N vs) H s1:=aFT S hr.hd e0 hl r x;refine Aa (ht [] s1 (start N vs) H _ I hq) (λfl s' hs=> ?_) λe s' hs=>hs
 have fin:∀ {σ':St}{H':Hp}{v:V}{u:BC},Inv (iF CX P w K mg base N qual scope f cdv A outer s H E) [] σ' H' s'->RelV v u->Q v H'->CE outer P w H s Q u s':=
  λ{σ' H' v u} J rv q=>⟨v,H',J.os,J.bare,J.base,J.hok,rv,q⟩
 cases fl with
 |ret u=>obtain⟨v,σ',H',J,rv,q⟩:=hs;exact fin J rv q
 |next=>obtain⟨σ',H',J,q⟩:=hs;exact fin (v:=V.non) (u:=Value.none) J rfl q
 |brk=>obtain⟨_,_,_,q⟩:=hs;exact False.elim q
 |cont=>obtain⟨_,_,_,q⟩:=hs;exact False.elim q
section
variable {X:Cx}{x:Str}{p pos:Pos}{e:Expr}{es:List Expr}{t:TA}{id T:String}{r:List V->Hp->VK->Prop}
noncomputable def tCB(r:List V->Hp->VK->Prop)(t:TA):TE:=λσ H Q=>t σ H λvs H1=>r vs H1 Q
theorem sG(hc:mG X (.builtin id) r)(hg:Gl X x)(hm:X.mg x=none)(hv:Ao x=some (.builtin id))(ha:PA X (e::es) t)(hn:x≠"__name__":=by decide)(hdb:(x==("__debug__":Str))=false:=by decide)
  (he:AB (e::es) X.env=(false,eval e X.env)::AB es X.env:=by rfl) (hpl:(AX pos<|AB es X.env).any (·.1)=false:=by rfl):PE X (.Call (.Name x p) (e::es) [] pos) (tCB r t):=by
 intro pins s σ H Q I h;refine AQ<|lP I hg hm hv ?_ hn hdb;exact PyProof.Rows.callWith_builtin1 (thn (ha pos pins s σ H _ I h) λus s1 ⟨vs,H1,I1,r1,q1⟩=>hc pins s1 σ H1 vs us Q I1 r1 q1) he hpl
theorem aEX(hc:mG X (.type T) r)(hg:Gl X x)(hm:X.mg x=none)(hv:Ao x=some (.type T))(ha:PA X (e::es) t)(hn:x≠"__name__":=by decide)(hdb:(x==("__debug__":Str))=false:=by decide)
  (he:AB (e::es) X.env=(false,eval e X.env)::AB es X.env:=by rfl) (hpl:(AX pos<|AB es X.env).any (·.1)=false:=by rfl):PE X (.Call (.Name x p) (e::es) [] pos) (tCB r t):=by
 intro pins s σ H Q I h;refine AQ<|lP I hg hm hv ?_ hn hdb;exact PyProof.Rows.callWith_type1 (thn (ha pos pins s σ H _ I h) λus s1 ⟨vs,H1,I1,r1,q1⟩=>hc pins s1 σ H1 vs us Q I1 r1 q1) he hpl
end
end L2
namespace HT
open PySem PyProof.Rows
noncomputable def lexLt:List Int->List Int->Bool
 |[],[]=>false
 |[],_::_=>true
 |_::_,[]=>false
 |x::xs,y::ys=>if x=y then lexLt xs ys else decide (x<y)
section
open PySem.SeqAt
open PySem.AutoSeq1 (wpAny_loadPart')
open PySem.MeetsSeq PySem.MeetsSeq2 PySem.MeetsSeq3
end
variable {prog:AE}{w:AM}{A:BF}{E:BC->BD->Prop}{s:BD}
theorem cat_tup{t b:BE}{vs ws:List BC}{Q:BC->BD->Prop}(ht:IsTup s.heap t vs.toArray)(hb:IsTup s.heap b ws.toArray)(hv:vs≠[])
  (h1:ws=[]->Q (.ref t) s) (h2:ws≠[]->Q (.ref s.heap.objs.size) {s with heap:=s.heap.push {cls:=.type "tuple",data:=.seq (vs++ws).toArray}})
  (hsz:vs.length+ws.length<=AL):AK (AH prog w) A (Ak .Add (.ref t)<|.ref b) Q E s:=by
 obtain⟨⟨cls,dd,data,sl⟩,ho,hc,n,hd⟩:=id ht;obtain⟨⟨cls2,dd2,data2,sl2⟩,ho2,hc2,n2,hd2⟩:=id hb;simp only at hc hd hc2 hd2;subst hc hd hc2 hd2;have e:vs.toArray++ws.toArray=(vs++ws).toArray:=by simp
 by_cases hw:ws=[]
 ·exact concat_meets ⟨_,ho,rfl⟩ ⟨_,ho2,rfl⟩ noFill_tuple_add seq_tuple_add oE nF (mR _ _)
   (tuple_addW1 t b vs.toArray ws.toArray n n2 dd dd2 sl sl2 (by simpa using hv)<|by simp[hw]) ⟨ho,ho2,h1 hw⟩
 ·refine concat_meets ⟨_,ho,rfl⟩ ⟨_,ho2,rfl⟩ noFill_tuple_add seq_tuple_add oE nF (mR _ _)
   (tuple_addW2 t b vs.toArray ws.toArray n n2 dd dd2 sl sl2 (by simpa using hv) (by simpa using hw)<|by rw[bC,bC];exact hsz) ⟨ho,ho2, ?_⟩
  rw[e];exact h2 hw
noncomputable def sIx(n d:Nat):Option Int->Nat
 |none=>d
 |some v=>if v<0 then(v+(n:Int)).toNat else min v.toNat n
theorem sIx_none(n d:Nat):sIx n d none=d:=rfl
theorem sIx_nat(n d k:Nat):sIx n d (some (k:Int))=min k n:=by show(if(k:Int)<0 then((k:Int)+(n:Int)).toNat else min (k:Int).toNat n)=min k n;rw[if_neg<|by omega,dI]
theorem aND(n d:Nat)(hd:d<=n)(o:Option Int):sIx n d o<=n:=by
 cases o with
 |none=>exact hd
 |some v=>
  show(if v<0 then(v+(n:Int)).toNat else min v.toNat n)<=n
  by_cases hv:v<0
  ·rw[if_pos hv];omega
  ·rw[if_neg hv];exact Nat.min_le_right _ _
theorem aEz(v:Int)(n d:Nat):(if v<0 then max (v+(n:Int)) 0 else min v (n:Int))=((sIx n d (some v):Nat):Int):=by
 show(if v<0 then max (v+(n:Int)) 0 else min v (n:Int))=(((if v<0 then(v+(n:Int)).toNat else min v.toNat n):Nat):Int)
 by_cases hv:v<0
 ·simp only[if_pos hv];omega
 ·simp only[if_neg hv];omega
theorem aCB(lo hi:Option Int)(n:Nat):Builtin.Slice.sliceAdjust lo hi 1 (n:Int)=(((sIx n 0 lo:Nat):Int),((sIx n n hi:Nat):Int)):=by
 have h1:¬ ((1:Int)<0):=by omega
 unfold Builtin.Slice.sliceAdjust;simp only[h1,if_false];refine Prod.ext ?_ ?_
 ·cases lo with
  |none=>rfl
  |some v=>exact aEz v n 0
 ·cases hi with
  |none=>rfl
  |some v=>exact aEz v n n
theorem aCV(i j:Nat):Builtin.Slice.slicePlaces (i:Int) (j:Int) 1=j-i:=by
 unfold Builtin.Slice.slicePlaces;have h1:(1:Int)>0:=by omega
 simp only[h1,if_true,Int.ediv_one]
 split<;>omega
theorem xC{v:BC}{o:Option Int}{Q:Option Int->BD->Prop}(p:IsPart v o)(h:Q o s):AK (AH prog w) A (Builtin.Slice.slicePartIndex v) Q E s:=by
 cases p with
 |none=>exact slicePart_none h
 |int i t=>exact slicePart_int h
theorem sliceApplied_gen{sl:BE}{vl vu:BC}{lo hi:Option Int}{n:Nat}{Q:Int×Int×Nat->BD->Prop}(hs:s.heap.IsSliceOf sl vl vu .none)(pl:IsPart vl lo)(pu:IsPart vu hi)
  (h:Q (((sIx n 0 lo:Nat):Int),1,sIx n n hi-sIx n 0 lo) s):AK (AH prog w) A (Builtin.Slice.sliceApplied (.ref sl)<|pure (n:Int)) Q E s:=by
 obtain⟨os,hos,hcs,hds⟩:=id hs;unfold Builtin.Slice.sliceApplied Builtin.Slice.sliceFields;refine AA<|AA (wpAny_field hos hds (x:=vl) rfl<|AA (wpAny_field hos hds (x:=vu) rfl<|AA (wpAny_field hos hds (x:=.none) rfl<|AC ?_)));refine AA<|slicePart_none ?_;show AK _ _ (if((1:Int)==0)=true then _ else _) _ _ s;rw[if_neg<|by decide];refine AA<|xC pl (AA<|xC pu (AA<|AC ?_));show AK _ _ (match Builtin.Slice.sliceAdjust lo hi 1 (n:Int) with|(lo,hi)=>pure (lo,(1:Int),Builtin.Slice.slicePlaces lo hi 1)) _ _ s;rw[aCB lo hi n];show AK _ _ (pure (((sIx n 0 lo:Nat):Int),(1:Int),Builtin.Slice.slicePlaces ((sIx n 0 lo:Nat):Int) ((sIx n n hi:Nat):Int) 1)) _ _ s;rw[aCV];exact AC h
theorem aHk(xs:Array BC)(i k:Nat):((bQ k).filterMap λ(m:Nat)=>xs[((i:Int)+(m:Int)*1).toNat]?).toArray=((xs.toList.drop i).take k).toArray:=by
 have e:(λ(m:Nat)=>xs[((i:Int)+(m:Int)*1).toNat]?)=λm=>xs[i+m]? :=by
  funext m;have:((i:Int)+(m:Int)*1).toNat=i+m:=by omega
  rw[this]
 rw[e];have:=pick_run xs i k;rw[List.filterMap_map] at this;have e2:((λx=>xs[x]?) ∘ λx=>i+x)=λm=>xs[i+m]? :=rfl
 rw[e2] at this;rw[this]
theorem getItem_tuple_cut{t sl:BE}{items:Array BC}{vl vu:BC}{lo hi:Option Int}{Q:BC->BD->Prop}(ht:IsTup s.heap t items)(hs:s.heap.IsSliceOf sl vl vu .none)(pl:IsPart vl lo)(pu:IsPart vu hi)
  (hw:¬ (sIx items.size 0 lo=0/\sIx items.size items.size hi=items.size))
  (h:Q (.ref s.heap.objs.size) {s with heap:=s.heap.push {cls:=.type "tuple",data:=.seq ((items.toList.drop<|sIx items.size 0 lo).take<|sIx items.size items.size hi-sIx items.size 0 lo).toArray}})
  (hsz:items.size<=AL):AK (AH prog w) A (getItem (.ref t)<|.ref sl) Q E s:=by
 have htake:sizeOk (.seq ((items.toList.drop<|sIx items.size 0 lo).take<|sIx items.size items.size hi-sIx items.size 0 lo).toArray):=by show((items.toList.drop<|sIx items.size 0 lo).take<|sIx items.size items.size hi-sIx items.size 0 lo).toArray.size<=AL;rw[bC,cV,fD,cS];omega
 have hj:sIx items.size items.size hi<=items.size:=aND _ _ (aN _) hi;obtain⟨os,hos,hcs,hds⟩:=id hs;have hTs:s.TypeIs (.ref sl) "slice":=⟨os,hos,hcs⟩;unfold getItem
 try with_reducible refine AV ?_
 first|refine AA (AC ?_)|skip
 refine AA<|wpAny_sequenceKey ht.typeIs (by decide) ?_
 refine AA (Am (name:=Str.ofString "__getitem__") ht.typeIs PyProof.Rows.slot_tuple_getitem
  (At PyProof.Rows.slot_tuple_getitem ht.typeIs entry_tuple_getitem ?_ (args_tuple_getitem _ _)))
 show AK _ _ (Builtin.Tuple.tupleItemsOf (.ref t)>>=_) _ _ s;refine AA<|tupleItemsOf_ ht ?_;refine AA<|wpAny_typeOf hTs ?_;rw[if_pos<|by decide];refine AA<|sliceApplied_gen hs pl pu ?_
 have hno:¬ ((((sIx items.size 0 lo:Nat):Int)==0&&(1:Int)==1&&(sIx items.size items.size hi-sIx items.size 0 lo)==items.size)=true):=by intro q;rw[bP,bP] at q;have q1:((sIx items.size 0 lo:Nat):Int)=0:=eq_of_beq q.1.1;have q2:sIx items.size items.size hi-sIx items.size 0 lo=items.size:=eq_of_beq q.2;exact hw ⟨by omega,by omega⟩
 show AK _ _ (if(((sIx items.size 0 lo:Nat):Int)==0&&(1:Int)==1&&(sIx items.size items.size hi-sIx items.size 0 lo)==items.size)=true then _ else _) _ _ s;rw[if_neg hno,aHk]
 first
  |exact AA (m:=Builtin.Tuple.tupleExact _) (AW (AC ⟨_,rfl,AC h⟩) htake)
  |exact AA (m:=Builtin.Tuple.tupleExact _) (AW (AA (AC<|AC ⟨_,rfl,AC h⟩)) htake)
  |exact AA (AA (m:=Builtin.Tuple.tupleExact _)<|AW (AC<|AC ⟨_,rfl,AC h⟩) htake)
  |exact AA (AA (m:=Builtin.Tuple.tupleExact _)<|AW (AC ⟨_,rfl,AC h⟩) htake)
end HT
namespace L2
open PySem PySem.Spec PyProof.Rows
noncomputable abbrev TO:=St->Hp->(Option Int->Hp->Prop)->Prop
def PO(X:Cx)(e:Option Expr)(t:TO):Prop:=
 ∀ (pins:List (BE×BH)) (s:BD) (σ:St) (H:Hp) (Q:Option Int->Hp->Prop),Inv X pins σ H s->t σ H Q->
  AK (AH X.prog X.w) X.A (evalPart e X.env) (λu s'=>∃o H',Inv X pins σ H' s'/\IsPart u o/\Q o H') X.xe s
noncomputable def aKY:TO:=λ_ H Q=>Q none H
noncomputable def aPl(t:TE):TO:=λσ H Q=>t σ H λx H1=>∃i,x=.int i/\Q (some i) H1
variable {X:Cx}{e:Expr}{te:TE}{lo hi:Option Expr}{tl th:TO}{pos p2:Pos}
theorem aKN:PO X none aKY:=by intro pins s σ H Q I h;rw[evalPart_none];exact AC ⟨none,H,I,.none,h⟩
theorem aJQ(h:PE X e te):PO X (some e) (aPl te):=by
 intro pins s σ H Q I hw;rw[evalPart_some];refine thn (h pins s σ H _ I hw) λu s1 ⟨x,H1,I1,r1,q1⟩=> ?_
 obtain⟨i,rfl,q⟩:=q1;obtain⟨t,rfl⟩:=r1;exact⟨some i,H1,I1,.int i t,q⟩
def SlR(X:Cx)(r:V->Option Int->Option Int->Hp->VK->Prop):Prop:=
 ∀ (pins:List (BE×BH)) (s:BD) (σ:St) (H:Hp) (x:V) (v vl vu:BC) (lo hi:Option Int) (sl:BE) (Q:VK),Inv X pins σ H s->RelV x v->s.heap.IsSliceOf sl vl vu .none->IsPart vl lo->IsPart vu hi->r x lo hi H Q->
  ∃T id,typeLookup (.type T) "__getitem__"=pure (some<|.builtin id)/\s.TypeIs v T/\AK (AH X.prog X.w) X.A (getItem v<|.ref sl) (EP X pins σ Q) X.xe s
noncomputable def tSl(r:V->Option Int->Option Int->Hp->VK->Prop)(te:TE)(tl th:TO):TE:=λσ H Q=>te σ H λx H1=>tl σ H1 λl H2=>th σ H2 λu H3=>r x l u H3 Q
theorem wQ{r:V->Option Int->Option Int->Hp->VK->Prop}(hr:SlR X r)(he:PE X e te)(hl:PO X lo tl)(hu:PO X hi th):PE X (.Subscript e (.Slice lo hi none p2) pos) (tSl r te tl th):=by
 intro pins s σ H Q I h;refine Subscript_<|thn (he pins s σ H _ I h) λv s1 ⟨x,H1,I1,r1,q1⟩=> ?_;refine wpAny_Slice<|thn (hl pins s1 σ H1 _ I1 q1) λvl s2 ⟨l,H2,I2,pl,q2⟩=>thn (hu pins s2 σ H2 _ I2 q2) λvu s3 ⟨u,H3,I3,pu,q3⟩=> ?_;rw[evalPart_none];refine AC ?_;have I4:Inv X pins σ H3 {s3 with heap:=s3.heap.push {cls:=.type "slice",data:=.fields #[vl,vu,.none]}}:=I3.kept (t':=s3.toks) λb ob q=>aD _ q
 obtain⟨T,id,hT,ht,hg⟩:=hr pins {s3 with heap:=s3.heap.push {cls:=.type "slice",data:=.fields #[vl,vu,.none]}} σ H3 x v vl vu l u s3.heap.objs.size Q I4 r1 (Heap.IsSliceOf.new ..) pl pu q3;show AK (AH X.prog X.w) X.A (subscriptTail e (.Slice lo hi none p2) v<|.ref s3.heap.objs.size) (EP X pins σ Q) X.xe {s3 with heap:=s3.heap.push {cls:=.type "slice",data:=.fields #[vl,vu,.none]}};exact tail_any (ops:=[.ref s3.heap.objs.size,v]) ht hT hg (by with_unfolding_all rfl)
noncomputable def yB(xs:List V)(lo hi:Option Int):List V:=(xs.drop<|HT.sIx xs.length 0 lo).take<|HT.sIx xs.length xs.length hi-HT.sIx xs.length 0 lo
theorem tV(xs:List V)(lo hi:Option Int):(yB xs lo hi).length<=xs.length:=by unfold yB;rw[cV,fD];omega
def rSlT(K:aA):V->Option Int->Option Int->Hp->VK->Prop:=λx lo hi H Q=>∃a xs,x=.ref a/\SqT K H a xs/\
 ¬ (HT.sIx xs.length 0 lo=0/\HT.sIx xs.length xs.length hi=xs.length)/\∀p,H p=none->Q (.ref p) (upd H p (.tup<|yB xs lo hi))
theorem aNI:SlR X (rSlT X.K):=by
 intro pins s σ H x v vl vu lo hi sl Q I rx hs pl pu h;obtain⟨a,xs,rfl,hx,hw,q⟩:=h;cases rx;obtain⟨its,r,ht,hz⟩:=I.tuple hx;have hlen:its.toArray.size=xs.length:=by rw[bC];exact r.length.symm
 refine⟨"tuple",_,PyProof.Rows.slot_tuple_getitem.lookup,ht.typeIs, ?_⟩;refine HT.getItem_tuple_cut ht hs pl pu (by rw[hlen];exact hw) ?_ (by rw[hlen];exact hz);rw[hlen];refine⟨.ref s.heap.objs.size,_,I.laid (t':=s.toks) (o:=.tup<|yB xs lo hi) (λb ob q=>aD _ q) (aN _) ?_,rfl,q _ (I.hok.fresh<|aN _)⟩;exact⟨cF (tV xs lo hi) hz,_,(r.drop<|HT.sIx xs.length 0 lo).take<|HT.sIx xs.length xs.length hi-HT.sIx xs.length 0 lo,IsTupD.new _ _⟩
noncomputable def aPw(K:aA):R2:=λx y H Q=>∃a b xs ys,x=.ref a/\y=.ref b/\SqT K H a xs/\SqT K H b ys/\xs≠[]/\xs.length+ys.length<=AL/\
 (ys=[]->Q (.ref a) H)/\(ys≠[]->∀p,H p=none->Q (.ref p) (upd H p (.tup<|xs++ys)))
theorem Vals.nil_iff{xs:List V}{us:List BC}(r:Vals xs us):us=[]↔xs=[]:=by
 cases r with
 |nil=>simp
 |cons _ _=>simp
theorem aKH:OpR X (Ak .Add) (aPw X.K):=by intro pins s σ H x y v u Q I rx ry h;obtain⟨a,b,xs,ys,rfl,rfl,ha,hb,hx,hz,q1,q2⟩:=h;cases rx;cases ry;obtain⟨its,r1,p1,_⟩:=I.tuple ha;obtain⟨its2,r2,p2,_⟩:=I.tuple hb;refine HT.cat_tup p1 p2 (λz=>hx<|r1.nil_iff.mp z) (λz=>⟨.ref a,H,I,rfl,q1<|r2.nil_iff.mp z⟩) (λz=> ?_) (by rw[<-r1.length,<-r2.length];exact hz);refine⟨.ref s.heap.objs.size,_,I.laid (t':=s.toks) (o:=.tup<|xs++ys) (λb ob q=>aD _ q) (aN _) ?_,rfl,q2 (λw=>z<|r2.nil_iff.mpr w) _ (I.hok.fresh<|aN _)⟩;exact⟨by rw[aH];exact hz,_,r1.append r2,IsTupD.new _ _⟩
noncomputable def ixN(n:Nat)(i:Int):Option Nat:=if 0<=i then(if i<n then some i.toNat else none) else if -(n:Int)<=i then some (i+n).toNat else none
noncomputable def atI{α:Type}(xs:List α)(i:Int):Option α:=(ixN xs.length i).bind λj=>xs[j]?
theorem aJT{n:Nat}{i:Int}{j:Nat}(h:ixN n i=some j):seqIndex? i n=some j/\j<n/\ -(n:Int)<=i/\i<n:=by
 unfold ixN at h
 by_cases h0:0<=i
 ·rw[if_pos h0] at h
  by_cases h1:i<n
  ·rw[if_pos h1] at h;have e:i.toNat=j:=bZ.inj h;exact⟨by rw[seqIndex_of h0 h1,e],by omega,by omega,h1⟩
  ·rw[if_neg h1] at h;cases h
 ·rw[if_neg h0] at h
  by_cases h1: -(n:Int)<=i
  ·rw[if_pos h1] at h;have e:(i+n).toNat=j:=bZ.inj h;exact⟨by rw[seqIndex_neg (by omega) h1,e],by omega,h1,by omega⟩
  ·rw[if_neg h1] at h;cases h
theorem aDW{α:Type}{xs:List α}{i:Int}{v:α}(h:atI xs i=some v):∃j,seqIndex? i xs.length=some j/\xs[j]? =some v/\j<xs.length/\ -(xs.length:Int)<=i/\i<xs.length:=by
 unfold atI at h;cases e:ixN xs.length i with
 |none=>rw[e] at h;cases h
 |some j=>rw[e] at h;obtain⟨h1,h2,h3,h4⟩:=aJT e;exact⟨j,h1,h,h2,h3,h4⟩
theorem aAB{α:Type}{xs:List α}{j:Nat}{v:α}(h:xs[j]? =some v):atI xs (j:Int)=some v:=by
 have hj:j<xs.length:=(aE.mp h).1
 have e:ixN xs.length (j:Int)=some j:=by unfold ixN;rw[if_pos<|by omega,if_pos<|by omega];simp
 unfold atI;rw[e];exact h
def lZ(b:Expr):Prop:=∀o i,subscripted b false o i=operate [o,i] (getItem o i)
def IxR(X:Cx)(r:R2):Prop:=
 ∀ (value slice:Expr) (pins:List (BE×BH)) (s:BD) (σ:St) (H:Hp) (x y:V) (v u:BC) (Q:VK),Inv X pins σ H s->RelV x v->RelV y u->r x y H Q->
  subscripted slice false v u=operate [v,u] (getItem v u)->AK (AH X.prog X.w) X.A (subscriptTail value slice v u) (EP X pins σ Q) X.xe s
def MtR(X:Cx)(id:String)(r:V->List V->Hp->VK->Prop):Prop:=
 ∀ (pins:List (BE×BH)) (s:BD) (σ:St) (H:Hp) (x:V) (xs:List V) (v:BC) (us:List BC) (Q:VK),Inv X pins σ H s->RelV x v->Vals xs us->r x xs H Q->
  AK (AH X.prog X.w) X.A (call (.builtin id) (v::us)) (EP X pins σ Q) X.xe s
section
variable {X:Cx}{a b:Expr}{ta tb:TE}{pos:Pos}
theorem aGr{r:R2}(hr:IxR X r)(ha:PE X a ta)(hb:PE X b tb)(hs:lZ b):PE X (.Subscript a b pos) (tOp r ta tb):=by intro pins s σ H Q I h;exact Subscript_ (aOA ha hb I h λv u s2 x y H2 I2 rx ry q=>hr a b pins s2 σ H2 x y v u Q I2 rx ry q<|hs _ _)
noncomputable def rIxL(K:aA):R2:=λx y H Q=>∃p xs i v,x=.ref p/\y=.int i/\SqL K H p xs/\atI xs i=some v/\Q v H
noncomputable def rIxT(K:aA):R2:=λx y H Q=>∃p xs i v,x=.ref p/\y=.int i/\SqT K H p xs/\atI xs i=some v/\Q v H
theorem aAx:IxR X (rIxL X.K):=by
 intro value slice pins s σ H x y v u Q I rx ry h hs;obtain⟨p,xs,i,z,rfl,rfl,hq,he,q⟩:=h;cases rx;obtain⟨t,rfl⟩:=ry;obtain⟨its,r,pl,hz⟩:=I.list hq;obtain⟨j,h1,h2,h3,h4,h5⟩:=aDW he;obtain⟨w,ew,rw'⟩:=r.get h2;have hl:=r.length;have hn:=aDs;have fin:EP X pins σ Q w s:=⟨z,H,I,rw',q⟩
 by_cases h0:0<=i
 ·have hj:i.toNat=j:=by rw[seqIndex_of h0 h5] at h1;exact bZ.inj h1
  exact item_listR pl.isList h0 (by omega) (by rw[hj];simpa using ew) fin hs
 ·have hj:(i+(its.toArray.size:Int)).toNat=j:=by rw[seqIndex_neg (by omega) h4] at h1;rw[bC,<-hl];exact bZ.inj h1
  exact subscriptTail_builtinR (x:=w) pl.isList.typeIs slot_list_getitem.lookup
   (wpAny_getItem_list_neg (Q:=λr s'=>r=w/\EP X pins σ Q r s') pl.isList (by omega) (by rw[bC]<;>omega) (by omega) (by rw[hj];simpa using ew) ⟨rfl,fin⟩) hs
theorem aMA:IxR X (rIxT X.K):=by
 intro value slice pins s σ H x y v u Q I rx ry h hs;obtain⟨p,xs,i,z,rfl,rfl,hq,he,q⟩:=h;cases rx;obtain⟨t,rfl⟩:=ry;obtain⟨its,r,pl,hz⟩:=I.tuple hq;obtain⟨j,h1,h2,h3,h4,h5⟩:=aDW he;obtain⟨w,ew,rw'⟩:=r.get h2;have hl:=r.length;have hn:=aDs;have fin:EP X pins σ Q w s:=⟨z,H,I,rw',q⟩
 exact subscriptTail_builtinR (x:=w) pl.typeIs slot_tuple_getitem.lookup
  (getItem_tuple (j:=j) (Q:=λr s'=>r=w/\EP X pins σ Q r s') pl (by omega) (by omega) (by rw[bC,<-hl];exact h1) (by simpa using ew) ⟨rfl,fin⟩) hs
theorem aAe(lo hi:Option Int)(n:Nat):(sliceBounds lo hi none n).1=((HT.sIx n 0 lo:Nat):Int)/\(sliceBounds lo hi none n).2.1=((HT.sIx n n hi:Nat):Int)/\(sliceBounds lo hi none n).2.2=1:=by
 refine⟨?_, ?_,rfl⟩
 ·cases lo with
  |none=>simp[sliceBounds,HT.sIx]
  |some i=>
   simp only[sliceBounds,HT.sIx,aHX,show(1:Int)>0 by decide,if_true]
   by_cases h:i<0
   ·simp only[h,if_true]<;>omega
   ·simp only[h,if_false]<;>omega
 ·cases hi with
  |none=>simp[sliceBounds,HT.sIx]
  |some i=>
   simp only[sliceBounds,HT.sIx,aHX,show(1:Int)>0 by decide,if_true]
   by_cases h:i<0
   ·simp only[h,if_true]<;>omega
   ·simp only[h,if_false]<;>omega
theorem xZ(its:List BC)(lo hi:Option Int):slicePick its.toArray lo hi none=((its.drop<|HT.sIx its.length 0 lo).take<|HT.sIx its.length its.length hi-HT.sIx its.length 0 lo).toArray:=by obtain⟨h1,h2,h3⟩:=aAe lo hi its.toArray.size;unfold slicePick;rw[h1,h2,h3];simp only[sliceRange_one,pick_run,bC]<;>rfl
def rSlL(K:aA):V->Option Int->Option Int->Hp->VK->Prop:=λx lo hi H Q=>∃a xs,x=.ref a/\SqL K H a xs/\∀p,H p=none->Q (.ref p) (upd H p (.lst<|yB xs lo hi))
theorem aLj:SlR X (rSlL X.K):=by intro pins s σ H x v vl vu lo hi sl Q I rx hs pl pu h;obtain⟨a,xs,rfl,hx,q⟩:=h;cases rx;obtain⟨its,r,ht,hz⟩:=I.list hx;have hlen:=r.length;refine⟨"list",_,slot_list_getitem.lookup,ht.isList.typeIs, ?_⟩;refine wpAny_getItem_list_slice ht.isList hs pl pu .none (by simp) ?_ (by rw[bC]<;>omega);rw[xZ,<-hlen];refine⟨.ref s.heap.objs.size,_,I.laid (t':=s.toks) (o:=.lst<|yB xs lo hi) (λb ob q=>aD _ q) (aN _) ?_,rfl,q _ (I.hok.fresh<|aN _)⟩;exact⟨cF (tV xs lo hi) hz,_,0,(r.drop<|HT.sIx xs.length 0 lo).take<|HT.sIx xs.length xs.length hi-HT.sIx xs.length 0 lo,bL _ rfl⟩
noncomputable def oH:V->Bool
 |.non=>true
 |.bl _=>true
 |.int _=>true
 |.str _=>true
 |_=>false
noncomputable def eqV:V->V->Bool
 |.non,.non=>true
 |.bl a,.bl b=>a==b
 |.bl a,.int b=>(if a then 1 else 0)==b
 |.int a,.bl b=>a==(if b then 1 else 0)
 |.int a,.int b=>a==b
 |.str a,.str b=>a==b
 |_,_=>false
theorem wU{A:BF}{s:BD}{y x:V}{u v:BC}(ry:RelV y u)(rx:RelV x v)(fy:oH y=true)(fx:oH x=true):SeqAt.EqAt A s u v (eqV y x):=by
 cases y with
 |non=>
  cases ry;cases x with
  |non=>cases rx;exact SeqAt.EqAt.same _
  |bl b=>cases rx;exact SeqAt.EqAt.none_bool b
  |int b=>obtain⟨t,rfl⟩:=rx;exact SeqAt.EqAt.none_int b t
  |str b=>obtain⟨t,rfl⟩:=rx;exact SeqAt.EqAt.none_str b t
  |_=>exact absurd (show false=true from fx) bE
 |bl a=>
  cases ry;cases x with
  |non=>cases rx;exact SeqAt.EqAt.bool_none a
  |bl b=>cases rx;exact SeqAt.EqAt.bool_bool a b
  |int b=>obtain⟨t,rfl⟩:=rx;exact SeqAt.EqAt.bool_int a b t
  |str b=>obtain⟨t,rfl⟩:=rx;exact SeqAt.EqAt.bool_str a b t
  |_=>exact absurd (show false=true from fx) bE
 |int a=>
  obtain⟨t',rfl⟩:=ry;cases x with
  |non=>cases rx;exact SeqAt.EqAt.int_none a t'
  |bl b=>cases rx;exact SeqAt.EqAt.int_bool a t' b
  |int b=>obtain⟨t,rfl⟩:=rx;exact SeqAt.EqAt.int_int a t' b t
  |str b=>obtain⟨t,rfl⟩:=rx;exact SeqAt.EqAt.int_str a t' b t
  |_=>exact absurd (show false=true from fx) bE
 |str a=>
  obtain⟨t',rfl⟩:=ry;cases x with
  |non=>cases rx;exact SeqAt.EqAt.str_none a t'
  |bl b=>cases rx;exact SeqAt.EqAt.str_bool a t' b
  |int b=>obtain⟨t,rfl⟩:=rx;exact SeqAt.EqAt.str_int a t' b t
  |str b=>obtain⟨t,rfl⟩:=rx;exact SeqAt.EqAt.str_str a t' b t
  |_=>exact absurd (show false=true from fx) bE
 |_=>exact absurd (show false=true from fy) bE
noncomputable def eqU(x:V)(u:BC):Bool:=match u with
 |.none=>eqV .non x
 |.bool b=>eqV (.bl b) x
 |.int i _=>eqV (.int i) x
 |.str z _=>eqV (.str z) x
 |_=>false
theorem aId{x y:V}{u:BC}(r:RelV y u)(f:oH y=true):eqU x u=eqV y x:=by
 cases y with
 |non=>cases r;rfl
 |bl b=>cases r;rfl
 |int i=>obtain⟨t,rfl⟩:=r;rfl
 |str z=>obtain⟨t,rfl⟩:=r;rfl
 |_=>exact absurd (show false=true from f) bE
theorem aAw{x:V}:∀ {xs:List V}{us:List BC},Vals xs us->xs.all oH=true->us.any (eqU x)=xs.any λy=>eqV y x
 |_,_,.nil,_=>rfl
 |y::xs,u::us,.cons r t,f=>by rw[aOp,bP] at f;rw[kX,kX,aId r f.1,aAw t f.2]
theorem vJ{A:BF}{s:BD}{x:V}{v:BC}(rx:RelV x v)(fx:oH x=true):∀ {xs:List V}{us:List BC},Vals xs us->xs.all oH=true->∀u∈us,SeqAt.EqAt A s u v (eqU x u)
 |_,_,.nil,_=>λu hu=>by cases hu
 |y::xs,u::us,.cons r t,f=>λu' hu=>by
  rw[aOp,bP] at f
  rcases bD.mp hu with rfl|hu
  ·rw[aId r f.1];exact wU r rx f.1 fx
  ·exact vJ rx fx t f.2 u' hu
noncomputable def inV(x:V)(xs:List V):Bool:=xs.any λy=>eqV y x
noncomputable def rIn(K:aA)(neg:Bool):R2:=λx y H Q=>∃p xs,y=.ref p/\(SqL K H p xs\/SqT K H p xs)/\oH x=true/\xs.all oH=true/\Q (.bl (if neg then !inV x xs else inV x xs)) H
theorem aFw:OpR X (AY .In) (rIn X.K false):=by
 intro pins s σ H x y v u Q I rx ry h;obtain⟨p,xs,rfl,hq,fx,fs,q⟩:=h;cases ry
 rcases hq with hq|hq
 ·obtain⟨its,r,pl,hz⟩:=I.list hq;refine SeqAt.in_listAt (eqU x) pl.isList (λw hw=>vJ rx fx r fs w<|by simpa using hw) ⟨.bl _,H,I,rfl, ?_⟩;rw[show its.toArray.any (eqU x)=its.any (eqU x) by simp,aAw r fs];exact q
 ·obtain⟨its,r,pl,hz⟩:=I.tuple hq;refine SeqAt.in_tupleAt (eqU x) pl (λw hw=>vJ rx fx r fs w<|by simpa using hw) ⟨.bl _,H,I,rfl, ?_⟩;rw[show its.toArray.any (eqU x)=its.any (eqU x) by simp,aAw r fs];exact q
theorem nJ:mG X (.builtin "len") (λxs H Q=>∃p ys,xs=[.ref p]/\(SqL X.K H p ys\/SqT X.K H p ys)/\Q (.int ys.length) H):=by
 intro pins s σ H xs us Q I r h;obtain⟨p,ys,rfl,hq,q⟩:=h;obtain⟨u,rfl,rx⟩:=qI r;cases rx;have hn:=aDs
 rcases hq with hq|hq
 ·obtain⟨its,r',pl,hz⟩:=I.list hq;have hlen:=r'.length;exact Calls.call_len_list pl.isList (by simp only[bC]<;>omega) ⟨.int ys.length,H,I.tok _,⟨s.toks+1,by rw[bC,hlen]⟩,q⟩
 ·obtain⟨its,r',pl,hz⟩:=I.tuple hq;have hlen:=r'.length;exact len_tuple pl (by simp only[bC]<;>omega) ⟨.int ys.length,H,I.tok _,⟨s.toks+1,by rw[bC,hlen]⟩,q⟩
theorem aAb:mG X (.type "list") (λxs H Q=>∃p ys,xs=[.ref p]/\(SqL X.K H p ys\/SqT X.K H p ys)/\∀l,H l=none->Q (.ref l) (upd H l<|.lst ys)):=by
 intro pins s σ H xs us Q I r h;obtain⟨p,ys,rfl,hq,q⟩:=h;obtain⟨u,rfl,rx⟩:=qI r;cases rx
 have fin:∀ (its:List BC),Vals ys its->ys.length<=AL->∀ (h':BG) (c':Nat),(∀b o',s.heap.get? b=some o'->h'.get? b=some o')->
   h'.get? s.heap.objs.size=some {cls:=.type "list",dict:=none,data:=.seq its.toArray c',slots:= #[]}->EP X pins σ Q (.ref s.heap.objs.size) {s with heap:=h'}:=λits r' hz h' c' kp e=>
  ⟨.ref s.heap.objs.size,_,I.laid (t':=s.toks) kp (aN _) (show ObjOk X.prog X.w _ h' _ (.lst ys) from⟨hz,its,c',r',e⟩),rfl,q _ (I.hok.fresh<|aN _)⟩
 rcases hq with hq|hq
 ·obtain⟨its,r',pl,hz⟩:=I.list hq;have hlen:=r'.length;obtain⟨o,ho,hc,n,hd⟩:=pl.isList;exact call_list_seq p (.inl rfl) ho hc hd (λh' c' kp e=>fin its r' hz h' c' kp e) (by simp only[bC]<;>omega)
 ·obtain⟨its,r',pl,hz⟩:=I.tuple hq;have hlen:=r'.length;obtain⟨o,ho,hc,n,hd⟩:=pl;exact call_list_seq p (.inr rfl) ho hc hd (λh' c' kp e=>fin its r' hz h' c' kp e) (by simp only[bC]<;>omega)
theorem yD:mG X (.type "tuple") (λxs H Q=>∃p ys,xs=[.ref p]/\((SqL X.K H p ys/\∀l,H l=none->Q (.ref l) (upd H l<|.tup ys))\/(SqT X.K H p ys/\Q (.ref p) H))):=by
 intro pins s σ H xs us Q I r h;obtain⟨p,ys,rfl,h⟩:=h;obtain⟨u,rfl,rx⟩:=qI r;cases rx
 rcases h with⟨hq,q⟩|⟨hq,q⟩
 ·obtain⟨its,r',pl,hz⟩:=I.list hq;have hlen:=r'.length;refine call_tuple_list pl.isList (λh' kp=> ?_) (by simp only[bC]<;>omega);have I1:Inv X pins σ H {s with heap:=h'}:=I.kept (t':=s.toks) kp
  have I2:Inv X pins σ (upd H h'.objs.size<|.tup ys) {s with heap:=h'.push {cls:=.type "tuple",data:=.seq its.toArray}}:=
   I1.laid (t':=s.toks) (λb o e=>aD _ e) (aN _) (show ObjOk X.prog X.w _ _ _ (.tup ys) from⟨hz,its,r',IsTupD.new _ _⟩)
  exact⟨.ref h'.objs.size,_,I2,rfl,q _ (I1.hok.fresh<|aN _)⟩
 ·obtain⟨its,r',pl,hz⟩:=I.tuple hq;exact call_tuple_same pl ⟨.ref p,H,I,rfl,q⟩
def tyV(K:aA)(T:String)(x:V)(H:Hp):Prop:=match x with
 |.str _=>T="str"
 |.int _=>T="int"
 |.ref p=>(T="list"/\∃xs,SqL K H p xs)\/(T="tuple"/\∃o,K.lookup p=some o/\o.cls=.type "tuple"/\o.dict=none)\/
   (T="dict"/\((∃kvs,H p=some (.dK kvs))\/∃kvs,H p=some (.dT kvs)))\/(T="set"/\∃S n,H p=some (.set S n))
 |_=>False
theorem aNy{pins:List (BE×BH)}{σ:St}{H:Hp}{s:BD}{T:String}{x:V}{v:BC}(I:Inv X pins σ H s)(r:RelV x v)(ty:tyV X.K T x H):
  s.TypeIs v T/\∀a,v=.ref a->∃ob,s.heap.get? a=some ob/\ob.dict=none:=by
 cases x with
 |str z=>obtain⟨t,rfl⟩:=r;cases(show T="str" from ty);exact⟨typeIs_str s z t,λ_ e=>nomatch e⟩
 |int i=>obtain⟨t,rfl⟩:=r;cases(show T="int" from ty);exact⟨typeIs_int s i t,λ_ e=>nomatch e⟩
 |ref p=>
  cases r
  rcases ty with⟨rfl,xs,hq⟩|⟨rfl,o,hk,hc,hd⟩|⟨rfl,hk⟩|⟨rfl,S,n,hk⟩
  ·obtain⟨its,_,pl,_⟩:=I.list hq;refine⟨pl.isList.typeIs,λa e=> ?_⟩;cases e;obtain⟨o,n,e,c,hd,_⟩:=pl;exact⟨o,e,hd⟩
  ·refine⟨⟨o,I.kIn p o hk,hc⟩,λa e=> ?_⟩;cases e;exact⟨o,I.kIn _ o hk,hd⟩
  ·have z:∃o,s.heap.get? p=some o/\o.ExactDict:=by
    rcases hk with⟨kvs,hk⟩|⟨kvs,hk⟩
    ·obtain⟨_,_,_,_,o,_,_,e,ex,_⟩:=I.hok p _ hk;exact⟨o,e,ex⟩
    ·obtain⟨_,_,_,_,o,_,_,e,ex,_⟩:=I.hok p _ hk;exact⟨o,e,ex⟩
   obtain⟨o,e,ex⟩:=z;refine⟨⟨o,e,ex.1⟩,λa e2=> ?_⟩;cases e2;exact⟨o,e,ex.2.1⟩
  ·obtain⟨o,_,_,_,e,ex,_⟩:=I.hok p _ hk;refine⟨⟨o,e,ex.1⟩,λa e2=> ?_⟩;cases e2;exact⟨o,e,ex.2.1⟩
 |_=>exact False.elim ty
noncomputable def tBM(K:aA)(T:String)(r:V->List V->Hp->VK->Prop)(to:TE)(t:TA):TE:=λσ H Q=>to σ H λx H1=>tyV K T x H1/\t σ H1 λxs H2=>r x xs H2 Q
variable {o e:Expr}{es:List Expr}{to:TE}{t:TA}{name:Str}{apos cpos:Pos}{T id:String}{r:V->List V->Hp->VK->Prop}
theorem aJH(pa:PlainAttrs T)(slot:Slot T name id)(hty:typeOf (.builtin id)=pure (.type "method_descriptor"))(hm:MtR X id r)(ho:PE X o to)(ha:PA X (e::es) t)
  (hbase:Af o name X.env (eval o X.env)=eval o X.env:=by rfl)
  (hfew:((AX cpos (AB (e::es) X.env)).all (fun x=> !x.1) && (backToKw cpos (keywordEach [] X.env)).all (fun x=>x.1.isSome)
  &&decide ((e::es).length+([]:List Keyword).length+(if([]:List Keyword).isEmpty then 0 else 1)<30))=true:=by rfl)
  (hline:(apos.endLine==cpos.line)=true:=by rfl) (hs:AB (e::es) X.env=(false,eval e X.env)::AB es X.env:=by rfl) (hplain:(AX cpos<|AB es X.env).any (·.1)=false:=by rfl):
  PE X (.Call (.Attribute o name apos) (e::es) [] cpos) (tBM X.K T r to t):=by
 intro pins s σ H Q I h;refine wpAny_Call_method_late hbase hfew hline rfl<|thn (ho pins s σ H _ I h) λv s1 ⟨x,H1,I1,r1,ty,q1⟩=> ?_;obtain⟨h1,h2⟩:=aNy I1 r1 ty;refine⟨T,id,pa,slot,hty,h1,h2, ?_⟩;have hA:=ha cpos pins s1 σ H1 _ I1 q1;rw[hs] at hA ⊢;refine Calls.callWith_builtin (by show(false||(AX cpos<|AB es X.env).any (·.1))=false;rw[hplain]<;>rfl)<|Calls.evalArgs_plain ?_;exact thn hA λus s2 ⟨vs,H2,I2,r2,q2⟩=>hm pins s2 σ H2 x vs v us Q I2 r1 r2 q2
/- xs.append(e),list.index on a module's tuple .. are MtR facts of 06m -/
end
def MtM(X:Cx)(id:String)(r:V->List V->Hp->VK->Prop):Prop:=
 ∀ (pins:List (BE×BH)) (s:BD) (σ:St) (H:Hp) (x:V) (xs:List V) (v:BC) (us:List BC) (Q:VK),Inv X pins σ H s->RelV x v->Vals xs us->r x xs H Q->
  AK (AH X.prog X.w) X.A (call (.builtin id) (v::us)) (EP X pins σ Q) X.xe s
theorem Vals.one:∀ {x:V}{us:List BC},Vals [x] us->∃u,us=[u]/\RelV x u
 |_,_,.cons r .nil=>⟨_,rfl,r⟩
theorem Vals.rep{xs:List V}{us:List BC}(h:Vals xs us):∀k:Nat,Vals (bG k xs).flatten (bG k us).flatten
 |0=>.nil
 |k+1=>by rw[eC,eC,gI,gI];exact Vals.append h<|Vals.rep h k
theorem yT(its:List BC):∀ (k:Nat) (acc:List BC),
  aJa (λx1 x2=>x1++x2) acc.toArray (bG k its.toArray)=(acc++(bG k its).flatten).toArray
 |0,acc=>by simp
 |k+1,acc=>by
  have e:acc.toArray++its.toArray=(acc++its).toArray:=by simp
  have e2:(acc++its)++(bG k its).flatten=acc++(bG (k+1) its).flatten:=by rw[eC,gI,dM]
  rw[<-e2,<-yT its k (acc++its),<-e,eC,aLI]
variable {pins:List (BE×BH)}{σ:St}{H:Hp}{s:BD}{l b:BE}{xs ys zs:List V}
theorem Inv.lset{its its':List BC}{n:Nat}{f:Array BC->Array BC}{t':Nat}(I:Inv X pins σ H s)(hH:H l=some (.lst xs))
  (e:s.heap.get? l=some {cls:=.type "list",data:=.seq its.toArray n}) (hf:f its.toArray=its'.toArray) (hv:Vals ys its') (hz:ys.length<=AL):
  Inv X pins σ (upd H l<|.lst ys) {s with heap:=s.heap.update l<|Obj.mapSeq f,toks:=t'}:=by
 have q:=PySem.IsL.update e f;rw[hf] at q;refine I.write (x:=l) (e:=l) (by rw[hH];exact trivial) (.inl rfl) (λb' u hb hu=>(cU s.heap (Obj.mapSeq f)<|Ne.symm hb).trans hu) ⟨_,q⟩ ?_;exact⟨hz,its',_,hv,q⟩
theorem Inv.lnew{its:List BC}{t':Nat}(I:Inv X pins σ H s)(hv:Vals ys its)(hz:ys.length<=AL):
  Inv X pins σ (upd H s.heap.objs.size<|.lst ys) {s with heap:=s.heap.push {cls:=.type "list",data:=.seq its.toArray},toks:=t'}:=
 I.laid (λ_ _ q=>aD _ q) (aN _) ⟨hz,its,0,hv,bL _ rfl⟩
theorem Inv.fresh(I:Inv X pins σ H s):H s.heap.objs.size=none:=I.hok.fresh<|aN _
theorem Inv.lstM(I:Inv X pins σ H s)(hH:H l=some (.lst xs)):xs.length<=AL/\∃ (its:List BC) (n:Nat),Vals xs its/\xs.length=its.length/\s.heap.get? l=some {cls:=.type "list",data:=.seq its.toArray n}:=by obtain⟨z,its,n,r,e⟩:=I.hok l _ hH;exact⟨z,its,n,r,r.length,e⟩
theorem aBw{n:Nat}(h:n<=AL):Builtin.List.listTooLong n=false:=by unfold Builtin.List.listTooLong;exact decide_eq_false<|by omega
def uS:V->List V->Hp->VK->Prop:=λx vs H Q=>∃l xs y,x=.ref l/\vs=[y]/\H l=some (.lst xs)/\xs.length<AL/\Q .non (upd H l (.lst<|xs++[y]))
theorem zQ:MtM X "list.append" uS:=by intro pins s σ H x vs v us Q I rx rv h;obtain⟨l,xs,y,rfl,rfl,hH,hz,q⟩:=h;cases rx;obtain⟨u,rfl,ru⟩:=rv.one;obtain⟨z,its,n,r,hl,e⟩:=I.lstM hH;refine call_meets F.slot_list_append ⟨_,e,rfl⟩ F.entry_list_append (F.args_list_append_2 _ _) (PySem.list_append l its.toArray n u<|by rw[bC];omega) ⟨e, ?_⟩;refine⟨.non,_,I.lset (its':=its++[u]) hH e (by simp) (r.append<|.cons ru .nil) ?_,rfl,q⟩;rw[aH,List.length_singleton];omega
def aEd:V->List V->Hp->VK->Prop:=λx vs H Q=>∃l b xs zs,x=.ref l/\vs=[.ref b]/\H l=some (.lst xs)/\H b=some (.lst zs)/\xs.length+zs.length<=AL/\Q .non (upd H l (.lst<|xs++zs))
theorem aEQ:MtM X "list.extend" aEd:=by
 intro pins s σ H x vs v us Q I rx rv h;obtain⟨l,b,xs,zs,rfl,rfl,hH,hB,hz,q⟩:=h;cases rx;obtain⟨u,rfl,ru⟩:=rv.one;cases ru;obtain⟨z,its,n,r,hl,e⟩:=I.lstM hH;obtain⟨z2,its2,n2,r2,hl2,e2⟩:=I.lstM hB;have hsz:its.toArray.size+its2.toArray.size<=AL:=by rw[bC,bC];omega
 have hlong:¬ (!its.toArray.isEmpty&&Builtin.List.listTooLong (its.toArray.size+its2.toArray.size))=true:=by rw[aBw hsz,Bool.and_false];exact bE
 refine call_meets F.slot_list_extend ⟨_,e,rfl⟩ F.entry_list_extend (F.args_list_extend_2 _ _)
  (AutoSeq1.list_extend_list_list_0 l its.toArray n b its2.toArray n2 hlong (by rw[bC];omega)<|by omega) ⟨e,e2, ?_⟩
 refine⟨.non,_,I.lset (its':=its++its2) hH e (by simp) (r.append r2) ?_,rfl,q⟩;rw[aH];omega
noncomputable def rCat:R2:=λx y H Q=>∃l b xs zs,x=.ref l/\y=.ref b/\H l=some (.lst xs)/\H b=some (.lst zs)/\xs.length+zs.length<=AL/\∀p,H p=none->Q (.ref p) (upd H p (.lst<|xs++zs))
theorem aNV:OpR X (Ak .Add) rCat:=by
 intro pins s σ H x y v u Q I rx ry h;obtain⟨l,b,xs,zs,rfl,rfl,hH,hB,hz,q⟩:=h;cases rx;cases ry;obtain⟨z,its,n,r,hl,e⟩:=I.lstM hH;obtain⟨z2,its2,n2,r2,hl2,e2⟩:=I.lstM hB;refine PySem.P.add_list e e2 ?_ (by rw[bC,bC];omega);have ea:its.toArray++its2.toArray=(its++its2).toArray:=by simp
 rw[ea];exact⟨.ref _,_,I.lnew (t':=s.toks) (r.append r2) (by rw[aH];omega),rfl,q _ I.fresh⟩
noncomputable def rRep:R2:=λx y H Q=>∃l k xs,x=.ref l/\y=.int k/\H l=some (.lst xs)/\ -(2^63)<=k/\k<2^63/\xs.length*k.toNat<=AL/\
 ∀p,H p=none->Q (.ref p) (upd H p<|.lst (bG k.toNat xs).flatten)
theorem aKo{α:Type}(xs:List α)(k:Nat):(bG k xs).flatten.length=k*xs.length:=by
 induction k with
 |zero=>simp
 |succ k ih=>rw[eC,gI,aH,ih,aFY,aQn]
theorem aNO:OpR X (Ak .Mult) rRep:=by
 intro pins s σ H x y v u Q I rx ry h;obtain⟨l,k,xs,rfl,rfl,hH,h1,h2,hz,q⟩:=h;cases rx;obtain⟨t,rfl⟩:=ry;obtain⟨z,its,n,r,hl,e⟩:=I.lstM hH;have hlen:its.toArray.size*k.toNat<=AL:=by rw[bC,<-hl];exact hz
 have hcap:¬ its.toArray.size*k.toNat>(2^63-1) / 8:=by
  have:(AL:Nat)<=(2^63-1) / 8:=by decide
  omega
 have hfit:¬ (!Builtin.List.listFitsIndex k)=true:=by rw[fitsIndex_both h1 h2];exact bE
 have hlong:¬ Builtin.List.listTooLong (its.toArray.size*k.toNat)=true:=by rw[aBw hlen];exact bE
 have hnew:aJa (λx1 x2=>x1++x2) #[] (bG (if its.toArray.isEmpty=true then 0 else k.toNat) its.toArray)=(bG k.toNat its).flatten.toArray:=by
  have f0:∀m:Nat,aJa (λx1 x2=>x1++x2) #[] (bG m its.toArray)=(bG m its).flatten.toArray:=λm=>by have:=yT its m [];rw[pC] at this;exact this
  rw[f0];cases its with
  |nil=>simp
  |cons a r'=>rw[if_neg<|by simp]
 refine wpAny_binaryOp_repeat_ref (T:="list") (U:="int") (by decide) ⟨_,e,rfl⟩ (λs'=>typeIs_int s' k t) noFill_list_mul F.fills_int_mul F.slot_int_rmul repeat_list F.slot_int_index.lookup
  (call_meets F.slot_int_rmul (typeIs_int s k t) F.entry_int_rmul (F.args_int_rmul_2 _ _) (int___rmul___int_list k t l its.toArray n)
   ⟨e,rfl,⟨_,e,rfl⟩,call_meets F.slot_list_mul ⟨_,e,rfl⟩ F.entry_list_mul (F.args_list_mul_2 _ _) (AutoListH.list___mul___list_int_3 l its.toArray n k t hfit hcap hlong) ⟨e, ?_⟩⟩)
 rw[hnew];exact⟨.ref _,_,I.lnew (t':=s.toks) (r.rep k.toNat) (by rw[aKo,Nat.mul_comm];exact hz),rfl,q _ I.fresh⟩
section
variable {prog:AE}{w:AM}{A:BF}{E:BC->BD->Prop}{s:BD}
set_option maxRecDepth 100000 in
end
section
variable {κ:Type}[DecidableEq κ]
noncomputable def iX(kvs:List (κ×V))(k:κ):Option V:=(kvs.find? λkv=>decide<|kv.1=k).map (·.2)
noncomputable def rG(kvs:List (κ×V))(k:κ)(v:V):List (κ×V):=
 if(kvs.any λkv=>decide<|kv.1=k)=true then kvs.map (λkv=>if kv.1=k then(kv.1,v) else kv) else kvs++[(k,v)]
theorem jT{p:κ×V}{r:List (κ×V)}{k:κ}(e:p.1=k):iX (p::r) k=some p.2:=by simp[iX,gG,e]
theorem gU{p:κ×V}{r:List (κ×V)}{k:κ}(e:¬ p.1=k):iX (p::r) k=iX r k:=by simp[iX,gG,e]
theorem vE(k:κ):∀kvs:List (κ×V),(kvs.any λkv=>decide<|kv.1=k)=(iX kvs k).isSome
 |[]=>rfl
 |p::r=>by
  rw[kX]
  by_cases e:p.1=k
  ·simp only[jT e,decide_eq_true e,Bool.true_or,Option.isSome_some]
  ·rw[gU e,decide_eq_false e,Bool.false_or];exact vE k r
theorem tS(kvs:List (κ×V))(k:κ)(v:V):(rG kvs k v).length<=kvs.length+1:=by
 unfold rG
 split
 ·rw[aC];omega
 ·rw[aH,bF,gH];omega
theorem rY{kvs:List (κ×V)}{k:κ}(v:V)(h:iX kvs k=none):rG kvs k v=kvs++[(k,v)]:=by unfold rG;rw[vE,h];exact if_neg<|by decide
theorem RelO.isSome_eq{o:Option V}{u:Option BC}(r:RelO o u):o.isSome=u.isSome:=by
 cases o with
 |none=>cases u with
  |none=>rfl
  |some _=>exact(show False from r).elim
 |some _=>cases u with
  |none=>exact(show False from r).elim
  |some _=>rfl
theorem KV.val{kvs:List (κ×V)}{vs:List (κ×BC)}(r:KV kvs vs)(k:κ):RelO (iX kvs k) (valueAt vs k):=by
 unfold KV at r
 induction r with
 |nil=>exact True.intro
 |@cons p q ps qs h t ih=>
  obtain⟨h1,h2⟩:=h
  by_cases e:p.1=k
  ·have e':q.1=k:=h1.symm.trans e;have b:valueAt (q::qs) k=some q.2:=by simp[valueAt,gG,e']
   rw[jT e,b];exact h2
  ·have e':¬ q.1=k:=λz=>e (h1.trans z)
   have b:valueAt (q::qs) k=valueAt qs k:=by simp[valueAt,gG,e']
   rw[gU e,b];exact ih
theorem KV.any{kvs:List (κ×V)}{vs:List (κ×BC)}(r:KV kvs vs)(k:κ):(kvs.any λkv=>decide<|kv.1=k)=vs.any λkv=>decide (kv.1=k):=by
 unfold KV at r
 induction r with
 |nil=>rfl
 |cons h t ih=>rw[kX,kX,ih,h.1]
theorem KV.repl{kvs:List (κ×V)}{vs:List (κ×BC)}(r:KV kvs vs)(k:κ){y:V}{u:BC}(ry:RelV y u):
  KV (kvs.map λkv=>if kv.1=k then(kv.1,y) else kv) (vs.map λkv=>if kv.1=k then(kv.1,u) else kv):=by
 unfold KV at r ⊢
 induction r with
 |nil=>exact .nil
 |@cons p q ps qs h t ih=>
  rw[aZ,aZ];refine .cons ?_ ih;obtain⟨h1,h2⟩:=h
  by_cases e:p.1=k
  ·rw[if_pos e,if_pos<|h1.symm.trans e];exact⟨h1,ry⟩
  ·rw[if_neg e,if_neg (λz=>e<|h1.trans z)];exact⟨h1,h2⟩
theorem KV.put{kvs:List (κ×V)}{vs:List (κ×BC)}(r:KV kvs vs)(k:κ){y:V}{u:BC}(ry:RelV y u):KV (rG kvs k y) (stored vs k u):=by
 unfold rG stored;rw[r.any k]
 by_cases e:(vs.any λkv=>decide<|kv.1=k)=true
 ·rw[if_pos e,if_pos e];exact r.repl k ry
 ·rw[if_neg e,if_neg e];exact Paired.snoc r ⟨rfl,ry⟩
theorem KV.length{kvs:List (κ×V)}{vs:List (κ×BC)}(r:KV kvs vs):kvs.length=vs.length:=Paired.length r
end
theorem aGj{P:AE}{w:AM}{k:Key}{u:BC}(r:RelV (kV k) u):(eI P w).is k u=true:=by
 cases k with
 |inl i=>obtain⟨t,e⟩:=(show ∃t,u=Value.int i t from r);subst e;exact aAW P w i t
 |inr x=>obtain⟨t,e⟩:=(show ∃t,u=Value.str x t from r);subst e;exact aAV P w x t
theorem yR{P:AE}{w:AM}:∀ {ks:List Key}{us:List BC},Vals (ks.map kV) us->ItemsAre (eI P w) ks us
 |[],_,r=>by rw[eO] at r;cases r;exact .nil
 |k::ks,_,r=>by
  rw[aZ] at r;cases r with
  |cons h t=>exact .cons (aGj h)<|yR t
abbrev KT(H:Hp):List (List Key×V)->List (List Key×BE×BC)->Prop:=Paired λp q=>p.1=q.1/\H q.2.1=some (.tup<|p.1.map kV)/\RelV p.2 q.2.2
theorem KT.val{kvs:List (List Key×V)}{xs:List (List Key×BE×BC)}(r:KT H kvs xs)(k:List Key):RelO (iX kvs k) ((atKey xs k).map (·.2)):=by
 induction r with
 |nil=>exact True.intro
 |@cons p q ps qs h t ih=>
  obtain⟨h1,_,h2⟩:=h
  by_cases e:p.1=k
  ·have e':q.1=k:=h1.symm.trans e;have b:atKey (q::qs) k=some q.2:=by simp[atKey,gG,e']
   rw[jT e,b];exact h2
  ·have e':¬ q.1=k:=λz=>e (h1.trans z)
   have b:atKey (q::qs) k=atKey qs k:=by simp[atKey,gG,e']
   rw[gU e,b];exact ih
theorem KT.repl{kvs:List (List Key×V)}{xs:List (List Key×BE×BC)}(r:KT H kvs xs)(k:List Key){y:V}{u:BC}(ry:RelV y u):
  KT H (kvs.map λkv=>if kv.1=k then(kv.1,y) else kv) (xs.map<|putAt k u):=by
 induction r with
 |nil=>exact .nil
 |@cons p q ps qs h t ih=>
  rw[aZ,aZ];refine .cons ?_ ih;obtain⟨h1,h2,h3⟩:=h;unfold putAt
  by_cases e:p.1=k
  ·rw[if_pos e,if_pos<|h1.symm.trans e];exact⟨h1,h2,ry⟩
  ·rw[if_neg e,if_neg (λz=>e<|h1.trans z)];exact⟨h1,h2,h3⟩
theorem KT.put{kvs:List (List Key×V)}{xs:List (List Key×BE×BC)}(r:KT H kvs xs)(k:List Key){y:V}{u:BC}(hb:H b=some (.tup<|k.map kV))(ry:RelV y u):
  KT H (rG kvs k y) (storedH xs k b u):=by
 have e:(kvs.any λkv=>decide<|kv.1=k)=(atKey xs k).isSome:=by rw[vE,(r.val k).isSome_eq,sQ]
 unfold rG storedH;rw[e]
 by_cases q:(atKey xs k).isSome=true
 ·rw[if_pos q,if_pos q];exact r.repl k ry
 ·rw[if_neg q,if_neg q];exact Paired.snoc r ⟨rfl,hb,ry⟩
theorem KT.keeps{H':Hp}{kvs:List (List Key×V)}{xs:List (List Key×BE×BC)}(r:KT H kvs xs)(ht:∀b ys,H b=some (.tup ys)->H' b=some (.tup ys)):KT H' kvs xs:=
 Paired.mapP r λ_ _ z=>⟨z.1,ht _ _ z.2.1,z.2.2⟩
variable {P:AE}{w:AM}{h:BG}{a:BE}
theorem aMk{u:HO}(ok:HOk P w H h)(e:Rd H a u):ObjOk P w H h a u:=e.ok ok
theorem aGn{kvs:List (Key×V)}(ok:HOk P w H h)(e:Rd H a (.dK kvs)):kvs.length<=AL/\(a==AZ)=false/\∃vs,KV kvs vs/\h.DictOf (eI P w) a vs:=
 show ObjOk P w H h a (.dK kvs) from aMk ok e
theorem aPs{kvs:List (Key×V)}(ok:HOk P w H h)(e:H a=some (.dK kvs)):kvs.length<=AL/\(a==AZ)=false/\∃vs,KV kvs vs/\h.DictOf (eI P w) a vs:=aGn ok<|.inl e
theorem mM{ks:List Key}(ok:HOk P w H h)(e:H a=some (.tup<|ks.map kV)):(Ah<|eI P w).is h ks a:=by obtain⟨_,its,r,o,h1,h2,⟨n,h3⟩,_⟩:=(show ObjOk P w H h a (.tup<|ks.map kV) from ok a _ e);exact⟨o,its.toArray,n,h1,h2,h3,by simpa using yR r⟩
theorem aGv{kvs:List (List Key×V)}(ok:HOk P w H h)(e:Rd H a (.dT kvs)):kvs.length<=AL/\(a==AZ)=false/\
  ∃xs,KT H kvs xs/\h.DictOfH (Ah<|eI P w) a xs:=by
 obtain⟨z,y,xs,r,o,es,ep,h1,h2,h3,h4,h5⟩:=(show ObjOk P w H h a (.dT kvs) from aMk ok e);refine⟨z,y,xs,r,o,es,ep,h1,h2,h3,h4,λx hx=> ?_,h5⟩
 have all:∀ {l:List (List Key×V)}{m:List (List Key×BE×BC)},KT H l m->∀x∈m,(Ah<|eI P w).is h x.1 x.2.1:=by
  intro l m q
  induction q with
  |nil=>intro x hx;exact nomatch hx
  |@cons p q ps qs hq t ih=>
   intro x hx
   rcases bD.mp hx with e|hx
   ·subst e;exact mM ok (by rw[<-hq.1];exact hq.2.1)
   ·exact ih x hx
 exact all r x hx
theorem aPc{kvs:List (List Key×V)}(ok:HOk P w H h)(e:H a=some (.dT kvs)):kvs.length<=AL/\(a==AZ)=false/\
  ∃xs,KT H kvs xs/\h.DictOfH (Ah<|eI P w) a xs:=aGv ok<|.inl e
def aLH(H:Hp)(a:BE)(y:V)(r:Option V):Prop:=
 (∃kvs k,Rd H a (.dK kvs)/\y=kV k/\r=iX kvs k)\/∃kvs k b,Rd H a (.dT kvs)/\y=.ref b/\H b=some (.tup<|k.map kV)/\r=iX kvs k
def DPut(H:Hp)(a:BE)(y v:V)(H':Hp):Prop:=
 (∃kvs k,H a=some (.dK kvs)/\y=kV k/\kvs.length<AL/\H'=upd H a (.dK<|rG kvs k v))\/
 ∃kvs k b,H a=some (.dT kvs)/\y=.ref b/\H b=some (.tup<|k.map kV)/\kvs.length<AL/\H'=upd H a (.dT<|rG kvs k v)
theorem DPut.k{H:Hp}{a:BE}{kvs:List (Key×V)}{k:Key}{v:V}(e:H a=some (.dK kvs))(hl:kvs.length<AL):DPut H a (kV k) v (upd H a (.dK<|rG kvs k v)):=.inl ⟨kvs,k,e,rfl,hl,rfl⟩
variable {y v:V}{u r:BC}{o:Option V}{A:BF}{E:BC->BD->Prop}
theorem Inv.big(I:Inv X pins σ H s):AZ<s.heap.objs.size:=by have h:AR<s.heap.objs.size:=(I.mod.glob.keeps I.bk).lt;exact pE (by decide) h
theorem aEU{Q:BC->BD->Prop}(hu:A.units+1<AS)(I:Inv X pins σ H s)(g:aLH H a y (some v))(ry:RelV y u)(h:∀w' s',Inv X pins σ H s'->RelV v w'->Q w' s'):
  AK (AH X.prog X.w) A (getItem (.ref a) u) Q E s:=by
 rcases g with⟨kvs,k,e,ey,l⟩|⟨kvs,k,b,e,ey,eb,l⟩
 ·subst ey;obtain⟨z,hd,vs,rel,dd⟩:=aGn I.hok e;obtain⟨w',hw,rw'⟩:=RelO.some_of (v:=v) (o:=valueAt vs k) (by rw[l];exact rel.val k);exact wpAny_getItem_of (aGj ry) dd.mapOf hw<|h w' _ (I.tok _) rw'
 ·subst ey;cases(show u=Value.ref b from ry);obtain⟨z,hd,xs,rel,dd⟩:=aGv I.hok e;obtain⟨w',hw,rw'⟩:=RelO.some_of (v:=v) (o:=(atKey xs k).map (·.2)) (by rw[l];exact rel.val k);obtain⟨p,hp,hp2⟩:=eY.mp hw;refine wpAny_getItem_heap (Ae hu) (mM I.hok eb) dd hp ?_;rw[hp2];exact h w' _ (I.tok _) rw'
theorem aKw{Q:BC->BD->Prop}(hu:A.units+1<AS)(I:Inv X pins σ H s)(g:aLH H a y o)(ry:RelV y u)(h:∀s',Inv X pins σ H s'->Q (.bool<|!o.isSome) s'):
  AK (AH X.prog X.w) A (AY .NotIn u<|.ref a) Q E s:=by
 rcases g with⟨kvs,k,e,ey,l⟩|⟨kvs,k,b,e,ey,eb,l⟩
 ·subst ey;obtain⟨z,hd,vs,rel,dd⟩:=aGn I.hok e;refine wpAny_notIn_of (aGj ry) hd dd.mapOf ?_;rw[<-(rel.val k).isSome_eq,<-l];exact h _<|I.tok _
 ·subst ey;cases(show u=Value.ref b from ry);obtain⟨z,hd,xs,rel,dd⟩:=aGv I.hok e;refine wpAny_notIn_heap (Ae hu) (mM I.hok eb) hd dd ?_;have q:=(rel.val k).isSome_eq;rw[sQ] at q;rw[<-q,<-l];exact h _<|I.tok _
theorem pO{h':BG}{t':Nat}{ob:HO}(I:Inv X pins σ H s)(mu:Mut (H a))(hs:Heap.SameBut a s.heap h')(he:∃q,h'.get? a=some q)(new:ObjOk X.prog X.w (upd H a ob) h' a ob):
  Inv X pins σ (upd H a ob) {s with heap:=h',toks:=t'}:=
 I.write (x:=a) (e:=a) mu (.inl rfl) (λb q hb z=>(hs.2 b hb).trans z) he new
theorem aMY{H':Hp}{h':BG}{kvs:List (Key×V)}{vs:List (Key×BC)}(z:kvs.length<=AL)(hd:(a==AZ)=false)(rel:KV kvs vs)(dd:h'.DictOf (eI P w) a vs):
  ObjOk P w H' h' a (.dK kvs):=⟨z,hd,vs,rel,dd⟩
theorem aEY{H':Hp}{Q:Unit->BD->Prop}(hu:A.units+1<AS)(I:Inv X pins σ H s)(g:DPut H a y v H')(ry:RelV y u)(rv:RelV v r)(h:∀s',Inv X pins σ H' s'->Q () s'):
  AK (AH X.prog X.w) A (setItem (.ref a) u r) Q E s:=by
 rcases g with⟨kvs,k,e,ey,l,eH⟩|⟨kvs,k,b,e,ey,eb,l,eH⟩
 ·subst ey eH;obtain⟨z,hd,vs,rel,dd⟩:=aPs I.hok e;have hz:vs.length<=AL:=by rw[<-rel.length];exact z
  have hl:(rG kvs k v).length<=AL:=by have:=tS kvs k v;omega
  refine wpAny_setItem_pairs (hsz:=hz) (aGj ry) dd λh' dd' hs=>h _ ?_
  have he:∃q,h'.get? a=some q:=let ⟨q,_,_,hq,_⟩:=dd';⟨q,hq⟩
  exact pO I (by rw[e];exact True.intro) hs he<|aMY hl hd (rel.put k rv) dd'
 ·subst ey eH;cases(show u=Value.ref b from ry);obtain⟨z,hd,xs,rel,dd⟩:=aPc I.hok e;have hz:xs.length<=AL:=by rw[<-Paired.length rel];exact z
  have hl:(rG kvs k v).length<=AL:=by have:=tS kvs k v;omega
  refine wpAny_setItem_heap (hsz:=hz) (Ae hu) (mM I.hok eb) dd λh' dd' hs=>h _ ?_
  obtain⟨q,es,ep,hq,h2,h3,h4,_,h5⟩:=dd';refine pO I (by rw[e];exact True.intro) hs ⟨q,hq⟩ ⟨hl,hd,_,(rel.put k eb rv).keeps λc ys ec=> ?_,q,es,ep,hq,h2,h3,h4,h5⟩;rw[aV<|aPe ec e λz=>nomatch z];exact ec
def aOg(i:Expr):Prop:=∀ov iv,subscripted i false ov iv=operate [ov,iv] (getItem ov iv)
theorem aDV{prog:AE}{env:Env}{value slice:Expr}{T id:String}{Q:BC->BD->Prop}
  (hl:typeLookup (.type T) "__getitem__"=pure (some<|.builtin id)) (hs:aOg slice)
  (h:AK (AH prog w) A (eval value env) (λo s₁=>AK (AH prog w) A (eval slice env) (λi s₂=>s₂.TypeIs o T/\AK (AH prog w) A (getItem o i) Q E s₂) E s₁) E s):
  AK (AH prog w) A (eval (.Subscript value slice pos) env) Q E s:=by
 refine Subscript_<|Aa h (λo s₁ h₁=>Aa h₁ (λi s₂ h₂=> ?_) λ_ _ x=>x) λ_ _ x=>x;obtain⟨hT,h₂⟩:=h₂;unfold subscriptTail;refine AA ?_;rw[getitemInPython_of_ne hT.not_modules];refine AA<|wpAny_specialOf hT hl ?_
 have fin:AK (AH prog w) A (subscripted slice false o i) (λr s₃=>AK (AH prog w) A (letTemporaryGo value o r>>=λ_=>pure r) Q E s₃) E s₂:=by rw[hs o i];exact wpAny_operating<|Aa h₂ (λr s₃ h₃=>AA (wpAny_letTemporaryGo<|AC h₃)) λ_ _ x=>x
 first
  |exact AC (AA fin)
  |exact AA (AC<|AA fin)
  |exact AA fin
theorem aAU(I:Inv X pins σ H s)(g:aLH H a y o):s.TypeIs (.ref a) "dict":=by
 rcases g with⟨kvs,k,e,_,_⟩|⟨kvs,k,b,e,_,_,_⟩
 ·obtain⟨_,_,vs,_,dd⟩:=aGn I.hok e;exact dd.typeIs
 ·obtain⟨_,_,xs,_,dd⟩:=aGv I.hok e;exact dd.typeIs
noncomputable def aOX(td ty:TE):TE:=λσ H Q=>td σ H λx H1=>ty σ H1 λy H2=>∃a v,x=.ref a/\aLH H2 a y (some v)/\Q v H2
noncomputable def aKu(ty td:TE):TE:=λσ H Q=>ty σ H λy H1=>td σ H1 λx H2=>∃a o,x=.ref a/\aLH H2 a y o/\Q (.bl<|!o.isSome) H2
noncomputable def aPy(td ty tv:TE):TS:=λD σ H=>tv σ H λv H1=>td σ H1 λx H2=>ty σ H2 λy H3=>∃a H4,x=.ref a/\DPut H3 a y v H4/\D.nx σ H4
variable {o i value:Expr}{pos' tpos:Pos}{td ty tv:TE}
theorem aJP(hu:X.A.units+1<AS)(ho:PE X o td)(hi:PE X i ty)(hs:aOg i):PE X (.Subscript o i pos) (aOX td ty):=by intro pins s σ H Q I h;refine aDV xU.lookup hs<|thn (ho pins s σ H _ I h) λu s1 ⟨x,H1,I1,rx,q1⟩=>thn (hi pins s1 σ H1 _ I1 q1) λiv s2 ⟨y,H2,I2,ry,a,v,ex,g,q2⟩=> ?_;subst ex;obtain rfl:u=Value.ref a:=rx;exact⟨aAU I2 g,aEU hu I2 g ry λw' s3 I3 rw'=>⟨v,H2,I3,rw',q2⟩⟩
theorem aFt(hu:X.A.units+1<AS)(hi:PE X i ty)(ho:PE X o td):PC X .NotIn i o (aKu ty td):=by
 intro pins s σ H Q I h;refine thn (hi pins s σ H _ I h) λiv s1 ⟨y,H1,I1,ry,q1⟩=>thn (ho pins s1 σ H1 _ I1 q1) λu s2 ⟨x,H2,I2,rx,a,ov,ex,g,q2⟩=> ?_
 subst ex;obtain rfl:u=Value.ref a:=rx;exact aKw hu I2 g ry λs3 I3=>⟨.bl<|!ov.isSome,H2,I3,rfl,q2⟩
theorem aKB(hu:X.A.units+1<AS)(ho:PE X o td)(hi:PE X i ty)(hv:PE X value tv)(hs:Ab value (some<|.Subscript o i pos') pos.line X.env=pure false):
  PS X (.Assign [.Subscript o i pos'] value pos) (aPy td ty tv):=by
 intro pins s σ H D I h;refine wpAny_Assign_Subscript (thn (hv pins s σ H _ I h) λr s1 ⟨v,H1,I1,rv,q1⟩=>thn (ho pins s1 σ H1 _ I1 q1) λu s2 ⟨x,H2,I2,rx,q2⟩=>thn (hi pins s2 σ H2 _ I2 q2) λiv s3 ⟨y,H3,I3,ry,a,H4,ex,g,q3⟩=> ?_) hs;subst ex;obtain rfl:u=Value.ref a:=rx;exact aEY hu I3 g ry rv λs4 I4=>⟨σ,H4,I4,q3⟩
theorem aGI(h:BG)(hb:AZ<h.objs.size):ObjOk P w H (h.push {cls:=.type "dict",data:=.dict #[]}) h.objs.size (.dK []):=
 ⟨cP _,beq_eq_false_iff_ne.mpr (Ne.symm<|bW hb),[],.nil,Heap.DictOf.new h⟩
noncomputable def aMX:TE:=λ_ H Q=>∀p,H p=none->Q (.ref p) (upd H p<|.dK [])
theorem aHO:PE X (.Dict [] [] pos) aMX:=λpins s σ H Q I h=>wpAny_Dict_empty ⟨.ref s.heap.objs.size,_,I.laid (a:=s.heap.objs.size) (o:=.dK []) (t':=s.toks) (λ_ _ q=>aD _ q) (aN _)<|aGI s.heap I.big,rfl,h _ (I.hok.fresh<|aN _)⟩
abbrev VV:List (V×V)->List (BC×BC)->Prop:=Paired λp q=>RelV p.1 q.1/\RelV p.2 q.2
structure M1(X:Cx)(o:Expr)(m:Str)(apos:Pos)(e:Expr)(cpos:Pos):Prop where
 base:Af o m X.env (eval o X.env)=eval o X.env
 few:((AX cpos (AB [e] X.env)).all (fun x=> !x.1) && (backToKw cpos (keywordEach [] X.env)).all (fun x=>x.1.isSome)
 &&decide (([e]:List Expr).length+([]:List Keyword).length+(if([]:List Keyword).isEmpty then 0 else 1)<30))=true
 line:(apos.endLine==cpos.line)=true
 trees:AX cpos (AB [e] X.env)=[(false,eval e X.env)]
structure M2(X:Cx)(o:Expr)(m:Str)(apos:Pos)(e f:Expr)(cpos:Pos):Prop where
 base:Af o m X.env (eval o X.env)=eval o X.env
 few:((AX cpos (AB [e,f] X.env)).all (fun x=> !x.1) && (backToKw cpos (keywordEach [] X.env)).all (fun x=>x.1.isSome)
 &&decide (([e,f]:List Expr).length+([]:List Keyword).length+(if([]:List Keyword).isEmpty then 0 else 1)<30))=true
 line:(apos.endLine==cpos.line)=true
 trees:AX cpos (AB [e,f] X.env)=[(false,eval e X.env),(false,eval f X.env)]
end L2
namespace Att
open PySem PySem.W PySem.Calls PyProof.Rows
theorem uB{P:Params}{h:BG}:∀ (ns:List Int) (vs:List BC),WellAll P h vs (ns.map WData.int)->IntsAre vs ns:=by
 intro ns
 induction ns with
 |nil=>intro vs w;rw[eO] at w;cases w;exact .nil
 |cons n ns ih=>
  intro vs w;rw[aZ] at w;cases w with
  |cons a b=>cases a;exact .cons _ _<|ih _ b
theorem aFj{l:OpenLaw}{n:Nat}(hn:l.most=some n){P:Params}{h:BG}{args:List WData}{vals:List BC}
  (hpre:l.row.toRowW.claim.pre args=true) (hwl:WellAll P h vals args):
  ∃a vs ns,vals=[Value.ref a]/\args=[WData.list<|ns.map WData.int]/\h.get? a=some {cls:=.type "list",data:=.seq vs.toArray}/\IntsAre vs ns/\ns.length<=n:=by
 have hsh:WShape.hasAll [] args [.list .int]=true:=(pre_splitW hpre).1;have hc:l.pre.holds [] {args:=args}=true:=(pre_splitW hpre).2;obtain⟨d,r,rfl,h1,h2⟩:=hasAllW_cons hsh;obtain rfl:=hasAllW_nil h2;obtain⟨xs,rfl,h3⟩:=hasW_list h1;obtain⟨ns,rfl⟩:=items_int h3
 have hlen:ns.length<=n:=by
  unfold OpenLaw.pre at hc
  have h4:(WTm.not<|.lt (.lit<|.int (n:Int)) (.len<|.arg 0)).holds [] {args:=[.list<|ns.map .int]}=true:=by have h4:=(holds_andW hc).1;rw[hn] at h4;exact h4
  have h5:=condW_of h4 (w_not<|w_lt w_lit (w_len_list<|w_arg rfl));rw[aC] at h5;refine Nat.le_of_not_lt λq=> ?_
  have q':(n:Int)<((ns.length:Nat):Int):=by omega
  first
   |(rw[decide_eq_true q'] at h5;exact absurd h5<|by decide)
   |(simp at h5;omega)
 cases hwl with
 |cons w1 w2=>
  cases w2;cases w1 with
  |list ho hall=>exact⟨_,_,ns,rfl,rfl,ho,uB ns _ hall,hlen⟩
theorem aFR(l:OpenLaw)(args:List WData):l.row.toRowW.claim.post args (.bool true) args=true:=
 postW_of (r:=l.row.toRowW) (X:=(true==true))
  (show WShape.has [] (.bool true) .bool=true by first|rfl|decide|simp[WShape.has,WShape.arms,WShape.armsAll])
  (show(WTm.eq .res (.lit<|.bool true)).value [] {args:=args,res:=some<|.bool true,after:=args}=some (.bool<|true==true) from w_eq_bool (w_res rfl) w_lit) rfl
theorem attach_call{l:OpenLaw}{n:Nat}{q:AE}{loose:List Str}{XP:(Str->Option BC)->BG->Prop}{YP:AM->BG->Prop}{d:DefRec}
  (hn:l.most=some n) (hdf:d.params.defaults=[])
  (call:∀ (w:AM) (s₀ s₁:BD) (mg mb:Str→Option BC) (fa:BE) (o:BH) (pm cd doc:BC) (a:BE) (vs:List BC) (ns:List Int),
   Ground q loose [] XP w s₀ mg mb s₁.heap->YP w s₁.heap->
   s₁.heap.get? fa=some o->o.data=.func (docDef d.name d.params d.body d.scope pm cd doc)->s₁.heap.CodeRec cd d.name->mg d.name=some (.ref fa)->
   s₁.heap.get? a=some {cls:=.type "list",data:=.seq vs.toArray}->IntsAre vs ns->ns.length<=n->s₁.gens= #[]->
   codeAny (AH l.prog w) callerA (.call (.ref fa) ⟨[.ref a],[]⟩) (λr s'=>r=.ok (.ret (.bool true))/\OldK s₁.heap s'.heap/\s'.os=s₁.os/\AllBare s'.gens) s₁):
  WalkO q loose XP YP l.row.toRowW d [] (λf vs=>PySem.call f vs):=by
 intro w s₀ s₁ mg mb G Y fa o pm cd doc dV kV ho hd hcd hD hmg hg args vals as hpre hlay hrd hwl hlo;obtain rfl:dV=.none:=Dflts.none hD hdf;obtain rfl:kV=.none:=Dflts.noKw hD;obtain⟨a,vs,ns,rfl,rfl,hobj,hints,hlen⟩:=aFj hn hpre hwl;refine enter_call<|Ap (call w s₀ s₁ mg mb fa o pm cd doc a vs ns G Y ho (fd_plain hd) hcd hmg hobj hints hlen hg) λr s' hq=> ?_;obtain⟨rfl,h2,h3,h4⟩:=hq;exact⟨.inl ⟨.bool true,.bool true,[],rfl,λ_=>rfl,.bool true,aFR l _,λ_=>⟨List.Pairwise.nil,λ_ hm=>(nomatch hm)⟩⟩,h2,h3,h4⟩
end Att
namespace L2
open PySem PySem.Spec PyProof.Rows
theorem yM:∀ {vs:List BC}{ns:List Int},IntsAre vs ns->Vals (ns.map V.int) vs
 |_,_,.nil=>.nil
 |_,_,.cons n t h=>.cons ⟨t,rfl⟩<|yM h
def aOi(H:Hp):Prop:=∀b,H b=none\/∃o xs,H b=some (.frz o<|.lst xs)
theorem aHP{P:AE}{w:AM}{K:aA}{mg mb:Str->Option BC}{CX:CXT}{k:Nat}{fa a:BE}{fd:AN}{x:Str}{sp:Sp}{s₁:BD}{vs:List BC}{ns:List Int}
  (KX:K.In s₁.heap) (hns:s₁.heap.Ns AR mg) (hb:s₁.heap.Ns builtinsNs mb) (hbb:∀x:Str,x≠"__name__"->mb x=Ao x) (hlim:s₁.heap.NoLimit) (hg:s₁.gens= #[])
  (ha:s₁.heap.get? a=some {cls:=.type "list",data:=.seq vs.toArray}) (hi:IntsAre vs ns) (hl:ns.length<=AL) (hr:Room k callerA)
  (F:∀base:BG,K.In base->base.Ns AR mg->FnOk P w K mg base CX k fa fd [x] sp) (hbind:∀ (s:BD) (u:BC),BindsTo s fd ⟨[u],[]⟩ [(x,u)])
  (hsp:∀H:Hp,aOi H->SqL K H a (ns.map V.int)->sp [.ref a] H (λv _=>v=.bl true) λ_ _ _=>False)
  (hCX:∀H e s',CX [] H s₁ (λ_ _ _=>False) e s'->False):
  codeAny (AH P w) callerA (.call (.ref fa) ⟨[.ref a],[]⟩) (λr s'=>r=.ok (.ret<|.bool true)/\OldK s₁.heap s'.heap/\s'.os=s₁.os/\AllBare s'.gens) s₁:=by
 have rv:=yM hi;have lenV:=hi.length
 have core:∀H:Hp,aOi H->SqL K H a (ns.map V.int)->HOk P w H s₁.heap->(∀b,H b≠none->b=a)->(H a≠none->K.lookup a=none)->
   codeAny (AH P w) callerA (.call (.ref fa) ⟨[.ref a],[]⟩) (λr s'=>r=.ok (.ret<|.bool true)/\OldK s₁.heap s'.heap/\s'.os=s₁.os/\AllBare s'.gens) s₁:=by
  intro H hO hS hok hA hK;have base_of:∀ {b:BE}{o:BH},s₁.heap.get? b=some o->H b=none->(aGg s₁.heap H).get? b=some o:=λe n=>aHt e n
  have noA:∀ {b:BE}{o:BH}{es:Array DictEntry}{ep:Nat},s₁.heap.get? b=some o->o.data=.dict es ep->H b=none:=λ{b o es ep} e d=>by
   cases q:H b with
   |none=>rfl
   |some u=>have e':b=a:=hA b (by rw[q];simp);subst e';rw[ha] at e;cases e;have d':Data.seq vs.toArray _=Data.dict es ep:=d;cases d'
  have nsK:∀ {b:BE}{m:Str->Option BC},s₁.heap.Ns b m->(aGg s₁.heap H).Ns b m:=λ{b m} ⟨o,es,ep,e,d,r⟩=>⟨o,es,ep,base_of e<|noA e d,d,r⟩
  have hKb:K.In (aGg s₁.heap H):=fun b o e=>base_of (KX b o e) (by
   cases q:H b with
   |none=>rfl
   |some u=>
    have e':b=a:=hA b (by rw[q];simp);subst e'
    rw[hK (by rw[q];simp)] at e;cases e)
  have hM:Mod K mg (aGg s₁.heap H):=⟨hKb,nsK hns,⟨mb,nsK hb,hbb⟩,let ⟨mc,h1,h2⟩:=hlim;⟨mc,nsK h1,h2⟩⟩;have e0:Env0 P w K mg (aGg s₁.heap H) callerA [] s₁ H:=⟨rfl,hM,λb o e=>aJJ e,pD<|aFM _ _,trivial,λb hb=>absurd (show b∈([]:List BE) from hb)<|by simp,hok,.of_eq hg⟩;refine Ap ((F _ hKb<|nsK hns).run callerA [] s₁ H ⟨[.ref a],[]⟩ [.ref a] [.ref a] _ _ hr e0 (hbind s₁<|.ref a) (.cons rfl .nil)<|hsp H hO hS) λr s' h=> ?_
  cases r with
  |error e=>exact(hCX H e s' h).elim
  |ok fl=>
   cases fl with
   |next=>exact False.elim h
   |brk=>exact False.elim h
   |cont=>exact False.elim h
   |ret u=>
    obtain⟨v,H',os,bare,un,hok',r',q⟩:=h;have q':v=.bl true:=q;subst q';obtain rfl:u=Value.bool true:=r';refine⟨rfl,OldK.of_keep λb o e=> ?_,os,bare⟩;cases q:H b with
    |none=>exact un.keep b o e q (by intro z;exact absurd (show b∈([]:List BE) from z)<|by simp)<|by simp
    |some u=>
     rcases hO b with z|⟨ob,xs,z⟩
     ·rw[q] at z;cases z
     ·have z2:=un.frzs b ob _ z;obtain⟨e1,_⟩:=hok b _ z;obtain⟨e2,_⟩:=hok' b _ z2;rw[e] at e1;cases e1;exact e2
 cases hk:K.lookup a with
 |some o=>
  have e:=KX a o hk;rw[ha] at e;cases e;refine core (λ_=>none) (λ_=>.inl rfl) (.inr ⟨_,vs.toArray,_,hk,rfl,rfl,rfl,by rw[bC,lenV];exact hl,by simpa using rv⟩) (λb u z=>by have z':(none:Option HO)=some u:=z;cases z') (λb z=>absurd rfl z) λz=>absurd rfl z
 |none=>
  refine core (λb=>if b=a then some (.frz {cls:=.type "list",data:=.seq vs.toArray} (.lst<|ns.map V.int)) else none) (λb=> ?_) (.inl<|.inr ⟨{cls:=.type "list",data:=.seq vs.toArray},if_pos rfl⟩) (λb u z=> ?_) (λb z=> ?_) λ_=>hk
  ·by_cases hb:b=a
   ·exact .inr ⟨_,_,if_pos hb⟩
   ·exact .inl<|if_neg hb
  ·by_cases hb:b=a
   ·have z':=(if_pos hb).symm.trans z;cases z';subst hb;exact⟨ha,by rw[aC];exact hl,vs,_,rv,ha⟩
   ·have z':=(if_neg hb).symm.trans z;cases z'
  ·by_cases hb:b=a
   ·exact hb
   ·exact absurd (if_neg hb) z
noncomputable abbrev KOf{K:aA}{h:BG}(_:K.In h):aA:=K
theorem walk_of{l:PySem.W.OpenLaw}{n k:Nat}{q:AE}{loose:List Str}{XP:(Str->Option BC)->BG->Prop}{YP:AM->BG->Prop}{d:DefRec}{K:Params->aA}{CX:AM->CXT}{sp:AM->Sp}{x:Str}
  (hn:l.most=some n) (hn2:n<=AL) (hdf:d.params.defaults=[]) (hr:Room k callerA)
  (hY:∀ (w:AM) (h:BG),YP w h->(K w.params).In h)
  (F:∀ (w:AM) (mg:Str→Option BC) (fa:BE) (h:BG),(K w.params).In h→h.Ns AR mg→mg d.name=some (.ref fa)→
   ∃fd:AN,(∀ (s:BD) (u:BC),BindsTo s fd ⟨[u],[]⟩ [(x,u)])/\
    ∀base:BG,(K w.params).In base->base.Ns AR mg->FnOk l.prog w (K w.params) mg base (CX w) k fa fd [x] (sp w))
  (hsp:∀ (w:AM) (H:Hp) (a:BE) (ns:List Int),ns.length<=n->aOi H->SqL (K w.params) H a (ns.map V.int)->sp w [.ref a] H (λv _=>v=.bl true) λ_ _ _=>False)
  (hCX:∀ (w:AM) (H:Hp) (s:BD) (e:BC) (s':BD),CX w [] H s (λ_ _ _=>False) e s'->False):
  PySem.W.WalkO q loose XP YP l.row.toRowW d [] (λf vs=>PySem.call f vs):=by
 refine Att.attach_call hn hdf λw s₀ s₁ mg mb fa o pm cd doc a vs ns G Y ho hd hcd hmg hobj hints hlen hg=> ?_
 have KX:=hY w _ Y;obtain⟨fd,hb,hF⟩:=F w mg fa _ KX G.T.g hmg;exact aHP KX G.T.g G.T.b G.T.builtins G.T.nolimit hg hobj hints (cF hlen hn2) hr hF hb (λH hO hS=>hsp w H a ns hlen hO hS) λH e s'=>hCX w H s₁ e s'
noncomputable def aEg(s:BI)(j:Nat):BI:=match s with
 |.ClassDef _ _ _ body _ _ _ _ _ _ _=>body.getD j<|.Pass ⟨0,0,0,0⟩
 |_=> .Pass ⟨0,0,0,0⟩
noncomputable def eA(s:BI):Arguments:=match s with
 |.FunctionDef _ a _ _ _ _ _ _ _ _=>a
 |_=>{posonlyargs:=[],args:=[],vararg:=none,kwonlyargs:=[],kw_defaults:=[],kwarg:=none,defaults:=[]}
noncomputable def cN(s:BI):List BI:=match s with
 |.FunctionDef _ _ b _ _ _ _ _ _ _=>b
 |_=>[]
noncomputable def aO(s:BI):Scope:=match s with
 |.FunctionDef _ _ _ _ _ _ sc _ _ _=>sc
 |_=>{kind:=.function,names:=[],isGenerator:=false,isCoroutine:=false}
noncomputable abbrev CX0:CXT:=λ_ _ _ _ _ _=>False
noncomputable abbrev E0:XK:=λ_ _ _=>False
theorem xJ{X:Cx}:wC CX0 X E0:=λ_ _ _ _ _ _ _ h=>h.elim
structure Fun(K:aA)(x qual:Str)(st:BI)(f:BE)(fd:AN):Prop where
 ex:∃ (oc:BC) (od:Option BE) (kV doc pm:BC) (an:Option BE) (cdv ct:BC) (osl:Array (Option BC)),
  fd=cE x qual (eA st) (cN st) (aO st) .none kV doc pm an cdv ct/\K.lookup f=some ⟨oc,od,.func fd,osl⟩/\eG K cdv qual=true
 kp:cO K (.ref f)=true
variable {P:AE}{w:AM}{K:aA}{mg:Str->Option BC}{base:BG}
theorem Fun.ok{x qual:Str}{st:BI}{f:BE}{fd:AN}{N ps:List Str}{k:Nat}{sp:Sp}(F:Fun K x qual st f fd)(S:gO N ps (aO st))(len:∀vs H Q E,sp vs H Q E->vs.length=ps.length)
  (hbody:∀ (cdv:BC) (A:BF) (outer:List Env) (s:BD) (H:Hp) (vs:List V) (Q:VK) (E:XK),Room k (A.deeper (Ai qual (aO st) s.heap.objs.size f cdv))→sp vs H Q E→
   ∃t,PSs (iF CX0 P w K mg base N qual (aO st) f cdv A outer s H E).nox (cN st) t/\t {nx:=λ_ H'=>Q .non H',rt:=Q} (start N vs) H):FnOk P w K mg base CX0 (k+1) f fd ps sp:=by
 obtain⟨oc,od,kV,doc,pm,an,cdv,ct,osl,rfl,lk,hcd⟩:=F.ex;refine aGq lk hcd S len λA outer s H vs Q E hr hsp=> ?_
 obtain⟨t,h,q⟩:=hbody cdv A outer s H vs Q E hr hsp;exact⟨t,h.nox,q⟩
theorem Fun.binds{x qual:Str}{st:BI}{f:BE}{fd:AN}{ps:List Str}(F:Fun K x qual st f fd)
  (h:∀ (kV doc pm:BC) (an:Option BE) (cdv ct:BC) (us:List BC),us.length=ps.length->bindArgs (cE x qual (eA st) (cN st) (aO st) .none kV doc pm an cdv ct) ⟨us,[]⟩=pure (ps.zip us)):Binds K fd ps []:=by
 obtain⟨oc,od,kV,doc,pm,an,cdv,ct,osl,rfl,lk,hcd⟩:=F.ex;exact .all<|h kV doc pm an cdv ct
theorem zZ{x qual:Str}{st:BI}{f:BE}{oc:BC}{od an:Option BE}{osl:Array (Option BC)}{kV doc pm cdv ct:BC}(l:K.lookup f=some ⟨oc,od,.func<|cE x qual (eA st) (cN st) (aO st) .none kV doc pm an cdv ct,osl⟩)
  (c:eG K cdv qual=true) (k:cO K (.ref f)=true):Fun K x qual st f (cE x qual (eA st) (cN st) (aO st) .none kV doc pm an cdv ct):=⟨⟨oc,od,kV,doc,pm,an,cdv,ct,osl,rfl,l,c⟩,k⟩
theorem eX{n:Nat}(h:n<=10000):n<AL:=cM h<|by decide
variable {X:Cx}
theorem pv(i:Nat){x:Str}{pos:Pos}(hN:X.N[i]? =some x:=by rfl)(hv:Vis X.env.scope x:=by first|exact Or.inl rfl|exact Or.inr (Or.inl rfl)|exact Or.inr (Or.inr rfl))(hd:(x==("__debug__":Str))=false:=by decide)
  (hcd:(x==("__classdict__":Str))=false:=by decide):PE X (.Name x pos) (iT i):=aNM hN hv hd hcd
theorem aJi{A B:Prop}(h:B):if false=true then A else B:=by rw[if_neg bE];exact h
theorem aJh{A B:Prop}(h:A):if true=true then A else B:=by rw[if_pos rfl];exact h
def Same(H H':Hp):Prop:=∀b o,H b=some o->H' b=some o
theorem Same.refl(H:Hp):Same H H:=λ_ _ h=>h
theorem Same.trans{H H1 H2:Hp}(a:Same H H1)(b:Same H1 H2):Same H H2:=λc o h=>b c o<|a c o h
theorem Same.free{H H':Hp}(e:Same H H'){l:BE}(h:H' l=aOt):H l=aOt:=by
 cases q:H l with
 |none=>rfl
 |some o=>rw[e l o q] at h;cases h
theorem Same.seq{H H':Hp}{a:BE}{xs:List V}(e:Same H H')(h:SqL K H a xs):SqL K H' a xs:=by
 rcases h with(h|⟨o,h⟩)|h
 ·exact .inl (.inl<|e _ _ h)
 ·exact .inl<|.inr ⟨o,e _ _ h⟩
 ·exact .inr h
noncomputable def wE(X:Cx)(e:Expr):TE:=λσ H Q=>∀ (pins:List (BE×BH)) (s:BD),Inv X pins σ H s->AK (AH X.prog X.w) X.A (eval e X.env) (EP X pins σ Q) X.xe s
noncomputable def wT(X:Cx)(e:Expr):TT:=λσ H Q=>∀ (pins:List (BE×BH)) (s:BD),Inv X pins σ H s->AK (AH X.prog X.w) X.A (isTrue e X.env<|eval e X.env) (TP X pins σ Q) X.xe s
noncomputable def wW(X:Cx)(e:Expr):TT:=λσ H Q=>∀ (whole:Sem BC) (pins:List (BE×BH)) (s:BD),Inv X pins σ H s->AK (AH X.prog X.w) X.A (isTrue e X.env whole) (TP X pins σ Q) X.xe s
noncomputable def wA(X:Cx)(es:List Expr):TA:=λσ H Q=>∀ (pos:Pos) (pins:List (BE×BH)) (s:BD),Inv X pins σ H s->AK (AH X.prog X.w) X.A (spliced (AX pos<|AB es X.env)) (AP X pins σ Q) X.xe s
noncomputable def wS(X:Cx)(st:BI):TS:=λD σ H=>∀ (pins:List (BE×BH)) (s:BD),Inv X pins σ H s->AK (AH X.prog X.w) X.A (exec st X.env) (SP X pins D) X.xe s
noncomputable def wSs(X:Cx)(sts:List BI):TS:=λD σ H=>∀ (pins:List (BE×BH)) (s:BD),Inv X pins σ H s->AK (AH X.prog X.w) X.A (execs sts X.env) (SP X pins D) X.xe s
noncomputable def wG(X:Cx)(tg:Expr):TG:=λv σ H Q=>∀ (pins:List (BE×BH)) (s:BD) (u:BC),Inv X pins σ H s->RelV v u->
  AK (AH X.prog X.w) X.A (assign tg X.env u) (λ_ s'=>∃σ' H',Inv X pins σ' H' s'/\Q σ' H') X.xe s
noncomputable def wI(X:Cx)(tg iter:Expr):TI:=λσ H R=>∀ (pins:List (BE×BH)) (s:BD),Inv X pins σ H s->
  AK (AH X.prog X.w) X.A (eval iter X.env) (λv s1=>AK (AH X.prog X.w) X.A (pyIter v) (PIE X pins σ tg R) X.xe s1) X.xe s
variable {e:Expr}{es:List Expr}{st:BI}{sts:List BI}{tg iter:Expr}{σ:St}{H:Hp}
theorem eK:PE X e (wE X e):=λpins s _ _ _ I h=>h pins s I
theorem aHY:PT X e (wT X e):=λpins s _ _ _ I h=>h pins s I
theorem aOI:PW X e (wW X e):=λw pins s _ _ _ I h=>h w pins s I
theorem oK:PA X es (wA X es):=λpos pins s _ _ _ I h=>h pos pins s I
theorem aPA:PS X st (wS X st):=λpins s _ _ _ I h=>h pins s I
theorem pss_w:PSs X sts (wSs X sts):=λpins s _ _ _ I h=>h pins s I
theorem aOa:PG X tg (wG X tg):=λpins s _ _ _ u _ I r h=>h pins s u I r
theorem aPX:PI X tg iter (wI X tg iter):=λpins s _ _ _ I h=>h pins s I
theorem PE.to{t:TE}{Q:VK}(h:PE X e t)(q:t σ H Q):wE X e σ H Q:=λpins s I=>h pins s σ H Q I q
theorem PT.to{t:TT}{Q:Bool->Hp->Prop}(h:PT X e t)(q:t σ H Q):wT X e σ H Q:=λpins s I=>h pins s σ H Q I q
theorem PW.to{t:TT}{Q:Bool->Hp->Prop}(h:PW X e t)(q:t σ H Q):wW X e σ H Q:=λw pins s I=>h w pins s σ H Q I q
theorem PA.to{t:TA}{Q:List V->Hp->Prop}(h:PA X es t)(q:t σ H Q):wA X es σ H Q:=λpos pins s I=>h pos pins s σ H Q I q
theorem PS.to{t:TS}{D:tZ}(h:PS X st t)(q:t D σ H):wS X st D σ H:=λpins s I=>h pins s σ H D I q
theorem PSs.to{t:TS}{D:tZ}(h:PSs X sts t)(q:t D σ H):wSs X sts D σ H:=λpins s I=>h pins s σ H D I q
theorem wE.imp{Q Q':VK}(h:wE X e σ H Q)(k:∀v H',Q v H'->Q' v H'):wE X e σ H Q':=λpins s I=>thn (h pins s I) λu s' ⟨v,H',I',r,q⟩=>⟨v,H',I',r,k v H' q⟩
theorem wT.imp{Q Q':Bool->Hp->Prop}(h:wT X e σ H Q)(k:∀v H',Q v H'->Q' v H'):wT X e σ H Q':=λpins s I=>thn (h pins s I) λu s' ⟨H',I',q⟩=>⟨H',I',k u H' q⟩
theorem wW.imp{Q Q':Bool->Hp->Prop}(h:wW X e σ H Q)(k:∀v H',Q v H'->Q' v H'):wW X e σ H Q':=λw pins s I=>thn (h w pins s I) λu s' ⟨H',I',q⟩=>⟨H',I',k u H' q⟩
theorem wA.imp{Q Q':List V->Hp->Prop}(h:wA X es σ H Q)(k:∀v H',Q v H'->Q' v H'):wA X es σ H Q':=λpos pins s I=>thn (h pos pins s I) λu s' ⟨v,H',I',r,q⟩=>⟨v,H',I',r,k v H' q⟩
theorem SP.imp{pins:List (BE×BH)}{D D':tZ}{f:Flow}{s:BD}(h:SP X pins D f s)(k1:∀σ H,D.nx σ H->D'.nx σ H)(k2:∀v H,D.rt v H->D'.rt v H)(k3:∀σ H,D.bk σ H->D'.bk σ H)(k4:∀σ H,D.ct σ H->D'.ct σ H):SP X pins D' f s:=by
 cases f with
 |next=>obtain⟨σ',H',I,q⟩:=h;exact⟨σ',H',I,k1 _ _ q⟩
 |brk=>obtain⟨σ',H',I,q⟩:=h;exact⟨σ',H',I,k3 _ _ q⟩
 |cont=>obtain⟨σ',H',I,q⟩:=h;exact⟨σ',H',I,k4 _ _ q⟩
 |ret u=>obtain⟨v,σ',H',I,r,q⟩:=h;exact⟨v,σ',H',I,r,k2 _ _ q⟩
theorem wSs.imp{D D':tZ}(h:wSs X sts D σ H)(k1:∀σ H,D.nx σ H->D'.nx σ H)(k2:∀v H,D.rt v H->D'.rt v H)(k3:∀σ H,D.bk σ H->D'.bk σ H)(k4:∀σ H,D.ct σ H->D'.ct σ H):wSs X sts D' σ H:=
 λpins s I=>thn (h pins s I) λf s' q=>q.imp k1 k2 k3 k4
theorem wG.imp{v:V}{Q Q':St->Hp->Prop}(h:wG X tg v σ H Q)(k:∀σ' H',Q σ' H'->Q' σ' H'):wG X tg v σ H Q':=λpins s u I r=>thn (h pins s u I r) λ_ s' ⟨σ',H',I',q⟩=>⟨σ',H',I',k _ _ q⟩
variable {pins:List (BE×BH)}{F:Hp}{s:BD}
theorem HOk.track{h:BG}{a:BE}{o:HO}(ok:HOk P w H h)(hn:H a=none)(new:ObjOk P w (upd H a o) h a o):HOk P w (upd H a o) h:=λb u e=>by
 by_cases hb:b=a
 ·subst hb;rw[bK] at e;cases e;exact new
 ·rw[aV hb] at e;exact(ok b u e).stay (λ_ _ _ q=>q) (λc q=>by rw[aV<|cJ q hn];exact q) λc xs q=>by rw[aV<|cJ q hn];exact q
theorem Inv.track{a:BE}{o:HO}(I:Inv X pins σ H s)(hn:H a=none)(h0:X.s₀.heap.objs.size<=a)(hL:a≠X.env.locals)(hc:∀x c,X.env.cells.lookup x=some c->c≠a)
  (hp:∀p∈X.pn++pins,p.1≠a) (new:ObjOk X.prog X.w (upd H a o) s.heap a o):Inv X pins σ (upd H a o) s:=by
 refine⟨I.ok,I.os,I.bare,⟨I.base.keep,I.base.slot,λb u e n hx=> ?_,I.base.there,λb xs e=> ?_,λb u xs e=> ?_,λb ps e=> ?_⟩,I.loc,I.cell, ?_,λx c e=> ?_,λp hp'=> ?_,I.hok.track hn new,I.len⟩
 ·rw[aV (bW<|aY (aR e) h0)];exact I.base.free b u e n hx
 ·have q:=I.base.tups b xs e;rw[aV<|cJ q hn];exact q
 ·have q:=I.base.frzs b u xs e;rw[aV<|cJ q hn];exact q
 ·obtain⟨m,q⟩:=I.base.tbls b ps e;exact⟨m,by rw[aV<|cJ q hn];exact q⟩
 ·rw[aV<|Ne.symm hL];exact I.free
 ·rw[aV<|hc x c e];exact I.freeC x c e
 ·obtain⟨e,n,r⟩:=I.pin p hp';exact⟨e,by rw[aV<|hp p hp'];exact n,r⟩
noncomputable def aOm:HO->Prop
 |.lst _=>True
 |.tup _=>True
 |.dK _=>True
 |.frz _ (.lst _)=>True
 |.frz _ (.dK _)=>True
 |.ext _=>True
 |_=>False
def Smp(H:Hp):Prop:=∀b o,H b=some o->aOm o
theorem ObjOk.smp{h:BG}{a:BE}{o:HO}(z:aOm o)(x:ObjOk P w H h a o):ObjOk P w F h a o:=by
 cases o with
 |lst xs=>exact x
 |tup xs=>exact x
 |dK kvs=>exact x
 |frz ob u=>cases u with
  |lst xs=>exact x
  |dK kvs=>exact x
  |_=>exact absurd z λq=>q
 |ext φ=>exact x
 |_=>exact absurd z λq=>q
theorem Smp.sub(h:Smp H)(s:Same F H):Smp F:=λb o e=>h b o<|s b o e
theorem Inv.less(I:Inv X pins σ H s)(hF:Same F H)(h0:Same X.B₀ F)(hs:Smp F):Inv X pins σ F s:=by
 refine⟨I.ok,I.os,I.bare,⟨I.base.keep,I.base.slot,λb u e n hx=>hF.free<|I.base.free b u e n hx,I.base.there,λb xs e=>h0 _ _<|X.hB _ _ e trivial,λb u xs e=>h0 _ _<|X.hB _ _ e trivial,λb ps e=>⟨#[], ?_⟩⟩,I.loc,I.cell,hF.free I.free,λx c e=>hF.free<|I.freeC x c e,λp hp=> ?_,λb o e=>(I.hok b o<|hF b o e).smp<|hs b o e,I.len⟩
 ·have q:=h0 _ _<|X.hB _ _ e trivial;rw[q];simp
 ·obtain⟨e,n,r⟩:=I.pin p hp;exact⟨e,hF.free n,r⟩
noncomputable def clo(cells:List (Str×BE)):List (Str×NameKind)->List (Str×BE)->List (Str×BE)
 |[],cs=>cs
 |(n,k)::r,cs=>clo cells r (if(k==NameKind.free)=true then(n,(cells.lookup n).getD 0)::cs else cs)
theorem qP{env:Env}:∀ (names:List (Str×NameKind)) (cs:List (Str×BE)),(∀y∈names,y.2=.free->∃c,env.cells.lookup y.1=some c)->
  (forIn names cs (λ(x:Str×NameKind) (r:List (Str×BE))=>if(x.2==NameKind.free)=true then(do let c <-cellOf env x.1;pure (ForInStep.yield ((x.1,c)::r))) else pure (ForInStep.yield r)):Sem (List<|Str×BE))=pure (clo env.cells names cs)
 |[],cs,_=>rfl
 |(n,k)::r,cs,h=>by
  rw[List.forIn_cons]
  by_cases hk:(k==NameKind.free)=true
  ·obtain⟨c,hc⟩:=h (n,k) aJ (by simpa using hk)
   have e:cellOf env n=pure c:=by unfold cellOf;have hc':env.cells.lookup n=some c:=hc;rw[hc']
   simp only[hk,if_true,e,pure_bind,clo];have hc':env.cells.lookup n=some c:=hc;rw[hc'];exact qP r _ λy hy=>h y<|aF _ hy
  ·simp only[hk,bT,if_false,pure_bind,clo];exact qP r _ λy hy=>h y<|aF _ hy
theorem aCE{env:Env}{scope:Scope}(h:∀y∈scope.names,y.2=.free->∃c,env.cells.lookup y.1=some c):closureFor scope env=pure (clo env.cells scope.names []):=by simp only[closureFor];have e:=qP (env:=env) scope.names [] h;simp only[bind_pure] ;exact e
theorem aCf(cells:List (Str×BE)):∀ (names:List (Str×NameKind)) (cs:List (Str×BE)) (x:Str) (c:BE),(clo cells names cs).lookup x=some c->cs.lookup x=some c\/((x,NameKind.free)∈names/\c=(cells.lookup x).getD 0)
 |[],cs,x,c,h=>.inl h
 |(n,k)::r,cs,x,c,h=>by
  rcases aCf cells r _ x c h with q|⟨q1,q2⟩
  ·by_cases hk:(k==NameKind.free)=true
   ·rw[if_pos hk,dX] at q;have ek:k=.free:=by simpa using hk
    by_cases hx:(x==n)=true
    ·simp only[hx] at q;have e:x=n:=by simpa using hx
     subst e;exact .inr ⟨by rw[ek];exact aJ,(bZ.inj q).symm⟩
    ·have hx':(x==n)=false:=by simpa using hx
     simp only[hx'] at q;exact .inl q
   ·rw[if_neg hk] at q;exact .inl q
  ·exact .inr ⟨aF _ q1,q2⟩
theorem aEE(cells:List (Str×BE)):∀ (names:List (Str×NameKind)) (cs:List (Str×BE)) (x:Str),(x,NameKind.free)∈names\/(∃c,cs.lookup x=some c)->∃c,(clo cells names cs).lookup x=some c
 |[],cs,x,h=>h.elim (λz=>nomatch z) λz=>z
 |(n,k)::r,cs,x,h=>by
  refine aEE cells r _ x ?_
  by_cases hk:(k==NameKind.free)=true
  ·rw[if_pos hk]
   by_cases hx:(x==n)=true
   ·exact .inr ⟨(cells.lookup n).getD 0,by rw[dX];simp only[hx]⟩
   ·have hx':(x==n)=false:=by simpa using hx
    rcases h with q|⟨c,q⟩
    ·rcases bD.mp q with z|z
     ·cases z;exact absurd (by simp) hx
     ·exact .inl z
    ·exact .inr ⟨c,by rw[dX];simp only[hx'];exact q⟩
  ·rw[if_neg hk]
   rcases h with q|q
   ·rcases bD.mp q with z|z
    ·cases z;exact absurd rfl hk
    ·exact .inl z
   ·exact .inr q
theorem rS{env:Env}:∀ {names:List (Str × NameKind)} {x:Str},((names.map fun (n,k)=>if (k==NameKind.free && env.scope.kind== .function && env.kindOf n==some .cell) then (n,NameKind.cell) else (n,k)).lookup x=some .cell∨
   (names.map λ(n,k)=>if(k==NameKind.free&&env.scope.kind==.function&&env.kindOf n==some .cell) then(n,NameKind.cell) else(n,k)).lookup x=some .free)->names.lookup x=some .cell\/names.lookup x=some .free
 |[],x,h=>by simp at h
 |(n,k)::r,x,h=>by
  have ih:= @rS env r x;rw[aZ] at h;rw[dX]
  by_cases hc:(k==NameKind.free&&env.scope.kind==.function&&env.kindOf n==some .cell)=true
  ·simp only[hc,if_true,dX] at h;cases hx:x==n with
   |true=>
    have hk:k=.free:=by have:=hc;simp only[bP,beq_iff_eq] at this;exact this.1.1
    exact .inr (by rw[hk])
   |false=>simp only[hx] at h ⊢;exact ih h
  ·have hc':(k==NameKind.free&&env.scope.kind==.function&&env.kindOf n==some .cell)=false:=by simpa using hc
   simp only[hc',bT,if_false,dX] at h;cases hx:x==n with
   |true=>simp only[hx] at h ⊢;exact h
   |false=>simp only[hx] at h ⊢;exact ih h
theorem aFp{prog:AE}{A:BF}{R:Result->BD->Prop}{elt target:Expr}{ifs:List Expr}{scope:Scope}{pos:Pos}{it acc:BC}{env:Env}(Ξ:BC->BD->Prop)(hΞ:∀e s,Ξ e s->notedBy (AH prog w) A env (λe s'=>R (.error e) s') e s)(J:Nat->BD->Prop)
  (turn:∀n s,J n s→AK (AH prog w) A (pyNext it) (fun r s₁=>match r with
   |none=>R (.ok .next) s₁
   | some v=>AK (AH prog w) A (letOwnedTupleGo target it v) (fun _ s₂=>AK (AH prog w) A (assign target env v) (fun _ s₃=>
     AK (AH prog w) A (forIn ifs true fun c r=>if r=true then do let ok ← isTrue c env (eval c env); pure (ForInStep.yield ok) else pure (ForInStep.yield r)) (fun ok s₄=>
      if ok=true then AK (AH prog w) A (eval elt env) (λx s₅=>AK (AH prog w) A (call (.builtin "list.append") [acc,x]) (λ_ s₆=>∃m,m<n/\J m s₆) Ξ s₅) Ξ s₄
      else ∃m,m<n/\J m s₄) Ξ s₃) Ξ s₂) Ξ s₁) Ξ s)
  (n:Nat) (h:J n s):codeAny (AH prog w) A (.compLoop (.ListComp elt [⟨target,iter,ifs,0⟩] scope pos) 0 it acc env) R s:=by
 refine codeAny_loop rfl J (λn s hI=> ?_) n h;show AK _ A ((compTurn (.ListComp elt [⟨target,iter,ifs,0⟩] scope pos) 0 it acc env).onRaise λx=>do noteFrame x env;theTreesLotGoes x) _ _ s;refine wpAny_noted ?_;rw[compTurn_list];refine AA<|wpAny_standAt (AA<|Aa (turn n s hI) (λr s₁ h₁=> ?_) λe s z=>hΞ e s z);cases r with
 |none=>exact AC h₁
 |some v=>
  refine AA<|Aa h₁ (λ_ s₂ h₂=> ?_) λe s z=>hΞ e s z;refine AA<|Aa h₂ (λ_ s₃ h₃=> ?_) λe s z=>hΞ e s z;refine AA<|Aa h₃ (λok s₄ h₄=> ?_) λe s z=>hΞ e s z;cases ok with
  |false=>exact AC ⟨rfl,h₄⟩
  |true=>exact AA (AA<|Aa h₄ (λx s₅ h₅=>AA<|Aa h₅ (λ_ s₆ h₆=>AC<|AC ⟨rfl,h₆⟩) λe s z=>hΞ e s z) λe s z=>hΞ e s z)
noncomputable def aOP(X:Cx)(ifs:List Expr):TT:=λσ H Q=>∀ (pins:List (BE×BH)) (s:BD),Inv X pins σ H s->
 AK (AH X.prog X.w) X.A (forIn ifs true λc r=>if r=true then do let ok <-isTrue c X.env (eval c X.env);pure (ForInStep.yield ok) else pure (ForInStep.yield r)) (TP X pins σ Q) X.xe s
theorem aGL{Q:Bool->Hp->Prop}(h:Q true H):aOP X [] σ H Q:=λ_ _ I=>wpAny_tests_nil ⟨H,I,h⟩
theorem aHa{c:Expr}{Q:Bool->Hp->Prop}(h:wT X c σ H Q):aOP X [c] σ H Q:=λpins s I=>wpAny_tests_one<|h pins s I
noncomputable def cxB(X:Cx)(N:List Str)(scope:Scope)(cl:List (Str×BE))(C:BE)(ex:List BE)(s:BD)(H:Hp):Cx:=
 {prog:=X.prog,w:=X.w,K:=X.K,mg:=X.mg,base:=X.base,A:=X.A,N:=N,s₀:=s,H₀:=H,env:=compEnvC scope cl C X.env,outer:=X.stack,stack:=X.stack,ex:=ex,fn:=λ_=>false,calm:=true,pn:=[],xe:=λ_ _=>False}
noncomputable def qA(X:Cx)(N:List Str)(scope:Scope)(cl:List (Str×BE))(C:BE)(ex:List BE)(s:BD)(H:Hp)(ξ:BC->BD->Prop):Cx:={cxB X N scope cl C ex s H with xe:=ξ}
noncomputable def xV(cap:List (Option Nat))(σ:St):St:=cap.map λo=>o.bind λk=>(σ[k]?).join
noncomputable def pS(scope sc:Scope):Bool:=scope.names.all λy=>(!(y.2==NameKind.free)||sc.names.lookup y.1==some NameKind.cell)&&!(y.2==NameKind.cell)&&(!(y.2==NameKind.local)||scope.names.lookup y.1==some NameKind.local)
noncomputable def mZ(N M:List Str)(scope sc:Scope)(cap:List (Option Nat)):Bool:=cap.length==N.length&&(cap.zip N).all λy=>match y.1 with
 |none=>true
 |some k=>M[k]? ==some y.2&&sc.names.lookup y.2==some NameKind.cell&&scope.names.lookup y.2==some NameKind.free
theorem iS{env:Env}(hf:env.scope.kind=.function):∀ {names:List (Str×NameKind)}{x:Str},names.lookup x=some .free->env.kindOf x=some .cell->
  (names.map λ(n,k)=>if(k==NameKind.free&&env.scope.kind==.function&&env.kindOf n==some .cell) then(n,NameKind.cell) else(n,k)).lookup x=some .cell
 |[],x,h,_=>by simp at h
 |(n,k)::r,x,h,hc=>by
  rw[aZ];cases hx:x==n with
  |true=>
   have e:x=n:=by simpa using hx
   subst e;rw[dX] at h;simp only[beq_self_eq_true] at h;have ek:k=.free:=bZ.inj h;subst ek;have hb:(NameKind.free==NameKind.free&&env.scope.kind==.function&&env.kindOf x==some .cell)=true:=by rw[hf,hc];rfl
   show iR x ((if(NameKind.free==NameKind.free&&env.scope.kind==.function&&env.kindOf x==some .cell)=true then(x,NameKind.cell) else(x,NameKind.free))::_)=_;rw[if_pos hb,dX];simp only[beq_self_eq_true]
  |false=>
   rw[dX] at h;simp only[hx] at h;have ih:=iS hf (names:=r) h hc
   by_cases hb:(k==NameKind.free&&env.scope.kind==.function&&env.kindOf n==some .cell)=true
   ·simp only[hb,if_true,dX,hx];exact ih
   ·have hb':(k==NameKind.free&&env.scope.kind==.function&&env.kindOf n==some .cell)=false:=by simpa using hb
    simp only[hb',bT,if_false,dX,hx];exact ih
theorem Inv.low(I:Inv X pins σ H s):∀b∈frs X.stack,b<s.heap.objs.size:=λb hb=>by obtain⟨_,o,ho,_⟩:=I.stack.mem hb;exact aR ho
theorem aFB{elt:Expr}{ifs:List Expr}{scope:Scope}{pos:Pos}{N:List Str}{cap:List (Option Nat)}{g:TG}{tt:TT}{te:TE}{J:It}{fp:List BE}{it:BE}{tn:Nat->BG->Prop}{E:BC->BD->Prop}{sc:Scope}(ξ:List (Str×BE)->BE->BC->BD->Prop)(ξ':List (Str×BE)->BE->BC->Hp->BD->Prop)
  (hc:X.calm=true) (hsc:X.env.scope=sc) (hcn:pS scope sc=true) (hcap:mZ N X.N scope sc cap=true) (hk:scope.kind=.function)
  (I:Inv X pins σ H s) (T:aJg X.prog X.w X.K tg J fp it tn) (st:tn 0 s.heap) (hfp:∀b∈fp,xD X pins H b)
  (hg:∀cl C,PG (qA X N scope cl C fp s H<|ξ cl C) tg g) (ht:∀cl C pi s2 σ2 H2 Q,Inv (qA X N scope cl C fp s H<|ξ cl C) pi σ2 H2 s2->tt σ2 H2 Q->AK (AH X.prog X.w) X.A (forIn ifs true λc r=>if r=true then do let ok <-isTrue c (compEnvC scope cl C X.env) (eval c<|compEnvC scope cl C X.env);pure (ForInStep.yield ok) else pure (ForInStep.yield r)) (TP (qA X N scope cl C fp s H<|ξ cl C) pi σ2 Q) (ξ cl C) s2)
  (he:∀cl C,PE (qA X N scope cl C fp s H<|ξ cl C) elt te) (W:Nat->Nat->List V->St->Hp->Prop) (m0:Nat) (w0:W 0 m0 [] (xV cap σ) H)
  (RR:BC->BE->Result->BD->Prop)
  (hξ:∀cl C e s',ξ cl C e s'->∃pi σb H',Inv (qA X N scope cl C fp s H<|ξ cl C) pi σb H' s'/\ξ' cl C e H' s')
  (hx:∀cl D C e H' s',ξ' cl C e H' s'->H' C=none->X.s₀.heap.objs.size<=C->C≠X.env.locals->(∀x c,X.env.cells.lookup x=some c->c≠C)->(∀p∈X.pn++pins,p.1≠C)->C∉frs X.stack->(∃m,s'.heap.Ns C m)->Inv X pins σ H' s'->notedBy (AH X.prog X.w) X.A (compEnvC scope cl C X.env) (λe s''=>RR (.ref D) C (.error e) s'') e s')
  (turn:∀i m ys σb H2,W i m ys σb H2→
   (J.stop i H2/\∀D C s',H2 D=none->H2 C=none->D≠C->X.s₀.heap.objs.size<=C->C≠X.env.locals->(∀x c,X.env.cells.lookup x=some c->c≠C)->(∀p∈X.pn++pins,p.1≠C)->C∉frs X.stack->(∃m,s'.heap.Ns C m)->Inv X pins σ (upd H2 D<|.lst ys) s'->RR (.ref D) C (.ok .next) s')\/
   (J.go i H2∧ys.length<AL∧∃Nx:List V→St→Hp→Prop,(∀ys' σ' H',Nx ys' σ' H'→∃m',m'<m∧W (i+1) m' ys' σ' H')∧
    ∀x H',J.yld i H2 x H'->g x σb H' λσ2 H3=>tt σ2 H3 λb H4=>if b=true then te σ2 H4 λv H5=>Nx (ys++[v]) σ2 H5 else Nx ys σ2 H4)):
  AK (AH X.prog X.w) X.A (newList []) (fun acc s₃=>AK (AH X.prog X.w) X.A (newFunctionEnv scope X.env.globals (clo X.env.cells scope.names []) [] X.env.qual none .none (some X.env)) (fun cenv s₄=>
   codeAny (AH X.prog X.w) X.A (.compStart (.ListComp elt [⟨tg,iter,ifs,0⟩] scope pos) 0 (.ref it) acc {cenv with scope:=relabel scope X.env}) (RR acc cenv.locals) s₄) E s₃) E s:=by
 have nm:∀y∈scope.names,(y.2=NameKind.free->sc.names.lookup y.1=some NameKind.cell)/\y.2≠NameKind.cell/\(y.2=NameKind.local->scope.names.lookup y.1=some NameKind.local):=λy hy=>by have q:=iU.mp hcn y hy;simp only[bP,xT,tX,beq_eq_false_iff_ne,ne_eq,beq_iff_eq] at q;exact⟨λe=>q.1.1.resolve_left λz=>z e,q.1.2,λe=>q.2.resolve_left λz=>z e⟩
 have fre:∀y∈scope.names,y.2=.free->∃c,X.env.cells.lookup y.1=some c:=λy hy e=>I.ok.has y.1 (.inl<|by show X.env.scope.names.lookup y.1=_;rw[hsc];exact(nm y hy).1 e)
 generalize hcl:clo X.env.cells scope.names []=cl
 have csub:∀x c,cl.lookup x=some c->X.env.cells.lookup x=some c:=λx c e=>by
  rw[<-hcl] at e
  rcases aCf _ _ _ _ _ e with z|⟨z1,z2⟩
  ·simp at z
  ·obtain⟨c',q⟩:=fre _ z1 rfl;rw[q] at z2;rw[q,z2];rfl
 have chas:∀x,((relabel scope X.env).names.lookup x=some .cell\/(relabel scope X.env).names.lookup x=some .free)->∃c,cl.lookup x=some c:=λx e=>by
  rcases rS e with z|z
  ·exact absurd rfl (nm _<|PySem.mem_of_lookup z).2.1
  ·rw[<-hcl];exact aEE _ _ _ _ (.inl<|PySem.mem_of_lookup z)
 have cexi:∀x c,cl.lookup x=some c->c<s.heap.objs.size:=λx c e=>by obtain⟨v,o,ho,_⟩:=I.cell x c<|csub x c e;exact aR ho
 have cexX:∀x c,X.env.cells.lookup x=some c->c<s.heap.objs.size:=λx c e=>by obtain⟨v,o,ho,_⟩:=I.cell x c e;exact aR ho
 have pexX:∀p∈X.pn++pins,p.1<s.heap.objs.size:=λp hp=>aR (I.pin p hp).1
 have flow:∀b∈fp,b<s.heap.objs.size:=λb hb=>by obtain⟨o,ho,_⟩:=T.obj 0 _ st b hb;exact aR ho
 have fstk:∀b∈fp,b∉frs X.stack:=λb hb z=>by
  obtain⟨_,f1,f2,_⟩:=hfp b hb
  rcases bD.mp (I.stkSub b z) with q|q
  ·exact f1 q
  ·exact f2 q
 have hkr:(relabel scope X.env).kind=.function:=hk;refine AW<|wpAny_newFunctionEnv (λy hy=>(nm y hy).2.1) (by intro y hy;simp at hy) (λh₁ hns₁ hsb₁=> ?_) hk;dsimp only at hns₁ hsb₁ ⊢;generalize hH2:s.heap.push {cls:=.type "list",dict:=none,data:=.seq ([]:List BC).toArray}=G2 at hns₁ hsb₁ ⊢;have hC:G2.objs.size=s.heap.objs.size+1:=by rw[<-hH2,mI]
 have hDC:s.heap.objs.size≠G2.objs.size:=by rw[hC];exact bW<|gS _
 have hCle:s.heap.objs.size<=G2.objs.size:=by rw[hC];exact hW _
 have neC:∀b,b<s.heap.objs.size->b≠G2.objs.size:=λb hb=>by rw[hC];exact bW<|nH hb
 have old:∀b o,s.heap.get? b=some o->h₁.get? b=some o:=λb o e=>hsb₁.extBut b o (neC b<|aR e) (aD _<|hH2▸aD _ e)
 have hacc:h₁.get? s.heap.objs.size=some {cls:=.type "list",dict:=none,data:=.seq ([]:List BC).toArray}:=hsb₁.extBut _ _ hDC (aD _<|hH2▸bL _ rfl);have env_eq:({newEnv scope G2.objs.size X.env.globals cl X.env.qual none .none (some X.env) 0 with scope:=relabel scope X.env}:Env)=compEnvC scope cl G2.objs.size X.env:=rfl;generalize hDD:s.heap.objs.size=D at *;generalize hCC:G2.objs.size=C at *
 have okX:(qA X N scope cl C fp s H<|ξ cl C).Ok:=by
  refine⟨I.mod,hkr,I.ok.glob,I.ok.blt, ?_,λx y c a b=>I.ok.inj x y c (csub x c a)<|csub y c b,chas,(λx c z=>nomatch z),λ_=>I.ok.hd hc,I.ok.frames,.inl rfl,λb hb=>⟨neC b<|flow b hb,λx c e=>(hfp b hb).2.2.2.2.1 x c<|csub x c e⟩,I.bs, ?_,λb o e hb=> ?_,fstk,I.stack,I.stkFree⟩
  ·show s.heap.objs.size<=C;rw[hDD];exact hCle
  ·exact cF I.ok.bsz I.sz
  ·rcases(hfp b hb).2.2.2.1 with z|z
   ·exact I.ok.noex b o e z
   ·exact absurd (aY (aR e)<|cF I.ok.bsz z)<|eL _
 have capE:∀ (i:Nat) (x:Str) (v:V),N[i]? =some x->(xV cap σ)[i]? =some (some v)->∃k:Nat,X.N[k]? =some x/\σ[k]? =some (some v)/\sc.names.lookup x=some .cell/\scope.names.lookup x=some .free:=λi x v e1 e2=>by
  unfold mZ at hcap;rw[bP] at hcap;unfold xV at e2;rw[aW] at e2;cases q:cap[i]? with
  |none=>rw[q] at e2;cases e2
  |some o=>
   rw[q] at e2;have e2:(o.bind λk=>(σ[k]?).join)=some v:=bZ.inj e2;cases o with
   |none=>cases e2
   |some k=>
    have e2:(σ[k]?).join=some v:=e2
    have mz:(some k,x)∈cap.zip N:=by refine bA (i:=i) ?_;rw[aAi];exact⟨q,e1⟩
    have z:=iU.mp hcap.2 _ mz;simp only[bP,beq_iff_eq] at z;refine⟨k,z.1.1, ?_,z.1.2,z.2⟩;cases w:σ[k]? with
    |none=>rw[w] at e2;cases e2
    |some o'=>rw[w] at e2;have e2:o'=some v:=e2;rw[e2]
 have I0:Inv (qA X N scope cl C fp s H<|ξ cl C) [(D,{cls:=.type "list",dict:=none,data:=.seq ([]:List BC).toArray})] (xV cap σ) H {s with heap:=h₁,toks:=s.toks+([]:List (Str×BC)).length}:=by
  have dfree:H D=none:=I.hok.fresh<|pD hDD;refine⟨okX,rfl,I.bare,Un.kept old,⟨_,hns₁,λi x v e1 e2 e3=> ?_⟩,λx c e=> ?_,I.hok.fresh (by rw[hDD];exact hCle),λx c e=>I.freeC x c<|csub x c e,λp hp=> ?_,I.hok.kept old, ?_⟩
  ·obtain⟨k,q1,q2,q3,q4⟩:=capE i x v e1 e2;have q3':X.env.scope.names.lookup x=some .cell:=by rw[hsc];exact q3
   obtain⟨m,_,hl⟩:=I.loc;obtain⟨u,ru,lk⟩:=hl k x v q1 q2 (.inr<|.inl q3');refine⟨u,ru,.inr ⟨.inl<|iS I.ok.kind q4 q3', ?_⟩⟩
   rcases lk with⟨z,_⟩|⟨_,c,z,ic⟩
   ·have z':X.env.scope.names.lookup x=some .local:=z;rw[q3'] at z';cases z'
   ·obtain⟨c',hc'⟩:=chas x (.inl<|iS I.ok.kind q4 q3');have:=csub x c' hc';rw[z] at this;have ec:c=c':=bZ.inj this;subst ec;obtain⟨o,ho,hd⟩:=ic;exact⟨c,hc',o,old c o ho,hd⟩
  ·obtain⟨v,o,ho,hd⟩:=I.cell x c<|csub x c e;exact⟨v,o,old c o ho,hd⟩
  ·have hp':p=(D,{cls:=.type "list",dict:=none,data:=.seq ([]:List BC).toArray}):=by simpa[qA,cxB] using hp
   subst hp';refine⟨hacc,dfree,hDC,λz=> ?_,λv z=>by cases z⟩;have:=I.low D z;rw[hDD] at this;exact eL _ this
  ·show(xV cap σ).length=N.length;unfold mZ at hcap;rw[bP] at hcap;unfold xV;rw[aC];simpa using hcap.1
 have dlow:∀b,b<D->b≠D:=λb hb=>bW hb
 have loop:∀s₃:BD,s₃={s with heap:=h₁,toks:=s.toks+([]:List (Str×BC)).length}->
   codeAny (AH X.prog X.w) X.A (.compLoop (.ListComp elt [⟨tg,iter,ifs,0⟩] scope pos) 0 (.ref it) (.ref D)<|compEnvC scope cl C X.env) (RR (.ref D) C) s₃:=by
  rintro s₃ rfl
  refine aFp (ξ cl C) (λe s' z=> ?_) (λn s'=>∃ (i:Nat) (ys:List V) (σb:St) (H2:Hp) (its:List BC) (nn:Nat),Inv (qA X N scope cl C fp s H<|ξ cl C) [(D,{cls:=.type "list",dict:=none,data:=.seq its.toArray nn})] σb H2 s'/\tn i s'.heap/\(∀b∈fp,H2 b=none)/\Vals ys its/\ys.length<=AL/\W i n ys σb H2) ?_ m0
   ⟨0,[],xV cap σ,H,[],0,I0,T.keep 0 _ _ st λb hb o e=>old b o e,λb hb=>(hfp b hb).1,.nil,cP _,w0⟩
  ·obtain⟨pi,σb,H',I',z'⟩:=hξ cl C e s' z;obtain⟨m4,ns4,_⟩:=id I'.loc;have J0:Inv X pins σ H' s':=I.call' (ch:=fp) I'.os I'.base I'.hok I'.bare λb hb=>⟨(hfp b hb).2.2.2.1,(hfp b hb).2.1,(hfp b hb).2.2.2.2.1,(hfp b hb).2.2.2.2.2⟩
   have hLD:X.env.locals<D:=by rw[<-hDD];exact I.lt
   exact hx cl D C e H' s' z' I'.free (cF I.sz<|by rw[hDD];exact hCle) (kE<|aY hLD hCle) (λx c e=>neC c<|cexX x c e) (λp hp=>neC _<|pexX p hp) (λz=>absurd (I.low C z)<|by rw[hDD];exact pF.mpr hCle) ⟨m4,ns4⟩ J0
  rintro n s3 ⟨i,ys,σ3,H3,its,nn,I3,st3,fr3,rv3,hlen,w3⟩
  have fpX:∀ {H':Hp}{its':List BC}{nn':Nat},(∀b∈fp,H' b=none)->∀b∈fp,xD (qA X N scope cl C fp s H<|ξ cl C) [(D,{cls:=.type "list",dict:=none,data:=.seq its'.toArray nn'})] H' b:=λ{H' its' nn'} hn b hb=>by
   refine⟨hn b hb,neC b<|flow b hb,fstk b hb,.inl hb,λx c e=>(hfp b hb).2.2.2.2.1 x c<|csub x c e,λp hp=> ?_⟩
   have hp':p.1=D:=by have q:p∈([]:List (BE×BH))++[(D,{cls:=.type "list",dict:=none,data:=.seq its'.toArray nn'})]:=hp;rw[pC,aI] at q;rw[q]
   rw[hp'];exact Ne.symm (dlow b<|flow b hb)
  rcases turn i n ys σ3 H3 w3 with⟨stop,fin⟩|⟨go,hsz,Nx,hN,step⟩
  ·refine thn (T.done (qA X N scope cl C fp s H<|ξ cl C) rfl rfl rfl rfl i _ s3 σ3 H3 (ξ cl C) I3 (fpX fr3) st3 stop) λr s4 ⟨hr,I4⟩=> ?_
   subst hr;obtain⟨m4,ns4,_⟩:=id I4.loc;have J0:Inv X pins σ H3 s4:=I.call' (ch:=fp) I4.os I4.base I4.hok I4.bare λb hb=>⟨(hfp b hb).2.2.2.1,(hfp b hb).2.1,(hfp b hb).2.2.2.2.1,(hfp b hb).2.2.2.2.2⟩
   obtain⟨pd,pn,_⟩:=I4.pin (D,_)<|aM _ aJ;have hLD:X.env.locals<D:=by rw[<-hDD];exact I.lt
   refine fin D C s4 pn I4.free hDC (cF I.sz<|by rw[hDD];exact hCle) (kE<|aY hLD hCle) (λx c e=>neC c<|cexX x c e) (λp hp=>neC _<|pexX p hp) (λz=>absurd (I.low C z)<|by rw[hDD];exact pF.mpr hCle) ⟨m4,ns4⟩ ?_;refine J0.track pn (by rw[<-hDD];exact I.sz) (kE hLD) (λx c e=>dlow c<|cexX x c e) (λp hp=>dlow _<|pexX p hp) ?_;exact⟨hlen,its,nn,rv3,pd⟩
  ·refine thn (T.item (qA X N scope cl C fp s H<|ξ cl C) rfl rfl rfl rfl i _ s3 σ3 H3 (ξ cl C) I3 (fpX fr3) st3 go) λr s4 ⟨u,hr,h4⟩=> ?_
   subst hr;refine thn h4 λ_ s5 ⟨x,H5,I5,r5,y5,st5,fr5⟩=> ?_
   have I5':=I5.pinned (fpX fr5)<|T.obj _ _ st5;refine thn (hg cl C _ s5 σ3 H5 x u _ I5' r5<|step x H5 y5) λ_ s6 ⟨σ6,H6,I6,q6⟩=> ?_
   refine thn (ht cl C _ s6 σ6 H6 _ I6 q6) λb s7 ⟨H7,I7,q7⟩=> ?_
   have tnK:∀ {σ7:St}{H7:Hp}{s7:BD},Inv (qA X N scope cl C fp s H<|ξ cl C) ([(D,{cls:=.type "list",dict:=none,data:=.seq its.toArray nn})]++nQ fp s5.heap) σ7 H7 s7->tn (i+1) s7.heap/\∀b∈fp,H7 b=none:=λ{σ7 H7 s7} I7=>by refine⟨T.keep _ _ _ st5 λb hb o e=>(I7.pin (b,o)<|aM _ (aM _<|jF hb e)).1,λb hb=> ?_⟩;obtain⟨o,e,d⟩:=T.obj _ _ st5 b hb;exact(I7.pin (b,o)<|aM _ (aM _<|jF hb e)).2.1
   cases b with
   |false=>have q7':Nx ys σ6 H7:=q7;obtain⟨m',hm,w7⟩:=hN _ _ _ q7';obtain⟨t7,f7⟩:=tnK I7;exact⟨m',hm,i+1,ys,σ6,H7,its,nn,I7.unpinned,t7,f7,rv3,hlen,w7⟩
   |true=>
    have q7':te σ6 H7 λv H5=>Nx (ys++[v]) σ6 H5:=q7
    refine thn (he cl C _ s7 σ6 H7 _ I7 q7') λy s8 ⟨v,H8,I8,r8,q8⟩=> ?_
    obtain⟨m',hm,w8⟩:=hN _ _ _ q8;obtain⟨pd,pn,pL,pf,pc⟩:=I8.pin (D,{cls:=.type "list",dict:=none,data:=.seq its.toArray nn}) (aM _<|bO _ aJ);have hits:its.length=ys.length:=rv3.length.symm;refine wpAny_list_append_plain (items:=its.toArray) ⟨nn,pd⟩ (λh9 pl9 sb9=> ?_) (by rw[bC,hits];exact dE hsz);obtain⟨n9,e9⟩:=pl9
    have e9':h9.get? D=some {cls:=.type "list",dict:=none,data:=.seq (its++[y]).toArray n9}:=by rw[e9];simp
    have I8':Inv (qA X N scope cl C fp s H<|ξ cl C) (nQ fp s5.heap) σ6 H8 s8:=I8.pins_of λp hp=>I8.pin p (aM _<|aM _ hp)
    have I9:Inv (qA X N scope cl C fp s H<|ξ cl C) (nQ fp s5.heap) σ6 H8 {s8 with heap:=h9,toks:=s8.toks}:=I8'.turned (it:=D) (λb o hb e=>sb9.extBut b o hb e) pn hDC (.inr<|by rw[<-hDD];exact aN _) (λx c e=>dlow c<|cexi x c e) λp hp=>by
     have hp':p∈nQ fp s5.heap:=by simpa[qA,cxB] using hp
     exact dlow _<|flow _ (tI hp').1
    have tn9:tn (i+1) h9:=T.keep _ _ _ st5 λb hb o e=>(I9.pin (b,o) (aM _<|jF hb e)).1
    have fr9:∀b∈fp,H8 b=none:=λb hb=>by obtain⟨o,e,d⟩:=T.obj _ _ st5 b hb;exact(I9.pin (b,o) (aM _<|jF hb e)).2.1
    refine⟨m',hm,i+1,ys++[v],σ6,H8,its++[y],n9,I9.pins_of λp hp=> ?_,tn9,fr9,Vals.append rv3<|.cons r8 .nil,by rw[aH];exact hsz,w8⟩;have hp':p=(D,{cls:=.type "list",dict:=none,data:=.seq (its++[y]).toArray n9}):=aI.mp hp;subst hp';exact⟨e9',pn,pL,pf,λv z=>by cases z⟩
 exact codeAny_compStart_list (loop _ rfl) (T.self _ 0 _ _ _ (T.keep 0 _ _ st λb hb o e=>old b o e)<|loop _ rfl)
theorem aGz{elt:Expr}{ifs:List Expr}{scope:Scope}{pos:Pos}{N:List Str}{cap:List (Option Nat)}{g:TG}{tt:TT}{te:TE}{J:It}{fp:List BE}{it:BE}{tn:Nat->BG->Prop}{E:BC->BD->Prop}{sc:Scope}
  (hc:X.calm=true) (hsc:X.env.scope=sc) (hcn:pS scope sc=true) (hcap:mZ N X.N scope sc cap=true) (hk:scope.kind=.function)
  (I:Inv X pins σ H s) (T:aJg X.prog X.w X.K tg J fp it tn) (st:tn 0 s.heap) (hfp:∀b∈fp,xD X pins H b)
  (hg:∀cl C,PG (cxB X N scope cl C fp s H) tg g) (ht:∀cl C pi s2 σ2 H2 Q,Inv (cxB X N scope cl C fp s H) pi σ2 H2 s2->tt σ2 H2 Q->AK (AH X.prog X.w) X.A (forIn ifs true λc r=>if r=true then do let ok <-isTrue c (compEnvC scope cl C X.env) (eval c<|compEnvC scope cl C X.env);pure (ForInStep.yield ok) else pure (ForInStep.yield r)) (TP (cxB X N scope cl C fp s H) pi σ2 Q) (λ_ _=>False) s2)
  (he:∀cl C,PE (cxB X N scope cl C fp s H) elt te) (W:Nat->Nat->List V->St->Hp->Prop) (m0:Nat) (w0:W 0 m0 [] (xV cap σ) H)
  (RR:BC->BE->Result->BD->Prop)
  (turn:∀i m ys σb H2,W i m ys σb H2→
   (J.stop i H2/\∀D C s',H2 D=none->H2 C=none->D≠C->X.s₀.heap.objs.size<=C->C≠X.env.locals->(∀x c,X.env.cells.lookup x=some c->c≠C)->(∀p∈X.pn++pins,p.1≠C)->C∉frs X.stack->(∃m,s'.heap.Ns C m)->Inv X pins σ (upd H2 D<|.lst ys) s'->RR (.ref D) C (.ok .next) s')\/
   (J.go i H2∧ys.length<AL∧∃Nx:List V→St→Hp→Prop,(∀ys' σ' H',Nx ys' σ' H'→∃m',m'<m∧W (i+1) m' ys' σ' H')∧
    ∀x H',J.yld i H2 x H'->g x σb H' λσ2 H3=>tt σ2 H3 λb H4=>if b=true then te σ2 H4 λv H5=>Nx (ys++[v]) σ2 H5 else Nx ys σ2 H4)):
  AK (AH X.prog X.w) X.A (newList []) (fun acc s₃=>AK (AH X.prog X.w) X.A (newFunctionEnv scope X.env.globals (clo X.env.cells scope.names []) [] X.env.qual none .none (some X.env)) (fun cenv s₄=>
   codeAny (AH X.prog X.w) X.A (.compStart (.ListComp elt [⟨tg,iter,ifs,0⟩] scope pos) 0 (.ref it) acc {cenv with scope:=relabel scope X.env}) (RR acc cenv.locals) s₄) E s₃) E s:=
 aFB (λ_ _ _ _=>False) (λ_ _ _ _ _=>False) hc hsc hcn hcap hk I T st hfp hg ht he W m0 w0 RR (λ_ _ _ _ z=>z.elim) (λ_ _ _ _ _ _ z=>z.elim) turn
end L2
namespace DL
open PySem PySem.Spec PyProof.Rows L2
noncomputable abbrev St:=L2.St
inductive D where
 |non|bl (b:Bool)|int (i:Int)|str (x:Str)|tup (ds:List D)|lst (ds:List D)|dic|scr (ns:List Int)|dki (ks:List Key) (ds:List D)|any (G:V->Hp->Prop)
mutual
noncomputable def Rep(K:aA)(H:Hp):D->V->Prop
 |.non,v=>v=.non
 |.bl b,v=>v=.bl b
 |.int i,v=>v=.int i
 |.str x,v=>v=.str x
 |.tup ds,v=>∃a xs,v=.ref a/\H a=some (.tup xs)/\RepL K H ds xs
 |.lst ds,v=>∃a xs,v=.ref a/\H a=some (.lst xs)/\RepL K H ds xs
 |.dic,v=>∃a,v=.ref a/\H a=some (.dK [])
 |.dki ks ds,v=>∃a xs,v=.ref a/\(∃ob,H a=some (.frz ob (.dK<|ks.zip xs)))/\ks.length=ds.length/\RepL K H ds xs
 |.scr ns,v=>∃a,v=.ref a/\SqL K H a (ns.map V.int)
 |.any G,v=>(∃a,v=.ref a)/\∀H',Same H H'->G v H'
noncomputable def RepL(K:aA)(H:Hp):List D->List V->Prop
 |[],xs=>xs=[]
 |d::ds,xs=>∃y ys,xs=y::ys/\Rep K H d y/\RepL K H ds ys
end
mutual
theorem Rep.mono{K:aA}{H H':Hp}(h:Same H H'):∀ {d:D}{v:V},Rep K H d v->Rep K H' d v
 |.non,_,r=>by simpa only[Rep] using r
 |.bl _,_,r=>by simpa only[Rep] using r
 |.int _,_,r=>by simpa only[Rep] using r
 |.str _,_,r=>by simpa only[Rep] using r
 |.tup ds,v,r=>by simp only[Rep] at r ⊢;obtain⟨a,xs,e,q,rl⟩:=r;exact⟨a,xs,e,h _ _ q,RepL.mono h rl⟩
 |.lst ds,v,r=>by simp only[Rep] at r ⊢;obtain⟨a,xs,e,q,rl⟩:=r;exact⟨a,xs,e,h _ _ q,RepL.mono h rl⟩
 |.dki ks ds,v,r=>by simp only[Rep] at r ⊢;obtain⟨a,xs,e,⟨ob,q⟩,l,rl⟩:=r;exact⟨a,xs,e,⟨ob,h _ _ q⟩,l,RepL.mono h rl⟩
 |.dic,v,r=>by simp only[Rep] at r ⊢;obtain⟨a,e,q⟩:=r;exact⟨a,e,h _ _ q⟩
 |.any G,v,r=>by simp only[Rep] at r ⊢;exact⟨r.1,λH2 s=>r.2 H2<|h.trans s⟩
 |.scr ns,v,r=>by simp only[Rep] at r ⊢;obtain⟨a,e,q⟩:=r;exact⟨a,e,h.seq q⟩
theorem RepL.mono{K:aA}{H H':Hp}(h:Same H H'):∀ {ds:List D}{xs:List V},RepL K H ds xs->RepL K H' ds xs
 |[],_,r=>by simpa only[RepL] using r
 |d::ds,xs,r=>by simp only[RepL] at r ⊢;obtain⟨y,ys,e,q,rl⟩:=r;exact⟨y,ys,e,Rep.mono h q,RepL.mono h rl⟩
end
theorem RepL.len{K:aA}{H:Hp}:∀ {ds:List D}{xs:List V},RepL K H ds xs->xs.length=ds.length
 |[],_,r=>by simp only[RepL] at r;rw[r];rfl
 |d::ds,xs,r=>by simp only[RepL] at r;obtain⟨y,ys,rfl,_,q⟩:=r;simp only[bF,RepL.len q]
theorem RepL.get{K:aA}{H:Hp}:∀ {ds:List D}{xs:List V}{i:Nat}{d:D},RepL K H ds xs->ds[i]? =some d->∃v,xs[i]? =some v/\Rep K H d v
 |[],_,i,d,r,e=>by simp at e
 |d'::ds,xs,i,d,r,e=>by
  simp only[RepL] at r;obtain⟨y,ys,rfl,q,rl⟩:=r;cases i with
  |zero=>simp at e;subst e;exact⟨y,rfl,q⟩
  |succ i=>
   have e':ds[i]? =some d:=by simpa using e
   obtain⟨v,h1,h2⟩:=RepL.get rl e';exact⟨v,by simpa using h1,h2⟩
theorem RepL.app{K:aA}{H:Hp}:∀ {ds es:List D}{xs ys:List V},RepL K H ds xs->RepL K H es ys->RepL K H (ds++es) (xs++ys)
 |[],es,xs,ys,r,q=>by simp only[RepL] at r;subst r;exact q
 |d::ds,es,xs,ys,r,q=>by simp only[RepL] at r;obtain⟨y,zs,rfl,a,rl⟩:=r;show RepL K H (d::(ds++es)) (y::(zs++ys));simp only[RepL];exact⟨y,_,rfl,a,RepL.app rl q⟩
theorem RepL.nil{K:aA}{H:Hp}:RepL K H [] []:=by simp only[RepL]
theorem RepL.cons{K:aA}{H:Hp}{d:D}{ds:List D}{x:V}{xs:List V}(a:Rep K H d x)(b:RepL K H ds xs):RepL K H (d::ds) (x::xs):=by simp only[RepL];exact⟨x,xs,rfl,a,b⟩
theorem RepL.one{K:aA}{H:Hp}{d:D}{x:V}(a:Rep K H d x):RepL K H [d] [x]:=.cons a .nil
theorem RepL.uncons{K:aA}{H:Hp}{d:D}{ds:List D}{xs:List V}(r:RepL K H (d::ds) xs):∃y ys,xs=y::ys/\Rep K H d y/\RepL K H ds ys:=by simpa only[RepL] using r
theorem RepL.take{K:aA}{H:Hp}:∀ {ds:List D}{xs:List V} (n:Nat),RepL K H ds xs->RepL K H (ds.take n) (xs.take n)
 |_,_,0,_=>by simp only[aNW];exact .nil
 |[],xs,n+1,r=>by simp only[RepL] at r;subst r;exact .nil
 |d::ds,xs,n+1,r=>by obtain⟨y,ys,rfl,a,rl⟩:=r.uncons;simp only[qT];exact .cons a<|RepL.take n rl
theorem RepL.drop{K:aA}{H:Hp}:∀ {ds:List D}{xs:List V} (n:Nat),RepL K H ds xs->RepL K H (ds.drop n) (xs.drop n)
 |_,_,0,r=>by simpa only[aNX] using r
 |[],xs,n+1,r=>by simp only[RepL] at r;subst r;exact .nil
 |d::ds,xs,n+1,r=>by obtain⟨y,ys,rfl,a,rl⟩:=r.uncons;simp only[List.drop_succ_cons];exact RepL.drop n rl
theorem RepL.ints{K:aA}{H:Hp}:∀ {ns:List Int}{xs:List V},RepL K H (ns.map D.int) xs->xs=ns.map V.int
 |[],xs,r=>by simpa only[eO,RepL] using r
 |n::ns,xs,r=>by rw[aZ] at r;obtain⟨y,ys,rfl,a,rl⟩:=r.uncons;simp only[Rep] at a;rw[a,RepL.ints rl];rfl
inductive Slot where
 |un|val (d:D)|own (l:BE) (ds:List D)|gh (d:D) (G:V->Hp->Prop)|od (l:BE) (ks:List Key) (ds:List D)|ox (ls:List BE) (G:V->Hp->Hp->Prop)
noncomputable def Wr(l:BE):HO->Prop
 |.lst _=>True
 |.dK _=>True
 |.ext φ=>∃o:BH,φ=(λh=>h.get? l=some o)/\∀v,o.data≠ .cell v
 |_=>False
noncomputable def dR(K:aA)(F H:Hp):Slot->Option V->Prop
 |.un,_=>True
 |.val d,o=>∃v,o=some v/\Rep K F d v
 |.own l ds,o=>o=some (.ref l)/\F l=none/\∃xs,H l=some (.lst xs)/\RepL K F ds xs
 |.od l ks ds,o=>o=some (.ref l)/\F l=none/\∃xs,H l=some (.dK<|ks.zip xs)/\ks.length=ds.length/\RepL K F ds xs
 |.gh d G,o=>∃v,o=some v/\Rep K F d v/\∀F',Same F F'->G v F'
 |.ox ls G,o=>∃v,o=some v/\(∀l∈ls,F l=none/\∃ob,H l=some ob/\Wr l ob)/\∀F' H',Same F F'->(∀l∈ls,∀ob,H l=some ob->H' l=some ob)->G v F' H'
noncomputable def SlotsOk(K:aA)(F H:Hp):List Slot->St->Prop
 |[],σ=>σ=[]
 |z::zs,σ=>∃o r,σ=o::r/\dR K F H z o/\SlotsOk K F H zs r
noncomputable def fK:Slot->List BE
 |.own l _=>[l]
 |.od l _ _=>[l]
 |.ox ls _=>ls
 |_=>[]
noncomputable def cA(sd:List Slot):List BE:=sd.flatMap fK
theorem lQ(z:Slot)(zs:List Slot):cA (z::zs)=fK z++cA zs:=rfl
structure StF(K:aA)(H₀ F H:Hp)(σ:St)(sd:List Slot):Prop where
 base:Same H₀ F
 sub:Same F H
 smp:Smp H
 slots:SlotsOk K F H sd σ
 nd:(cA sd).Nodup
variable {K:aA}{H₀ F F' H H':Hp}{σ:St}{sd:List Slot}
theorem SlotsOk.get:∀ {sd:List Slot}{σ:St}{i:Nat}{z:Slot},SlotsOk K F H sd σ->sd[i]? =some z->∃o,σ[i]? =some o/\dR K F H z o
 |[],_,_,_,_,e=>by simp at e
 |z'::zs,σ,i,z,h,e=>by
  obtain⟨o,r,rfl,a,b⟩:=h;cases i with
  |zero=>simp at e;subst e;exact⟨o,rfl,a⟩
  |succ i=>obtain⟨o',h1,h2⟩:=SlotsOk.get (i:=i) b (by simpa using e);exact⟨o',by simpa using h1,h2⟩
theorem SlotsOk.set{z:Slot}{o:Option V}(q:dR K F H z o):∀ {sd:List Slot}{σ:St} (i:Nat),SlotsOk K F H sd σ->SlotsOk K F H (sd.set i z) (σ.set i o)
 |[],_,_,h=>by have h:_=_:=h;subst h;rfl
 |z'::zs,σ,i,h=>by
  obtain⟨o',r,rfl,a,b⟩:=h;cases i with
  |zero=>exact⟨o,r,rfl,q,b⟩
  |succ i=>exact⟨o',_,rfl,a,SlotsOk.set q i b⟩
theorem SlotsOk.mono(hF:Same F F'):∀ {sd:List Slot}{σ:St},(∀l∈cA sd,F' l=none/\∀xs,H l=some xs->H' l=some xs)->SlotsOk K F H sd σ->SlotsOk K F' H' sd σ
 |[],_,_,h=>h
 |z::zs,σ,ho,h=>by
  obtain⟨o,r,rfl,a,b⟩:=h;refine⟨o,r,rfl, ?_,SlotsOk.mono hF (λl hl=>ho l ?_) b⟩
  ·cases z with
   |un=>trivial
   |val d=>obtain⟨v,e,q⟩:=a;exact⟨v,e,q.mono hF⟩
   |gh d G=>obtain⟨v,e,q,g⟩:=a;exact⟨v,e,q.mono hF,λF2 s2=>g F2<|hF.trans s2⟩
   |own l ds=>obtain⟨e,n,xs,q,rl⟩:=a;have:=ho l (by simp[lQ,fK]);exact⟨e,this.1,xs,this.2 _ q,rl.mono hF⟩
   |od l ks ds=>obtain⟨e,n,xs,q,ln,rl⟩:=a;have:=ho l (by simp[lQ,fK]);exact⟨e,this.1,xs,this.2 _ q,ln,rl.mono hF⟩
   |ox ls G=>
    obtain⟨v,e,h,g⟩:=a;have ho':∀l∈ls,F' l=none/\∀xs,H l=some xs->H' l=some xs:=λl hl=>ho l<|bO _ hl
    exact⟨v,e,λl hl=>⟨(ho' l hl).1,let ⟨ob,q,w⟩:=(h l hl).2;⟨ob,(ho' l hl).2 _ q,w⟩⟩,λF2 H2 s2 k=>g F2 H2 (hF.trans s2) λl hl ob q=>k l hl ob<|(ho' l hl).2 _ q⟩
  ·exact aM _ hl
theorem SlotsOk.owns:∀ {sd:List Slot}{σ:St}{l:BE},SlotsOk K F H sd σ->l∈cA sd->F l=none/\∃ob,H l=some ob/\Wr l ob
 |[],_,_,_,e=>by simp[cA] at e
 |z::zs,σ,l,h,e=>by
  obtain⟨o,r,rfl,a,b⟩:=h
  rcases aS.mp (show l∈fK z++cA zs from e) with e|e
  ·cases z with
   |un=>cases e
   |val d=>cases e
   |gh d G=>cases e
   |own l' ds=>rw[aI.mp e];obtain⟨_,n,xs,q,_⟩:=a;exact⟨n,_,q,trivial⟩
   |od l' ks ds=>rw[aI.mp e];obtain⟨_,n,xs,q,_⟩:=a;exact⟨n,_,q,trivial⟩
   |ox ls G=>obtain⟨v,_,h,_⟩:=a;exact h l e
  ·exact SlotsOk.owns b e
theorem StF.lay{p:BE}{o:HO}(S:StF K H₀ F H σ sd)(hp:H p=none)(ho:aOm o):StF K H₀ (upd F p o) (upd H p o) σ sd/\Same F (upd F p o):=by
 have fp:F p=none:=S.sub.free hp;have s1:Same F (upd F p o):=λb u e=>by rw[aV<|cJ e fp];exact e
 refine⟨⟨λb u e=>s1 _ _<|S.base _ _ e,λb u e=> ?_,λb u e=> ?_,S.slots.mono s1 λl hl=> ?_,S.nd⟩,s1⟩
 ·by_cases h:b=p
  ·subst h;rw[bK] at e ⊢;exact e
  ·rw[aV h] at e ⊢;exact S.sub _ _ e
 ·by_cases h:b=p
  ·subst h;rw[bK] at e;cases e;exact ho
  ·rw[aV h] at e;exact S.smp _ _ e
 ·obtain⟨n,xs,q,_⟩:=S.slots.owns hl;have hne:l≠p:=cJ q hp;exact⟨by rw[aV hne];exact n,λys e=>by rw[aV hne];exact e⟩
theorem StF.layO{p:BE}{xs:List V}(S:StF K H₀ F H σ sd)(hp:H p=none):StF K H₀ F (upd H p<|.lst xs) σ sd/\F p=none/\p∉cA sd:=by
 have fp:F p=none:=S.sub.free hp;refine⟨⟨S.base,λb u e=> ?_,λb u e=> ?_,S.slots.mono (Same.refl _) λl hl=> ?_,S.nd⟩,fp,λhl=> ?_⟩
 ·rw[aV<|cJ e fp];exact S.sub _ _ e
 ·by_cases h:b=p
  ·subst h;rw[bK] at e;cases e;trivial
  ·rw[aV h] at e;exact S.smp _ _ e
 ·obtain⟨n,ys,q,_⟩:=S.slots.owns hl;have hne:l≠p:=cJ q hp;exact⟨n,λys e=>by rw[aV hne];exact e⟩
 ·obtain⟨n,ys,q,_⟩:=S.slots.owns hl;rw[hp] at q;cases q
theorem StF.freeze{p:BE}{xs:List V}(S:StF K H₀ F H σ sd)(hp:H p=some (.lst xs))(fp:F p=none)(ho:p∉cA sd):StF K H₀ (upd F p<|.lst xs) H σ sd/\Same F (upd F p<|.lst xs):=by
 have s1:Same F (upd F p<|.lst xs):=λb u e=>by rw[aV<|cJ e fp];exact e
 refine⟨⟨λb u e=>s1 _ _<|S.base _ _ e,λb u e=> ?_,S.smp,S.slots.mono s1 λl hl=> ?_,S.nd⟩,s1⟩
 ·by_cases h:b=p
  ·subst h;rw[bK] at e;rw[hp];exact e
  ·rw[aV h] at e;exact S.sub _ _ e
 ·obtain⟨n,ys,q,_⟩:=S.slots.owns hl;have hne:l≠p:=λz=>ho (z▸hl)
  exact⟨by rw[aV hne];exact n,λys e=>e⟩
theorem SlotsOk.len:∀ {sd:List Slot}{σ:St},SlotsOk K F H sd σ->σ.length=sd.length
 |[],_,h=>by have h:_=_:=h;rw[h];rfl
 |z::zs,σ,h=>by obtain⟨o,r,rfl,_,b⟩:=h;simp[SlotsOk.len b]
inductive R where
 |val (d:D)|own (ds:List D)|bor (ds:List D)|pr (d:D) (ls:List D)|ox (G:V->List BE->Hp->Hp->Prop)
def LOk(K:aA)(F H:Hp)(sd:List Slot)(v:V)(ds:List D):Prop:=
 ∃l xs,v=.ref l/\H l=some (.lst xs)/\RepL K F ds xs/\(F l=some (.lst xs)\/Slot.own l ds∈sd)
noncomputable def ResOk(K:aA)(F H:Hp)(sd:List Slot):R->V->Prop
 |.val d,v=>Rep K F d v
 |.own ds,v=>∃l xs,v=.ref l/\F l=none/\H l=some (.lst xs)/\RepL K F ds xs/\l∉cA sd
 |.bor ds,v=>LOk K F H sd v ds
 |.pr d ls,v=>∃t l xs y,v=.ref t/\F t=some (.tup [y,.ref l])/\Rep K F d y/\F l=none/\H l=some (.lst xs)/\RepL K F ls xs/\l∉cA sd
 |.ox G,v=>∃ls:List BE,ls.Nodup/\(∀l∈ls,F l=none/\(∃ob,H l=some ob/\Wr l ob)/\l∉cA sd)/\∀F' H',Same F F'->(∀l∈ls,∀ob,H l=some ob->H' l=some ob)->G v ls F' H'
noncomputable def R.keeps:R->Prop
 |.own _=>False
 |.pr _ _=>False
 |.ox _=>False
 |_=>True
variable {r:R}{v:V}
theorem ResOk.keep(hr:r.keeps)(h:ResOk K F H sd r v)(S':StF K H₀ F' H' σ sd)(s:Same F F'):ResOk K F' H' sd r v:=by
 cases r with
 |val d=>exact Rep.mono s h
 |own ds=>exact hr.elim
 |pr d ls=>exact hr.elim
 |ox G=>exact hr.elim
 |bor ds=>
  obtain⟨l,xs,e,hl,rl,q⟩:=h
  rcases q with q|q
  ·exact⟨l,xs,e,S'.sub _ _<|s _ _ q,rl.mono s,.inl<|s _ _ q⟩
  ·obtain⟨i,hi⟩:=dU q;obtain⟨o,_,e2,_,ys,h1,h2⟩:=S'.slots.get hi;exact⟨l,ys,e,h1,h2,.inr q⟩
structure PEd(X:Cx)(sd:List Slot)(e:Expr)(r:R):Prop where
 run:∀ (σ:St) (F H:Hp),StF X.K X.B₀ F H σ sd->
 wE X e σ H λv H'=>∃F',StF X.K X.B₀ F' H' σ sd/\Same F F'/\ResOk X.K F' H' sd r v
instance {X:Cx}{sd:List Slot}{e:Expr}{r:R}:CoeFun (PEd X sd e r) (fun _=>∀ (σ:St) (F H:Hp),StF X.K X.B₀ F H σ sd→
 wE X e σ H λv H'=>∃F',StF X.K X.B₀ F' H' σ sd/\Same F F'/\ResOk X.K F' H' sd r v):=⟨PEd.run⟩
structure PTd(X:Cx)(sd:List Slot)(e:Expr)(b:Bool):Prop where
 run:∀ (σ:St) (F H:Hp),StF X.K X.B₀ F H σ sd->
 wT X e σ H λc H'=>c=b/\∃F',StF X.K X.B₀ F' H' σ sd/\Same F F'
instance {X:Cx}{sd:List Slot}{e:Expr}{b:Bool}:CoeFun (PTd X sd e b) (fun _=>∀ (σ:St) (F H:Hp),StF X.K X.B₀ F H σ sd→
 wT X e σ H λc H'=>c=b/\∃F',StF X.K X.B₀ F' H' σ sd/\Same F F'):=⟨PTd.run⟩
structure PWd(X:Cx)(sd:List Slot)(e:Expr)(b:Bool):Prop where
 run:∀ (σ:St) (F H:Hp),StF X.K X.B₀ F H σ sd->
 wW X e σ H λc H'=>c=b/\∃F',StF X.K X.B₀ F' H' σ sd/\Same F F'
instance {X:Cx}{sd:List Slot}{e:Expr}{b:Bool}:CoeFun (PWd X sd e b) (fun _=>∀ (σ:St) (F H:Hp),StF X.K X.B₀ F H σ sd→
 wW X e σ H λc H'=>c=b/\∃F',StF X.K X.B₀ F' H' σ sd/\Same F F'):=⟨PWd.run⟩
inductive RsOk(K:aA)(F H:Hp)(sd:List Slot):List R->List V->Prop
 |nil:RsOk K F H sd [] []
 |cons {r v rs vs}:ResOk K F H sd r v->RsOk K F H sd rs vs->RsOk K F H sd (r::rs) (v::vs)
structure PAd(X:Cx)(sd:List Slot)(es:List Expr)(rs:List R):Prop where
 run:∀ (σ:St) (F H:Hp),StF X.K X.B₀ F H σ sd->
 wA X es σ H λvs H'=>∃F',StF X.K X.B₀ F' H' σ sd/\Same F F'/\RsOk X.K F' H' sd rs vs
instance {X:Cx}{sd:List Slot}{es:List Expr}{rs:List R}:CoeFun (PAd X sd es rs) (fun _=>∀ (σ:St) (F H:Hp),StF X.K X.B₀ F H σ sd→
 wA X es σ H λvs H'=>∃F',StF X.K X.B₀ F' H' σ sd/\Same F F'/\RsOk X.K F' H' sd rs vs):=⟨PAd.run⟩
structure iA where
 nx:List Slot->Prop
 rt:R->Prop
 bk:List Slot->Prop:=λ_=>False
 ct:List Slot->Prop:=λ_=>False
def aGk(K:aA)(H₀ H:Hp)(r:R)(v:V):Prop:=∃F,Same H₀ F/\Same F H/\Smp H/\ResOk K F H [] r v
noncomputable def lft(X:Cx)(F₀:Hp)(E:iA):tZ where
 nx:=λσ H=>∃sd F,StF X.K X.B₀ F H σ sd/\Same F₀ F/\E.nx sd
 rt:=λv H=>∃r,aGk X.K X.B₀ H r v/\E.rt r
 bk:=λσ H=>∃sd F,StF X.K X.B₀ F H σ sd/\Same F₀ F/\E.bk sd
 ct:=λσ H=>∃sd F,StF X.K X.B₀ F H σ sd/\Same F₀ F/\E.ct sd
structure PSd(X:Cx)(sd:List Slot)(sts:List BI)(E:iA):Prop where
 run:∀ (σ:St) (F H:Hp),StF X.K X.B₀ F H σ sd->wSs X sts (lft X F E) σ H
instance {X:Cx}{sd:List Slot}{sts:List BI}{E:iA}:CoeFun (PSd X sd sts E) (λ_=>∀ (σ:St) (F H:Hp),StF X.K X.B₀ F H σ sd->wSs X sts (lft X F E) σ H):=⟨PSd.run⟩
structure PSd1(X:Cx)(sd:List Slot)(st:BI)(E:iA):Prop where
 run:∀ (σ:St) (F H:Hp),StF X.K X.B₀ F H σ sd->wS X st (lft X F E) σ H
instance {X:Cx}{sd:List Slot}{st:BI}{E:iA}:CoeFun (PSd1 X sd st E) (λ_=>∀ (σ:St) (F H:Hp),StF X.K X.B₀ F H σ sd->wS X st (lft X F E) σ H):=⟨PSd1.run⟩
variable {X:Cx}{e a b c:Expr}{es:List Expr}{pos:Pos}{ra rb:R}{d:D}{ds:List D}
theorem PEd.val(h:PEd X sd e (.own ds)):PEd X sd e (.val<|.lst ds):=.mk λσ F H S=>(h σ F H S).imp λv H' ⟨F',S',s,l,xs,e,n,q,rl,no⟩=>by obtain⟨S2,s2⟩:=S'.freeze q n no;refine⟨_,S2,s.trans s2, ?_⟩;show Rep _ _ _ _;simp only[Rep];exact⟨l,xs,e,bK,rl.mono s2⟩
theorem PEd.bor(h:PEd X sd e (.val<|.lst ds)):PEd X sd e (.bor ds):=.mk λσ F H S=>(h σ F H S).imp λv H' ⟨F',S',s,q⟩=>by have q:Rep _ _ _ _:=q;simp only[Rep] at q;obtain⟨l,xs,e,q,rl⟩:=q;exact⟨F',S',s,l,xs,e,S'.sub _ _ q,rl,.inl q⟩
theorem aDC(i:Nat){x:Str}(hs:sd[i]? =some (.val d))(h:PE X (.Name x pos) (iT i)):PEd X sd (.Name x pos) (.val d):= .mk fun σ F H S=>h.to (by
 obtain⟨o,h1,v,h2,q⟩:=S.slots.get hs
 exact⟨v,by rw[h1,h2],F,S,Same.refl _,q⟩)
theorem oA(i:Nat){x:Str}{l:BE}(hs:sd[i]? =some (.own l ds))(h:PE X (.Name x pos) (iT i)):PEd X sd (.Name x pos) (.bor ds):= .mk fun σ F H S=>h.to (by
 obtain⟨o,h1,h2,n,xs,q,rl⟩:=S.slots.get hs
 exact⟨.ref l,by rw[h1,h2],F,S,Same.refl _,l,xs,rfl,q,rl,.inr (bA hs)⟩)
theorem bR{i j}:PEd X sd (.Constant (.int i) j pos) (.val<|.int i):=.mk λσ F H S=>pe_int.to ⟨F,S,Same.refl _,by simp only[ResOk,Rep]⟩
theorem qJ{i j}:PEd X sd (.Constant (.bool i) j pos) (.val<|.bl i):=.mk λσ F H S=>pe_bl.to ⟨F,S,Same.refl _,by simp only[ResOk,Rep]⟩
theorem eZ{j}:PEd X sd (.Constant .none j pos) (.val .non):=.mk λσ F H S=>pe_non.to ⟨F,S,Same.refl _,by simp only[ResOk,Rep]⟩
theorem gM{i j}:PEd X sd (.Constant (.str i) j pos) (.val<|.str i):=.mk λσ F H S=>pe_str.to ⟨F,S,Same.refl _,by simp only[ResOk,Rep]⟩
theorem aHS{x:Str}{i:Int}{u:BC}(hg:Gl X x)(hm:X.mg x=some u)(ru:RelV (.int i) u)(hd:(x==("__debug__":Str))=false:=by decide):PEd X sd (.Name x pos) (.val<|.int i):=.mk λσ F H S=>(aEi hg hm ru hd).to ⟨F,S,Same.refl _,by simp only[ResOk,Rep]⟩
theorem aK:PAd X sd [] []:=.mk λσ F H S=>pa_nil.to ⟨F,S,Same.refl _,.nil⟩
theorem aB{rs:List R}(h1:PEd X sd e r)(h2:PAd X sd es rs)(hk:r.keeps:=by trivial)(hs:AB (e::es) X.env=(false,eval e X.env)::AB es X.env:=by rfl):PAd X sd (e::es) (r::rs):=.mk λσ F H S=>(dA eK oK hs).to<|(h1 σ F H S).imp λv H1 ⟨F1,S1,s1,q1⟩=>(h2 σ F1 H1 S1).imp λvs H2 ⟨F2,S2,s2,q2⟩=>⟨F2,S2,s1.trans s2,.cons (q1.keep hk S2 s2) q2⟩
theorem RsOk.vals{K:aA}{F H:Hp}:∀ {ds:List D}{vs:List V},RsOk K F H sd (ds.map R.val) vs->RepL K F ds vs
 |[],_,.nil=>.nil
 |_::_,_,.cons q t=>.cons q<|RsOk.vals t
theorem aDH{x1}(h:PAd X sd es (ds.map R.val))(hl:ds.length<=10000):PEd X sd (.Tuple es x1 pos) (.val<|.tup ds):=.mk λσ F H S=>
 (aIh oK).to ((h σ F H S).imp fun vs H1 ⟨F1,S1,s1,q1⟩=>by
  have rl:=q1.vals;refine⟨by rw[rl.len];exact dE<|eX hl,λp hp=> ?_⟩;obtain⟨S2,s2⟩:=S1.lay (o:=.tup vs) hp trivial;refine⟨_,S2,s1.trans s2, ?_⟩;simp only[ResOk,Rep]
  exact⟨p,vs,rfl,bK,rl.mono s2⟩)
theorem sX(h:PAd X sd es (ds.map R.val))(hl:ds.length<=10000):PEd X sd (.List es pos) (.own ds):=.mk λσ F H S=>
 (aMG oK).to ((h σ F H S).imp fun vs H1 ⟨F1,S1,s1,q1⟩=>by
  have rl:=q1.vals;refine⟨by rw[rl.len];exact dE<|eX hl,λp hp=> ?_⟩;obtain⟨S2,fp,no⟩:=S1.layO (xs:=vs) hp
  exact⟨_,S2,s1,p,vs,rfl,fp,bK,rl,no⟩)
theorem vO{op:Operator}{r2:R2}(ho:OpR X (Ak op) r2)(ha:PEd X sd a ra)(hb:PEd X sd b rb)(hk:ra.keeps)
  (h:∀ (σ:St) (F H:Hp) (v u:V) (Q:VK),StF X.K X.B₀ F H σ sd->ResOk X.K F H sd ra v->ResOk X.K F H sd rb u->(∀w F' H',StF X.K X.B₀ F' H' σ sd->Same F F'->ResOk X.K F' H' sd r w->Q w H')->r2 v u H Q):
  PEd X sd (.BinOp a op b pos) r:=.mk λσ F H S=>
 (aPo ho eK eK).to ((ha σ F H S).imp λv H1 ⟨F1,S1,s1,q1⟩=>(hb σ F1 H1 S1).imp λu H2 ⟨F2,S2,s2,q2⟩=>h σ F2 H2 v u _ S2 (q1.keep hk S2 s2) q2 λw F' H' S' s' q'=>⟨F',S',(s1.trans s2).trans s',q'⟩)
theorem aAs{op:CmpOp}{r2:R2}(ho:OpR X (AY op) r2)(ha:PEd X sd a ra)(hb:PEd X sd b rb)(hk:ra.keeps)(hm:AU op b=false){k:Bool}
  (h:∀ (σ:St) (F H:Hp) (v u:V) (Q:VK),StF X.K X.B₀ F H σ sd->ResOk X.K F H sd ra v->ResOk X.K F H sd rb u->(∀F' H',StF X.K X.B₀ F' H' σ sd->Same F F'->Q (.bl k) H')->r2 v u H Q):
  PEd X sd (.Compare a [op] [b] pos) (.val<|.bl k):=.mk λσ F H S=>
 (aDT ho eK eK hm).to ((ha σ F H S).imp λv H1 ⟨F1,S1,s1,q1⟩=>(hb σ F1 H1 S1).imp λu H2 ⟨F2,S2,s2,q2⟩=>h σ F2 H2 v u _ S2 (q1.keep hk S2 s2) q2 λF' H' S' s'=>⟨F',S',(s1.trans s2).trans s',by simp only[ResOk,Rep]⟩)
theorem pV{k:Bool}(h:PEd X sd e (.val<|.bl k))(he:∀whole,isTrue e X.env whole=(do let v <-whole;standAt e.pos;holding [v] (truthy v)):=by intro _;rfl):PTd X sd e k:=.mk λσ F H S=>
 (aNc eK he).to ((h σ F H S).imp fun v H1 ⟨F1,S1,s1,q1⟩=>by
  simp only[ResOk,Rep] at q1
  exact⟨k,q1,rfl,F1,S1,s1⟩)
theorem kM{op:CmpOp}{r2:R2}(ho:OpR X (AY op) r2)(ha:PEd X sd a ra)(hb:PEd X sd b rb)(hk:ra.keeps)(hm:AU op b=false){k:Bool}
  (h:∀ (σ:St) (F H:Hp) (v u:V) (Q:VK),StF X.K X.B₀ F H σ sd->ResOk X.K F H sd ra v->ResOk X.K F H sd rb u->(∀F' H',StF X.K X.B₀ F' H' σ sd->Same F F'->Q (.bl k) H')->r2 v u H Q):
  PTd X sd (.Compare a [op] [b] pos) k:=.mk λσ F H S=>
 (aAy ho eK eK hm).to ((ha σ F H S).imp λv H1 ⟨F1,S1,s1,q1⟩=>(hb σ F1 H1 S1).imp λu H2 ⟨F2,S2,s2,q2⟩=>h σ F2 H2 v u _ S2 (q1.keep hk S2 s2) q2 λF' H' S' s'=>⟨k,rfl,rfl,F',S',(s1.trans s2).trans s'⟩)
variable {st:BI}{rest:List BI}{E:iA}
theorem wS.imp{D D':tZ}(h:wS X st D σ H)(k1:∀σ H,D.nx σ H->D'.nx σ H)(k2:∀v H,D.rt v H->D'.rt v H)(k3:∀σ H,D.bk σ H->D'.bk σ H)(k4:∀σ H,D.ct σ H->D'.ct σ H):wS X st D' σ H:=
 λpins s I=>thn (h pins s I) λf s' q=>q.imp k1 k2 k3 k4
theorem aLh{k:Bool}(h:PTd X sd e k):PTd X sd (.UnaryOp .Not e pos) (!k):=.mk λσ F H S=>(aMO aHY).to<|(h σ F H S).imp λc H' ⟨e,q⟩=>⟨by rw[e],q⟩
theorem sI{k:Bool}(h:PTd X sd a k):PWd X sd (.BoolOp .And [a] pos) k:=.mk λσ F H S=>(aJZ aHY).to<|h σ F H S
theorem aAE{k:Bool}(h:PTd X sd a k):PWd X sd (.BoolOp .Or [a] pos) k:=.mk λσ F H S=>(aMz aHY).to<|h σ F H S
theorem iP{k j:Bool}(h:PTd X sd a k)(h2:k=true->PWd X sd (.BoolOp .And (b::es) pos) j):PWd X sd (.BoolOp .And (a::b::es) pos) (k&&j):=.mk λσ F H S=>
 (aNC aHY aOI).to ((h σ F H S).imp fun c H' ⟨e,F',S',s'⟩=>by
  subst e;cases c with
  |false=>exact aJi ⟨rfl,F',S',s'⟩
  |true=>exact aJh ((h2 rfl σ F' H' S').imp λc2 H2 ⟨e2,F2,S2,s2⟩=>⟨by rw[e2];rfl,F2,S2,s'.trans s2⟩))
theorem aDy{k j:Bool}(h:PTd X sd a k)(h2:k=false->PWd X sd (.BoolOp .Or (b::es) pos) j):PWd X sd (.BoolOp .Or (a::b::es) pos) (k||j):=.mk λσ F H S=>
 (aPi aHY aOI).to ((h σ F H S).imp fun c H' ⟨e,F',S',s'⟩=>by
  subst e;cases c with
  |true=>exact aJh ⟨rfl,F',S',s'⟩
  |false=>exact aJi ((h2 rfl σ F' H' S').imp λc2 H2 ⟨e2,F2,S2,s2⟩=>⟨by rw[e2];rfl,F2,S2,s'.trans s2⟩))
theorem PWd.pt{k:Bool}(h:PWd X sd e k):PTd X sd e k:=.mk λσ F H S=>(aOI).pt.to<|h σ F H S
theorem aMP{op}{r:R}(h:PEd X sd a r):PEd X sd (.BoolOp op [a] pos) r:=.mk λσ F H S=>(aNv eK).to<|h σ F H S
theorem aIl{k j:Bool}(h:PEd X sd a (.val<|.bl k))(h2:k=true->PEd X sd (.BoolOp .And (b::es) pos) (.val<|.bl j)):PEd X sd (.BoolOp .And (a::b::es) pos) (.val (.bl<|k&&j)):=.mk λσ F H S=>
 (aNQ eK eK).to ((h σ F H S).imp fun v H' ⟨F',S',s',q⟩=>by
  simp only[ResOk,Rep] at q;subst q;refine⟨k,rfl, ?_⟩;cases k with
  |false=>exact aJi ⟨F',S',s',by simp only[ResOk,Rep,zV]⟩
  |true=>exact aJh ((h2 rfl σ F' H' S').imp λv2 H2 ⟨F2,S2,s2,q2⟩=>⟨F2,S2,s'.trans s2,by simpa only[Bool.true_and] using q2⟩))
theorem aDo{k:Bool}(h:PTd X sd c k)(h1:k=true->PEd X sd a r)(h2:k=false->PEd X sd b r):PEd X sd (.IfExp c a b pos) r:=.mk λσ F H S=>
 (aGJ aHY eK eK).to ((h σ F H S).imp fun k' H' ⟨e,F',S',s'⟩=>by
  subst e;cases k' with
  |true=>exact aJh<|(h1 rfl σ F' H' S').imp λv2 H2 ⟨F2,S2,s2,q2⟩=>⟨F2,S2,s'.trans s2,q2⟩
  |false=>exact aJi ((h2 rfl σ F' H' S').imp λv2 H2 ⟨F2,S2,s2,q2⟩=>⟨F2,S2,s'.trans s2,q2⟩))
theorem fU{op:Operator}{g:Int->Int->Int}{i j:Int}(ho:OpR X (Ak op) (rI0 λi j=>.int<|g i j))(ha:PEd X sd a (.val<|.int i))(hb:PEd X sd b (.val<|.int j)):PEd X sd (.BinOp a op b pos) (.val (.int<|g i j)):=
 vO ho ha hb trivial λσ F H v u Q S q1 q2 k=>by simp only[ResOk,Rep] at q1 q2;exact⟨i,j,q1,q2,k _ F H S (Same.refl _)<|by simp only[ResOk,Rep]⟩
theorem dO{op:Operator}{g:Int->Int->Int}{C:Int->Int->Prop}{i j:Int}(ho:OpR X (Ak op) (rI C λi j=>.int<|g i j))(ha:PEd X sd a (.val<|.int i))(hb:PEd X sd b (.val<|.int j))(hc:C i j):PEd X sd (.BinOp a op b pos) (.val (.int<|g i j)):=
 vO ho ha hb trivial λσ F H v u Q S q1 q2 k=>by simp only[ResOk,Rep] at q1 q2;exact⟨i,j,q1,q2,hc,k _ F H S (Same.refl _)<|by simp only[ResOk,Rep]⟩
theorem mE:OpR X (Ak .Mult) (rI IntMulOk λi j=>.int<|i*j):=opI λ_ _ _ _ _ _ _ hc q=>mul_int q hc
theorem pB:OpR X (Ak .FloorDiv) (rI (λ_ j=>0<j/\j.natAbs.log2<9000) λi j=>.int<|i / j):=opI λi j _ _ _ _ _ hc q=>by have h1:(0:Int)<j:=hc.1;exact floordiv_int (by omega) (by rw[aAk i<|by omega];exact q) (.inl<|PyProof.noPylong_of_log2 hc.2)
theorem aJy{op:CmpOp}{g:Int->Int->Bool}{i j:Int}(ho:OpR X (AY op) (rI0 λi j=>.bl<|g i j))(ha:PEd X sd a (.val<|.int i))(hb:PEd X sd b (.val<|.int j))(hm:AU op b=false):PEd X sd (.Compare a [op] [b] pos) (.val (.bl<|g i j)):=
 aAs ho ha hb trivial hm λσ F H v u Q S q1 q2 k=>by simp only[ResOk,Rep] at q1 q2;exact⟨i,j,q1,q2,k F H S<|Same.refl _⟩
theorem oO{op:CmpOp}{g:Int->Int->Bool}{i j:Int}(ho:OpR X (AY op) (rI0 λi j=>.bl<|g i j))(ha:PEd X sd a (.val<|.int i))(hb:PEd X sd b (.val<|.int j))(hm:AU op b=false):PTd X sd (.Compare a [op] [b] pos) (g i j):=
 kM ho ha hb trivial hm λσ F H v u Q S q1 q2 k=>by simp only[ResOk,Rep] at q1 q2;exact⟨i,j,q1,q2,k F H S<|Same.refl _⟩
noncomputable def flt:D->Option V
 |.non=>some .non
 |.bl b=>some<|.bl b
 |.int i=>some<|.int i
 |.str x=>some<|.str x
 |_=>none
theorem nL{x:V}(h:flt d=some x)(q:Rep K H d v):v=x:=by
 cases d with
 |non=>simp only[Rep] at q;simp only[flt] at h;rw[q];exact bZ.inj h
 |bl=>simp only[Rep] at q;simp only[flt] at h;rw[q];exact bZ.inj h
 |int=>simp only[Rep] at q;simp only[flt] at h;rw[q];exact bZ.inj h
 |str=>simp only[Rep] at q;simp only[flt] at h;rw[q];exact bZ.inj h
 |tup=>simp only[flt] at h;cases h
 |lst=>simp only[flt] at h;cases h
 |dic=>simp only[flt] at h;cases h
 |dki=>simp only[flt] at h;cases h
 |any=>simp only[flt] at h;cases h
 |scr=>simp only[flt] at h;cases h
theorem iN{d1 d2:D}{x y:V}{k:Bool}(ha:PEd X sd a (.val d1))(hb:PEd X sd b (.val d2))(h1:flt d1=some x)(h2:flt d2=some y)(hs:aLT x y=true)(hk:decide (x=y)=k):PTd X sd (.Compare a [.Eq] [b] pos) k:=
 kM aMq ha hb trivial (gP _) λσ F H v u Q S q1 q2 kk=>by have e1:=nL h1 q1;have e2:=nL h2 q2;subst e1 e2;exact⟨hs,by rw[hk];exact kk F H S<|Same.refl _⟩
theorem uQ{d1 d2:D}{x y:V}{k:Bool}(ha:PEd X sd a (.val d1))(hb:PEd X sd b (.val d2))(h1:flt d1=some x)(h2:flt d2=some y)(hs:aLT x y=true)(hk:(!decide (x=y))=k):PTd X sd (.Compare a [.NotEq] [b] pos) k:=
 kM aOV ha hb trivial (gP _) λσ F H v u Q S q1 q2 kk=>by have e1:=nL h1 q1;have e2:=nL h2 q2;subst e1 e2;exact⟨hs,by rw[hk];exact kk F H S<|Same.refl _⟩
theorem kK{i j:Int}(ha:PEd X sd a (.val<|.int i))(hb:PEd X sd b (.val<|.int j)):PTd X sd (.Compare a [.Eq] [b] pos) (decide<|i=j):=iN ha hb rfl rfl rfl (by rw[aAt,aDg])
theorem qX{p q:Bool}(ha:PEd X sd a (.val<|.bl p))(hb:PEd X sd b (.val<|.bl q)):PTd X sd (.Compare a [.NotEq] [b] pos) (!decide (p=q)):=uQ ha hb rfl rfl rfl (by rw[aDx,aDg])
theorem xG{n:Nat}(ha:PEd X sd a (.val<|.tup ds))(hb:PEd X sd b (.val<|.int (n:Int)))(hd:ds[n]? =some d)(hs:lZ b):PEd X sd (.Subscript a b pos) (.val d):=.mk λσ F H S=>
 (aGr aMA eK eK hs).to ((ha σ F H S).imp fun v H1 ⟨F1,S1,s1,q1⟩=>(hb σ F1 H1 S1).imp fun u H2 ⟨F2,S2,s2,q2⟩=>by
  have q1:=Rep.mono s2 q1;simp only[ResOk,Rep] at q1 q2;obtain⟨p,xs,e1,hp,rl⟩:=q1;obtain⟨w,hw,rw'⟩:=rl.get hd
  exact⟨p,xs,(n:Int),w,e1,q2,.of (S2.sub _ _ hp),aAB hw,F2,S2,s1.trans s2,rw'⟩)
theorem mO{n:Nat}(ha:PEd X sd a (.bor ds))(hb:PEd X sd b (.val<|.int (n:Int)))(hd:ds[n]? =some d)(hs:lZ b):PEd X sd (.Subscript a b pos) (.val d):=.mk λσ F H S=>
 (aGr aAx eK eK hs).to ((ha σ F H S).imp fun v H1 ⟨F1,S1,s1,q1⟩=>(hb σ F1 H1 S1).imp fun u H2 ⟨F2,S2,s2,q2⟩=>by
  obtain⟨p,xs,e1,hp,rl,_⟩:=ResOk.keep (r:=.bor ds) trivial q1 S2 s2;simp only[ResOk,Rep] at q2;obtain⟨w,hw,rw'⟩:=rl.get hd
  exact⟨p,xs,(n:Int),w,e1,q2,.of hp,aAB hw,F2,S2,s1.trans s2,rw'⟩)
theorem aIk{ns:List Int}{n:Nat}{z:Int}(ha:PEd X sd a (.val<|.scr ns))(hb:PEd X sd b (.val<|.int (n:Int)))(hd:ns[n]? =some z)(hs:lZ b):PEd X sd (.Subscript a b pos) (.val<|.int z):=.mk λσ F H S=>
 (aGr aAx eK eK hs).to ((ha σ F H S).imp fun v H1 ⟨F1,S1,s1,q1⟩=>(hb σ F1 H1 S1).imp fun u H2 ⟨F2,S2,s2,q2⟩=>by
  have q1:=Rep.mono (s2.trans S2.sub) q1;simp only[ResOk,Rep] at q1 q2;obtain⟨p,e1,hp⟩:=q1
  exact⟨p,_,(n:Int),.int z,e1,q2,hp,aAB (by rw[aW,hd];rfl),F2,S2,s1.trans s2,by simp only[ResOk,Rep]⟩)
theorem mX{x:Str}{p:Pos}{id:String}{rr:List V->Hp->VK->Prop}{rs:List R}(hc:mG X (.builtin id) rr)(hg:Gl X x)(hm:X.mg x=none)(hv:Ao x=some (.builtin id))(ha:PAd X sd (e::es) rs)
  (h:∀ (σ:St) (F H:Hp) (vs:List V) (Q:VK),StF X.K X.B₀ F H σ sd->RsOk X.K F H sd rs vs->(∀w F' H',StF X.K X.B₀ F' H' σ sd->Same F F'->ResOk X.K F' H' sd r w->Q w H')->rr vs H Q)
  (hn:x≠"__name__":=by decide) (hdb:(x==("__debug__":Str))=false:=by decide) (he:AB (e::es) X.env=(false,eval e X.env)::AB es X.env:=by rfl) (hpl:(AX pos<|AB es X.env).any (·.1)=false:=by rfl):
  PEd X sd (.Call (.Name x p) (e::es) [] pos) r:=.mk λσ F H S=>
 (sG hc hg hm hv oK hn hdb he hpl).to ((ha σ F H S).imp λvs H1 ⟨F1,S1,s1,q1⟩=>h σ F1 H1 vs _ S1 q1 λw F' H' S' s' q'=>⟨F',S',s1.trans s',q'⟩)
theorem zS{x:Str}{p:Pos}{T:String}{rr:List V->Hp->VK->Prop}{rs:List R}(hc:mG X (.type T) rr)(hg:Gl X x)(hm:X.mg x=none)(hv:Ao x=some (.type T))(ha:PAd X sd (e::es) rs)
  (h:∀ (σ:St) (F H:Hp) (vs:List V) (Q:VK),StF X.K X.B₀ F H σ sd->RsOk X.K F H sd rs vs->(∀w F' H',StF X.K X.B₀ F' H' σ sd->Same F F'->ResOk X.K F' H' sd r w->Q w H')->rr vs H Q)
  (hn:x≠"__name__":=by decide) (hdb:(x==("__debug__":Str))=false:=by decide) (he:AB (e::es) X.env=(false,eval e X.env)::AB es X.env:=by rfl) (hpl:(AX pos<|AB es X.env).any (·.1)=false:=by rfl):
  PEd X sd (.Call (.Name x p) (e::es) [] pos) r:=.mk λσ F H S=>
 (aEX hc hg hm hv oK hn hdb he hpl).to ((ha σ F H S).imp λvs H1 ⟨F1,S1,s1,q1⟩=>h σ F1 H1 vs _ S1 q1 λw F' H' S' s' q'=>⟨F',S',s1.trans s',q'⟩)
theorem rC{p:Pos}(hg:Gl X "len")(hm:X.mg "len"=none)(ha:PEd X sd e (.val<|.tup ds))(hst:AB [e] X.env=(false,eval e X.env)::AB [] X.env:=by rfl):PEd X sd (.Call (.Name "len" p) [e] [] pos) (.val<|.int ds.length):=
 mX (he:=hst) nJ hg hm PySem.boot_len (aB ha aK trivial hst) λσ F H vs Q S q k=>by
  cases q with
  |cons q1 q2=>cases q2;simp only[ResOk,Rep] at q1;obtain⟨p,xs,rfl,hp,rl⟩:=q1;refine⟨p,xs,rfl,.inr (.of<|S.sub _ _ hp),k _ F H S (Same.refl _) ?_⟩;simp only[ResOk,Rep,rl.len]
theorem mC{p:Pos}(hg:Gl X "len")(hm:X.mg "len"=none)(ha:PEd X sd e (.bor ds))(hst:AB [e] X.env=(false,eval e X.env)::AB [] X.env:=by rfl):PEd X sd (.Call (.Name "len" p) [e] [] pos) (.val<|.int ds.length):=
 mX (he:=hst) nJ hg hm PySem.boot_len (aB ha aK trivial hst) λσ F H vs Q S q k=>by
  cases q with
  |cons q1 q2=>cases q2;obtain⟨p,xs,rfl,hp,rl,_⟩:=q1;refine⟨p,xs,rfl,.inl<|.of hp,k _ F H S (Same.refl _) ?_⟩;simp only[ResOk,Rep,rl.len]
theorem aAH{p:Pos}{ns:List Int}(hg:Gl X "len")(hm:X.mg "len"=none)(ha:PEd X sd e (.val<|.scr ns))(hst:AB [e] X.env=(false,eval e X.env)::AB [] X.env:=by rfl):PEd X sd (.Call (.Name "len" p) [e] [] pos) (.val<|.int ns.length):=
 mX (he:=hst) nJ hg hm PySem.boot_len (aB ha aK trivial hst) λσ F H vs Q S q k=>by
  cases q with
  |cons q1 q2=>cases q2;have q1:=Rep.mono S.sub q1;simp only[Rep] at q1;obtain⟨p,rfl,hp⟩:=q1;refine⟨p,_,rfl,.inl hp,k _ F H S (Same.refl _) ?_⟩;simp only[ResOk,Rep,aC]
noncomputable def tyD:D->BC
 |.non=>.type "NoneType"
 |.bl _=>.type "bool"
 |.int _=>.type "int"
 |.str _=>.type "str"
 |.tup _=>.type "tuple"
 |.lst _=>.type "list"
 |.dic=>.type "dict"
 |.dki _ _=>.type "dict"
 |.any _=>.type "dict"
 |.scr _=>.type "list"
theorem aOR(h:∀ns,d≠ .scr ns)(hA:∀G,d≠ .any G)(q:Rep K H d v):rK K H v (tyD d):=by
 cases d with
 |non=>simp only[Rep] at q;subst q;exact .non
 |bl b=>simp only[Rep] at q;subst q;exact .bl b
 |int b=>simp only[Rep] at q;subst q;exact .int b
 |str b=>simp only[Rep] at q;subst q;exact .str b
 |tup ds=>simp only[Rep] at q;obtain⟨a,xs,rfl,h,_⟩:=q;exact .tup h
 |lst ds=>simp only[Rep] at q;obtain⟨a,xs,rfl,h,_⟩:=q;exact .lst h
 |dic=>simp only[Rep] at q;obtain⟨a,rfl,h⟩:=q;exact .dK<|.of h
 |dki ks ds=>simp only[Rep] at q;obtain⟨a,xs,rfl,h,_⟩:=q;exact .dK<|.inr h
 |scr ns=>exact absurd rfl<|h ns
 |any G=>exact absurd rfl<|hA G
theorem aFJ:mG X (.builtin "isinstance") (λxs H Q=>∃x t n k,xs=[x,.ty n]/\rK X.K H x t/\pK X.K t (.type n)=some k/\Q (.bl k) H):=by intro pins s σ H xs us Q I r h;obtain⟨x,t,n,k,rfl,ty,e,q⟩:=h;obtain⟨u,u',rfl,ru,ru'⟩:=aMo r;cases(show u'=Value.type n from ru');exact aEV I ru ty e λtk=>⟨.bl k,H,I.tok tk,rfl,q⟩
theorem aKI{x:Str}{n:String}(hg:Gl X x)(hm:X.mg x=none)(hv:Ao x=some (.type n))(hn:x≠"__name__":=by decide)(hd:(x==("__debug__":Str))=false:=by decide):PE X (.Name x pos) (tC<|.ty n):=aKG hg hm hv rfl hn hd
theorem pN{x:Str}{n:String}{p p2:Pos}{k:Bool}(hg:Gl X "isinstance")(hm:X.mg "isinstance"=none)(hgx:Gl X x)(hmx:X.mg x=none)(hv:Ao x=some (.type n))(ha:PEd X sd e (.val d))(hd:∀ns,d≠ .scr ns)
  (hk:pK X.K (tyD d) (.type n)=some k) (hA:∀G,d≠ .any G:=by(intro _ h;cases h)) (hn:x≠"__name__":=by decide) (hdb:(x==("__debug__":Str))=false:=by decide)
  (he:AB (e::[.Name x p2]) X.env=(false,eval e X.env)::AB [.Name x p2] X.env:=by rfl) (hpl:(AX pos<|AB [.Name x p2] X.env).any (·.1)=false:=by rfl) (hs2:AB [.Name x p2] X.env=(false,eval (.Name x p2) X.env)::AB [] X.env:=by rfl):
  PEd X sd (.Call (.Name "isinstance" p) [e, .Name x p2] [] pos) (.val<|.bl k):=.mk λσ F H S=>
 (sG aFJ hg hm boot_isinstance (dA eK (dA (aKI hgx hmx hv hn hdb) pa_nil hs2) he) (by decide) (by decide) he hpl).to ((ha σ F H S).imp λv H1 ⟨F1,S1,s1,q1⟩=>by exact⟨v,tyD d,n,k,rfl,aOR hd hA<|Rep.mono S1.sub q1,hk,F1,S1,s1,by simp only[ResOk,Rep]⟩)
theorem dQ(h:E.nx sd):PSd X sd [] E:=.mk λσ F H S=>pss_nil.to ⟨sd,F,S,Same.refl _,h⟩
theorem aG(h:PSd1 X sd st {E with nx:=λsd'=>PSd X sd' rest E}):PSd X sd (st::rest) E:=.mk λσ F H S=>
 (wN aPA pss_w).to (wS.imp (h σ F H S) (fun σ' H' ⟨sd',F',S',s',q⟩=>(q σ' F' H' S').imp (fun σ2 H2 ⟨sd2,F2,S2,s2,q2⟩=>⟨sd2,F2,S2,s'.trans s2,q2⟩) (fun v H2 q2=>q2)
  (λσ2 H2 ⟨sd2,F2,S2,s2,q2⟩=>⟨sd2,F2,S2,s'.trans s2,q2⟩) λσ2 H2 ⟨sd2,F2,S2,s2,q2⟩=>⟨sd2,F2,S2,s'.trans s2,q2⟩) (λv H q=>q) (λσ H q=>q) λσ H q=>q)
theorem aQ(h:PSd1 X sd st E):PSd X sd [st] E:=.mk λσ F H S=>(aEp aPA).to<|h σ F H S
theorem eU(h:PEd X sd e r)(hr:match r with | .bor _=>False|_=>True)(hE:E.rt r):PSd1 X sd (.Return (some e) pos) E:=.mk λσ F H S=>
 (tG eK).to ((h σ F H S).imp fun v H' ⟨F',S',s',q⟩=>⟨r,⟨F',S'.base,S'.sub,S'.smp,by
  cases r with
  |val d=>exact q
  |own ds=>obtain⟨l,xs,a,b,c,d,_⟩:=q;exact⟨l,xs,a,b,c,d,by simp[cA]⟩
  |pr d ls=>obtain⟨t,l,xs,y,a,b,c,d,e,f,_⟩:=q;exact⟨t,l,xs,y,a,b,c,d,e,f,by simp[cA]⟩
  |ox G=>obtain⟨ls,nd,h,g⟩:=q;exact⟨ls,nd,λl hl=>⟨(h l hl).1,(h l hl).2.1,by simp[cA]⟩,g⟩
  |bor ds=>exact hr.elim⟩,hE⟩)
theorem pA(i:Nat){x:Str}{p:Pos}{l:BE}(hs:sd[i]? =some (.own l ds))(h:PE X (.Name x p) (iT i))(hE:E.rt (.own ds)):PSd1 X sd (.Return (some<|.Name x p) pos) E:=.mk λσ F H S=>
 (tG h).to (by
  obtain⟨o,h1,h2,n,xs,q,rl⟩:=S.slots.get hs
  exact⟨.ref l,by rw[h1,h2],.own ds,⟨F,S.base,S.sub,S.smp,l,xs,rfl,n,q,rl,by simp[cA]⟩,hE⟩)
theorem fG{k:Bool}{a o:List BI}(h:PTd X sd c k)(h1:k=true->PSd X sd a E)(h2:k=false->PSd X sd o E):PSd1 X sd (.If c a o pos) E:=.mk λσ F H S=>
 (aPf aHY pss_w pss_w).to ((h σ F H S).imp fun k' H' ⟨e,F',S',s'⟩=>by
  have up:∀ {sts:List BI},PSd X sd sts E->wSs X sts (lft X F E) σ H':=λh=>(h σ F' H' S').imp (λσ2 H2 ⟨sd2,F2,S2,s2,q2⟩=>⟨sd2,F2,S2,s'.trans s2,q2⟩) (λv H2 q2=>q2)
   (λσ2 H2 ⟨sd2,F2,S2,s2,q2⟩=>⟨sd2,F2,S2,s'.trans s2,q2⟩) λσ2 H2 ⟨sd2,F2,S2,s2,q2⟩=>⟨sd2,F2,S2,s'.trans s2,q2⟩
  subst e;cases k' with
  |true=>exact aJh (up<|h1 rfl)
  |false=>exact aJi (up (h2 rfl)))
theorem jK:∀ {sd:List Slot}{z:Slot} (i:Nat),(cA sd).Nodup->(∀l,l∈fK z->l∉cA sd\/(∃z',sd[i]? =some z'/\l∈fK z'))->(hz:(fK z).Nodup:=by simp[fK])->(cA<|sd.set i z).Nodup/\∀l,l∈cA (sd.set i z)->l∈cA sd\/l∈fK z
 |[],z,i,h,_,_=>⟨h,λl hl=>.inl hl⟩
 |z'::zs,z,0,h,hz,nz=>by
  show(fK z++cA zs).Nodup/\∀l,l∈fK z++cA zs->_;obtain⟨n1,n2,n3⟩:=bH.mp (show(fK z'++cA zs).Nodup from h);refine⟨bH.mpr ⟨nz,n2,λa ha b hb e=> ?_⟩,λl hl=> ?_⟩
  ·subst e
   rcases hz a ha with y|⟨z2,e2,y⟩
   ·exact y<|aM _ hb
   ·have:z'=z2:=by simpa using e2
    subst this;exact n3 a y a hb rfl
  ·rcases aS.mp hl with y|y
   ·exact .inr y
   ·exact .inl<|aM _ y
 |z'::zs,z,i+1,h,hz,nz=>by
  show(fK z'++cA (zs.set i z)).Nodup/\∀l,l∈fK z'++cA (zs.set i z)->_;obtain⟨n1,n2,n3⟩:=bH.mp (show(fK z'++cA zs).Nodup from h)
  obtain ⟨i1,i2⟩:=jK (sd:=zs) (z:=z) i n2 (fun l hl=>by
   rcases hz l hl with y|⟨z2,e2,y⟩
   ·exact .inl λq=>y<|aM _ q
   ·exact .inr ⟨z2,by simpa using e2,y⟩) nz
  refine⟨bH.mpr ⟨n1,i1,λa ha b hb e=> ?_⟩,λl hl=> ?_⟩
  ·subst e
   rcases i2 a hb with y|y
   ·exact n3 a ha a y rfl
   ·rcases hz a y with y|⟨z2,e2,y⟩
    ·exact y<|bO _ ha
    ·have m:a∈cA zs:=dY.mpr ⟨z2,bA (by simpa using e2),y⟩;exact n3 a ha a m rfl
  ·rcases aS.mp hl with y|y
   ·exact .inl<|bO _ y
   ·rcases i2 l y with y|y
    ·exact .inl<|aM _ y
    ·exact .inr y
theorem StF.set(S:StF K H₀ F H σ sd)(i:Nat)(q:Rep K F d v):StF K H₀ F H (σ.set i (some v)) (sd.set i<|.val d):=
 ⟨S.base,S.sub,S.smp,S.slots.set (z:=.val d) ⟨v,rfl,q⟩ i,(jK i S.nd λl e=>by simp[fK] at e).1⟩
theorem StF.setO{l:BE}{xs:List V}(S:StF K H₀ F H σ sd)(i:Nat)(n:F l=none)(h:H l=some (.lst xs))(q:RepL K F ds xs)(no:l∉cA sd):StF K H₀ F H (σ.set i (some<|.ref l)) (sd.set i<|.own l ds):=
 ⟨S.base,S.sub,S.smp,S.slots.set (z:=.own l ds) ⟨rfl,n,xs,h,q⟩ i,(jK i S.nd λl' e=>by rw[aI.mp e];exact .inl no).1⟩
theorem fV(i:Nat){x:Str}{p:Pos}(hN:X.N.Nodup)(hi:X.N[i]? =some x)(hx:Loc X.env.scope x)(h:PEd X sd e (.val d))(hE:E.nx (sd.set i<|.val d))(hs:Ab e (some<|.Name x p) pos.line X.env=pure false:=by rfl)
  (hf:X.fn x=true\/X.env.scope.names.lookup x=some .local:=by first|exact .inl rfl|exact .inr rfl|assumption):PSd1 X sd (.Assign [.Name x p] e pos) E:=.mk λσ F H S=>
 (qM hN hi hx eK hs hf).to ((h σ F H S).imp λv H' ⟨F',S',s',q⟩=>⟨_,F',S'.set i q,s',hE⟩)
theorem rE(i:Nat){x:Str}{p:Pos}(hN:X.N.Nodup)(hi:X.N[i]? =some x)(hx:Loc X.env.scope x)(h:PEd X sd e (.own ds))(hE:∀l,E.nx (sd.set i<|.own l ds))(hs:Ab e (some<|.Name x p) pos.line X.env=pure false:=by rfl)
  (hf:X.fn x=true\/X.env.scope.names.lookup x=some .local:=by first|exact .inl rfl|exact .inr rfl|assumption):PSd1 X sd (.Assign [.Name x p] e pos) E:=.mk λσ F H S=>
 (qM hN hi hx eK hs hf).to ((h σ F H S).imp λv H' ⟨F',S',s',l,xs,e,n,q,rl,no⟩=>⟨_,F',by subst e;exact S'.setO i n q rl no,s',hE l⟩)
noncomputable def Le:List Slot->List Slot->Prop
 |[],[]=>True
 |x::xs,y::ys=>(y=.un\/x=y)/\Le xs ys
 |_,_=>False
theorem Le.refl:∀ (sd:List Slot),Le sd sd
 |[]=>trivial
 |_::xs=>⟨.inr rfl,Le.refl xs⟩
theorem Le.own:∀ {sd sd':List Slot},Le sd sd'->(cA sd').Sublist (cA sd)
 |[],[],_=>List.Sublist.refl _
 |[],_::_,h=>h.elim
 |_::_,[],h=>h.elim
 |x::xs,y::ys,h=>by
  obtain⟨h1,h2⟩:=h;have ih:=Le.own h2
  rcases h1 with rfl|rfl
  ·exact ih.trans<|List.sublist_append_right _ _
  ·exact List.Sublist.append (List.Sublist.refl _) ih
theorem Le.slots{K:aA}{F H:Hp}:∀ {sd sd':List Slot}{σ:St},Le sd sd'->SlotsOk K F H sd σ->SlotsOk K F H sd' σ
 |[],[],_,_,h=>h
 |[],_::_,_,h,_=>h.elim
 |_::_,[],_,h,_=>h.elim
 |x::xs,y::ys,σ,h,q=>by
  obtain⟨h1,h2⟩:=h;obtain⟨o,r,rfl,a,b⟩:=q;refine⟨o,r,rfl, ?_,Le.slots h2 b⟩
  rcases h1 with rfl|rfl
  ·trivial
  ·exact a
theorem StF.le{sd':List Slot}(S:StF K H₀ F H σ sd)(h:Le sd sd'):StF K H₀ F H σ sd':=⟨S.base,S.sub,S.smp,h.slots S.slots,S.nd.sublist h.own⟩
theorem aDn{sd':List Slot}{sts:List BI}(h:Le sd sd')(q:PSd X sd' sts E):PSd X sd sts E:=.mk λσ F H S=>q σ F H<|S.le h
theorem aNS{F₀:Hp}{sts:List BI}(s:Same F₀ F)(h:wSs X sts (lft X F E) σ H):wSs X sts (lft X F₀ E) σ H:=
 h.imp (λσ2 H2 ⟨sd2,F2,S2,s2,q2⟩=>⟨sd2,F2,S2,s.trans s2,q2⟩) (λv H2 q2=>q2) (λσ2 H2 ⟨sd2,F2,S2,s2,q2⟩=>⟨sd2,F2,S2,s.trans s2,q2⟩) λσ2 H2 ⟨sd2,F2,S2,s2,q2⟩=>⟨sd2,F2,S2,s.trans s2,q2⟩
theorem gB:∀ (sd:List Slot) (i:Nat),Le sd (sd.set i .un)
 |[],_=>trivial
 |_::xs,0=>⟨.inl rfl,Le.refl xs⟩
 |_::xs,i+1=>⟨.inr rfl,gB xs i⟩
theorem gR:∀ {sd:List Slot}{i:Nat}{l:BE}{z:Slot},(cA sd).Nodup->sd[i]? =some z->l∈fK z->l∉cA (sd.set i .un)
 |[],_,_,_,_,e,_=>by simp at e
 |y::zs,0,l,z,h,e,hl=>by
  have:y=z:=by simpa using e
  subst this;obtain⟨n1,n2,n3⟩:=bH.mp (show(fK y++cA zs).Nodup from h);exact λhm=>n3 l hl l hm rfl
 |y::zs,i+1,l,z,h,e,hl=>by
  have e':zs[i]? =some z:=by simpa using e
  obtain⟨n1,n2,n3⟩:=bH.mp (show(fK y++cA zs).Nodup from h);have ml:l∈cA zs:=dY.mpr ⟨_,bA e',hl⟩;intro hm
  rcases aS.mp (show l∈fK y++cA (zs.set i .un) from hm) with q|q
  ·exact n3 l q l ml rfl
  ·exact gR n2 e' hl q
theorem sY{i:Nat}{l:BE}(h:(cA sd).Nodup)(e:sd[i]? =some (.own l ds)):l∉cA (sd.set i .un):=gR h e<|cD l
theorem lR{i:Nat}{o:Option V}(h:σ[i]? =some o):σ.set i o=σ:=by obtain⟨hi,e⟩:=aE.mp h;rw[<-e];exact pX hi
theorem jS(sd:List Slot)(i:Nat)(x y:Slot):(sd.set i x).set i y=sd.set i y:=by simp
theorem StF.wr{i:Nat}{l:BE}{ds':List D}{xs':List V}(S:StF K H₀ F H σ sd)(hs:sd[i]? =some (.own l ds))(rl:RepL K F ds' xs'):StF K H₀ F (upd H l<|.lst xs') σ (sd.set i<|.own l ds'):=by
 obtain⟨o,h1,h2,n,xs,q,_⟩:=S.slots.get hs;have no:=sY S.nd hs;have S0:=S.le<|gB sd i;refine⟨S.base,λb u e=> ?_,λb u e=> ?_, ?_, ?_⟩
 ·rw[aV<|cJ e n];exact S.sub _ _ e
 ·by_cases h:b=l
  ·subst h;rw[bK] at e;cases e;trivial
  ·rw[aV h] at e;exact S.smp _ _ e
 ·have q1:SlotsOk K F (upd H l<|.lst xs') (sd.set i .un) σ:=S0.slots.mono (Same.refl _) λl' hl=>by
   obtain⟨n',ys,q',_⟩:=S0.slots.owns hl;have hne:l'≠l:=λz=>no<|z▸hl
   exact⟨n',λys e=>by rw[aV hne];exact e⟩
  have q2:=q1.set (z:=.own l ds') (o:=some<|.ref l) ⟨rfl,n,xs',bK,rl⟩ i;rw[jS,lR<|by rw[h1,h2]] at q2;exact q2
 ·have:=jK (z:=Slot.own l ds') i S0.nd λl' e=>by rw[aI.mp e];exact .inl no
  rw[jS] at this;exact this.1
theorem iM(i:Nat){l:BE}{sts:List BI}(hs:sd[i]? =some (.own l ds))(h:PSd X (sd.set i (.val<|.lst ds)) sts E):PSd X sd sts E:=.mk λσ F H S=>by obtain⟨o,h1,h2,n,xs,q,rl⟩:=S.slots.get hs;have S0:=S.le<|gB sd i;obtain⟨S1,s1⟩:=S0.freeze q n<|sY S.nd hs;have S2:=S1.set (d:=.lst ds) (v:=.ref l) i (by simp only[Rep];exact⟨l,xs,rfl,bK,rl.mono s1⟩);rw[jS,lR<|by rw[h1,h2]] at S2;exact aNS s1<|h σ _ H S2
theorem nX(i:Nat){x:Str}{p ap cp:Pos}{l:BE}(hs:sd[i]? =some (.own l ds))(hx:PE X (.Name x p) (iT i))(h:PEd X sd e (.val d))(hl:ds.length<=10000)(hE:E.nx (sd.set i (.own l<|ds++[d])))
  (hst:AB (e::[]) X.env=(false,eval e X.env)::AB [] X.env:=by rfl)
  (hm:PE X (.Call (.Attribute (.Name x p) "append" ap) [e] [] cp) (tBM X.K "list" uS (iT i)<|oP (wE X e) aGi):=by exact aJH nG yG yH zQ (pv _) (dA eK pa_nil))
  (hsw:Ab (.Call (.Attribute (.Name x p) "append" ap) [e] [] cp) none pos.line X.env=pure false:=by rfl):
  PSd1 X sd (.Expr (.Call (.Attribute (.Name x p) "append" ap) [e] [] cp) pos) E:=.mk λσ F H S=>
 (uO hm hsw).to (by
  obtain⟨o,h1,h2,n,xs,q,rl⟩:=S.slots.get hs;refine⟨.ref l,by rw[h1,h2],.inl ⟨rfl,xs,.of q⟩,(h σ F H S).imp λv H1 ⟨F1,S1,s1,q1⟩=> ?_⟩;obtain⟨o',h1',h2',n',xs',q',rl'⟩:=S1.slots.get hs
  exact⟨l,xs',v,rfl,rfl,q',by rw[rl'.len];exact eX hl,_,F1,S1.wr hs (rl'.app (.one q1)),s1,hE⟩)
theorem aCp(i:Nat){x:Str}{p ap cp:Pos}{l:BE}{ds2:List D}(hs:sd[i]? =some (.own l ds))(hx:PE X (.Name x p) (iT i))(h:PEd X sd e (.val<|.lst ds2))(hl:ds.length+ds2.length<=10000)(hE:E.nx (sd.set i (.own l<|ds++ds2)))
  (hst:AB (e::[]) X.env=(false,eval e X.env)::AB [] X.env:=by rfl)
  (hm:PE X (.Call (.Attribute (.Name x p) "extend" ap) [e] [] cp) (tBM X.K "list" aEd (iT i)<|oP (wE X e) aGi):=by exact aJH nG PySem.F.slot_list_extend PySem.F.type_list_extend aEQ (pv _) (dA eK pa_nil))
  (hsw:Ab (.Call (.Attribute (.Name x p) "extend" ap) [e] [] cp) none pos.line X.env=pure false:=by rfl):
  PSd1 X sd (.Expr (.Call (.Attribute (.Name x p) "extend" ap) [e] [] cp) pos) E:=.mk λσ F H S=>
 (uO hm hsw).to (by
  obtain⟨o,h1,h2,n,xs,q,rl⟩:=S.slots.get hs;refine⟨.ref l,by rw[h1,h2],.inl ⟨rfl,xs,.of q⟩,(h σ F H S).imp λv H1 ⟨F1,S1,s1,q1⟩=> ?_⟩;obtain⟨o',h1',h2',n',xs',q',rl'⟩:=S1.slots.get hs;simp only[ResOk,Rep] at q1;obtain⟨b,zs,rfl,hb,rb⟩:=q1
  exact⟨l,b,xs',zs,rfl,rfl,q',S1.sub _ _ hb,by rw[rl'.len,rb.len];exact dE (eX hl),_,F1,S1.wr hs (rl'.app rb),s1,hE⟩)
noncomputable def spC(K:aA)(n:Nat)(C:List D->R->Prop):Sp:=λvs H Q _=>vs.length=n/\Smp H/\∃ds r,RepL K H ds vs/\C ds r/\∀v H',aGk K H H' r v->Q v H'
noncomputable def spF(K:aA)(n:Nat)(C:List D->R->Prop):Sp:=λvs H Q _=>vs.length=n/\Smp H/\∃F ds r,Same F H/\RepL K F ds vs/\C ds r/\∀v F2 F3 H',Same F F2->Same F2 F3->Same F3 H'->Same H H'->Smp H'->(∀b o,H b=some o->F b=none->F3 b=none)->ResOk K F2 F3 [] r v->Q v H'
noncomputable def rR(F H:Hp):Hp:=λb=>match F b with
 |some o=>some o
 |none=>H b
theorem sL:Same F (rR F H):=λb o e=>by unfold rR;rw[e]
theorem sA{b:BE}(h:F b=none):rR F H b=H b:=by unfold rR;rw[h]
theorem FnOk.framed{P:AE}{w:AM}{mg:Str->Option BC}{base:BG}{k n:Nat}{f:BE}{fd:AN}{ps:List Str}{C:List D->R->Prop}(G:FnOk P w K mg base CX0 k f fd ps (spC K n C)):FnOk P w K mg base CX0 k f fd ps (spF K n C):=by
 refine⟨λvs H Q E h=> ?_,λA outer s H args us vs Q E hr e0 hb rv h=> ?_⟩
 ·obtain⟨hl,sm,F,ds,r,sF,rl,c,_⟩:=h;exact G.len vs F (λ_ _=>True) E ⟨hl,sm.sub sF,ds,r,rl,c,λ_ _ _=>trivial⟩
 ·obtain⟨hl,sm,F,ds,r,sF,rl,c,q⟩:=h;have e1:Env0 P w K mg base A outer s F:=⟨e0.frames,e0.mod,λb o e=>⟨(e0.bs b o e).1,sF.free (e0.bs b o e).2⟩,e0.bsz,e0.funs,λb hb=>sF.free<|e0.frf b hb,λb o e=>(e0.hok b o<|sF b o e).smp (sm b o<|sF b o e),e0.bare⟩;refine Ap (G.run A outer s F args us vs (λv F3=>aGk K F F3 r v) E hr e1 hb rv ⟨hl,sm.sub sF,ds,r,rl,c,λv H' z=>z⟩) λrr s' hrr=> ?_
  cases rr with
  |error e=>exact hrr
  |ok fl=>
   cases fl with
   |ret u=>
    obtain⟨v,F3,ho,ha,un,hk,ru,F2,s1,s2,sm3,res⟩:=hrr
    have keepF:∀b o,H b=some o->F b=none->F3 b=none:=λb o e n=>by
     have lt:=e0.hok.lt e;cases g:s.heap.get? b with
     |none=>
      exfalso;have ob:=e0.hok b o e;have z:=sm b o e;cases o with
      |lst xs=>obtain⟨_,_,_,_,g'⟩:=ob;rw[g] at g';cases g'
      |tup xs=>obtain⟨_,_,_,oo,g',_⟩:=ob;rw[g] at g';cases g'
      |dK kvs=>obtain⟨_,_,_,_,oo,_,_,g',_⟩:=ob;rw[g] at g';cases g'
      |frz o2 u2=>obtain⟨g',_⟩:=ob;rw[g] at g';cases g'
      |ext φ=>obtain⟨_,⟨oo,g'⟩,_⟩:=ob;rw[g] at g';cases g'
      |_=>exact z
     |some ob=>exact un.free b ob g n<|by simp
    have keepO:∀b o,H b=some o->F b=none->∀ob,s.heap.get? b=some ob->s'.heap.get? b=some ob:=λb o e n ob g=>un.keep b ob g n (λhb=>by have:=e0.frf b hb;rw[e] at this;cases this)<|by simp
    have sH:Same H (rR F3 H):=λb o e=>by
     cases g:F b with
     |none=>rw[sA<|keepF b o e g];exact e
     |some o'=>have:=sF b o' g;rw[e] at this;cases this;exact sL _ _ (s2 _ _<|s1 _ _ g)
    have smM:Smp (rR F3 H):=λb o e=>by
     cases g:F3 b with
     |some o'=>have:=sL (H:=H) b o' g;rw[e] at this;cases this;exact sm3 b o g
     |none=>rw[sA g] at e;exact sm b o e
    refine⟨v,rR F3 H,ho,ha,⟨λb o g n hb hx=>un.keep b o g (sF.free n) hb hx,λb o g n hb hx=>un.slot b o g (sF.free n) hb hx,λb o g n hx=> ?_,un.there,λb xs e=>sH _ _ e,λb o u e=>sH _ _ e,λb ps e=>⟨#[],by rw[sH _ _ e];simp⟩⟩,λb o e=> ?_,ru, ?_⟩
    ·rw[sA<|un.free b o g (sF.free n) hx];exact n
    ·have z:=smM b o e;cases g:F3 b with
     |some o'=>have:=sL (H:=H) b o' g;rw[e] at this;cases this;exact(hk b o g).smp z
     |none=>
      rw[sA g] at e
      have n:F b=none:=by
       cases g2:F b with
       |none=>rfl
       |some o2=>rw[s2 _ _<|s1 _ _ g2] at g;cases g
      have st:=(e0.hok b o e).smp (F:=λ_=>none) z
      have:ObjOk P w (fun _=>none) s'.heap b o:=st.stay (fun b2 u hb2 gg=>by
       rcases hb2 with rfl|hb2
       ·exact keepO _ o e n u gg
       ·cases hb2) (λb2 hb2=>nomatch hb2) λb2 xs hb2=>nomatch hb2
      exact this.smp z
    ·exact q v F2 F3 (rR F3 H) s1 s2 sL sH smM keepF res
   |_=>exact hrr
structure bJ(P:AE)(w:AM)(K:aA)(mg:Str->Option BC)(base:BG)(x:Str)(k n:Nat)(C:List D->R->Prop):Prop where
 ex:∃ (f:BE) (fd:AN) (ps:List Str),mg x=some (.ref f)/\cO K (.ref f)=true/\Binds K fd ps []/\FnOk P w K mg base CX0 k f fd ps (spC K n C)
theorem aKi{x:Str}{p:Pos}{k n:Nat}{C:List D->R->Prop}(G:bJ X.prog X.w X.K X.mg X.base x k n C)(hr:Room k X.A)(hg:Gl X x)(ha:PAd X sd (e::es) (ds.map R.val))(hc:C ds r)(hb:match r with | .bor _=>False|_=>True)(hn:ds.length=n)
  (hdb:(x==("__debug__":Str))=false:=by decide) (he:AB (e::es) X.env=(false,eval e X.env)::AB es X.env:=by rfl) (hpl:(AX pos<|AB es X.env).any (·.1)=false:=by rfl):
  PEd X sd (.Call (.Name x p) (e::es) [] pos) r:=.mk λσ F H S=>by
 obtain⟨f,fd,ps,hm,hk,bd,G⟩:=G.ex;refine(rM (FnOk.framed G) hr hg hm hk bd .nil xJ oK hdb he hpl).to<|(ha σ F H S).imp λvs H1 ⟨F1,S1,s1,q1⟩=> ?_;have rl:=q1.vals;refine⟨by rw[bN,rl.len];exact hn,S1.smp,F1,ds,r,S1.sub,by rw[bN];exact rl,hc,λv F2 F3 H' s2 s3 s4 sH sm kp res=> ?_⟩
 have no:∀l,l∈cA sd->F2 l=none/\F3 l=none:=λl hl=>by obtain⟨n1,xs,q,_⟩:=S1.slots.owns hl;have n3:=kp l _ q n1;exact⟨s3.free n3,n3⟩
 refine⟨F2,⟨λb o e=>s2 _ _<|S1.base _ _ e,s3.trans s4,sm,S1.slots.mono s2 λl hl=>⟨(no l hl).1,λys e=>sH _ _ e⟩,S1.nd⟩,s1.trans s2, ?_⟩;cases r with
 |val d=>exact res
 |own ds'=>obtain⟨l,xs,e,n,q,rl',_⟩:=res;exact⟨l,xs,e,n,s4 _ _ q,rl',λhl=>by rw[(no l hl).2] at q;cases q⟩
 |pr d ls=>obtain⟨t,l,xs,y,e,f,g,n,q,rl',_⟩:=res;exact⟨t,l,xs,y,e,f,g,n,s4 _ _ q,rl',λhl=>by rw[(no l hl).2] at q;cases q⟩
 |ox G=>obtain⟨ls,nd,h,g⟩:=res;refine⟨ls,nd,λl hl=> ?_,λF' H'' sF k=>g F' H'' sF λl hl ob q=>k l hl ob<|s4 _ _ q⟩;obtain⟨n,⟨ob,q,w⟩,_⟩:=h l hl;exact⟨n,⟨ob,s4 _ _ q,w⟩,λhm=>by rw[(no l hm).2] at q;cases q⟩
 |bor ds'=>exact hb.elim
noncomputable def init(n:Nat)(ds:List D):List Slot:=ds.map Slot.val++bG (n-ds.length) .un
theorem aBP{K:aA}{F H:Hp}:∀n:Nat,SlotsOk K F H (bG n .un) (bG n none)
 |0=>rfl
 |n+1=>⟨none,bG n none,rfl,trivial,aBP n⟩
theorem jG{K:aA}{F H:Hp}{m n:Nat}:∀ {ds:List D}{vs:List V},RepL K F ds vs->SlotsOk K F H (ds.map Slot.val++bG n .un) (vs.map some++bG n none)
 |[],vs,r=>by simp only[RepL] at r;subst r;exact aBP n
 |d::ds,vs,r=>by obtain⟨y,ys,rfl,a,rl⟩:=r.uncons;exact⟨some y,_,rfl,⟨y,rfl,a⟩,jG (m:=m) rl⟩
theorem jH(n:Nat):∀ds:List D,cA (ds.map Slot.val++bG n .un)=[]
 |[]=>by
  induction n with
  |zero=>rfl
  |succ n ih=>exact ih
 |_::ds=>jH n ds
theorem aIP{P:AE}{w:AM}{mg:Str->Option BC}{base:BG}{x qual:Str}{f:BE}{fd:AN}{N ps:List Str}{k:Nat}{C:List D->R->Prop}(F:Fun K x qual st f fd)(S:gO N ps (aO st))
  (body:∀ (cdv:BC) (A:BF) (outer:List Env) (s:BD) (H:Hp) (E:XK),Room k (A.deeper (Ai qual (aO st) s.heap.objs.size f cdv))→∀ds r,ds.length=ps.length→C ds r→
   PSd (iF CX0 P w K mg base N qual (aO st) f cdv A outer s H E).nox (init N.length ds) (cN st) {nx:=λ_=>r=.val .non,rt:=λr'=>r'=r}):FnOk P w K mg base CX0 (k+1) f fd ps (spC K ps.length C):=by
 refine F.ok S (λvs H Q E h=>h.1) λcdv A outer s H vs Q E hr h=> ?_
 obtain⟨hl,sm,ds,r,rl,c,q⟩:=h;have hds:ds.length=ps.length:=by rw[<-rl.len];exact hl
 refine⟨_,pss_w, ?_⟩;have hlen:N.length-vs.length=N.length-ds.length:=by rw[rl.len]
 have S0:StF K H H H (L2.start N vs) (init N.length ds):=by
  refine⟨Same.refl _,Same.refl _,sm, ?_, ?_⟩
  ·unfold L2.start init;rw[hlen];exact jG (m:=0) rl
  ·unfold init;rw[jH];exact cR
 refine(body cdv A outer s H E hr ds r hds c (L2.start N vs) H H S0).imp ?_ ?_ (λ_ _ ⟨_,_,_,_,z⟩=>z) λ_ _ ⟨_,_,_,_,z⟩=>z
 ·rintro σ' H' ⟨sd',F',S',s',e⟩;have e:r=.val .non:=e;subst e;exact q .non H' ⟨F',S'.base,S'.sub,S'.smp,by simp only[ResOk,Rep]⟩
 ·rintro v H' ⟨r',ro,e⟩;have e:r'=r:=e;subst e;exact q v H' ro
theorem aNg{P:AE}{w:AM}{mg:Str->Option BC}{base:BG}{x qual:Str}{f:BE}{fd:AN}{N ps:List Str}{k:Nat}{C:List D->R->Prop}(F:Fun K x qual st f fd)(S:gO N ps (aO st))
  (hm:mg x=some (.ref f)) (hb:∀ (kV doc pm:BC) (an:Option BE) (cdv ct:BC) (us:List BC),us.length=ps.length->bindArgs (cE x qual (eA st) (cN st) (aO st) .none kV doc pm an cdv ct) ⟨us,[]⟩=pure (ps.zip us))
  (body:∀ (cdv:BC) (A:BF) (outer:List Env) (s:BD) (H:Hp) (E:XK),Room k (A.deeper (Ai qual (aO st) s.heap.objs.size f cdv))→∀ds r,ds.length=ps.length→C ds r→
   PSd (iF CX0 P w K mg base N qual (aO st) f cdv A outer s H E).nox (init N.length ds) (cN st) {nx:=λ_=>r=.val .non,rt:=λr'=>r'=r}):bJ P w K mg base x (k+1) ps.length C:=
 ⟨f,fd,ps,hm,F.kp,F.binds hb,aIP F S body⟩
variable {tg iter:Expr}
def ItD(K:aA)(F₁:Hp)(P:Hp->Hp->Prop)(J:It)(ds:List D):Prop:=∀ (F H:Hp),Same F₁ F->Same F H->Smp H->P F H->∀i,(i<ds.length->J.go i H)/\(ds.length<=i->J.stop i H)/\
 ∀x H' d,ds[i]? =some d->J.yld i H x H'->∃F',Same F F'/\Rep K F' d x/\∀H₀ σ sd,StF K H₀ F H σ sd->StF K H₀ F' H' σ sd
abbrev PT0:Hp->Hp->Prop:=λ_ _=>True
structure PId(X:Cx)(sd:List Slot)(P:Hp->Hp->Prop)(tg iter:Expr)(ds:List D):Prop where
 run:∀ (σ:St) (F H:Hp),StF X.K X.B₀ F H σ sd->
 wI X tg iter σ H λJ H1=>∃F1,StF X.K X.B₀ F1 H1 σ sd/\Same F F1/\ItD X.K F1 P J ds
instance {X:Cx}{sd:List Slot}{P:Hp→Hp→Prop}{tg iter:Expr}{ds:List D}:CoeFun (PId X sd P tg iter ds) (fun _=>∀ (σ:St) (F H:Hp),StF X.K X.B₀ F H σ sd→
 wI X tg iter σ H λJ H1=>∃F1,StF X.K X.B₀ F1 H1 σ sd/\Same F F1/\ItD X.K F1 P J ds):=⟨PId.run⟩
theorem _root_.L2.PI.to{wi:TI}{R:It->Hp->Prop}(h:PI X tg iter wi)(q:wi σ H R):wI X tg iter σ H R:=λpins s I=>h pins s σ H R I q
theorem gX(h:PEd X sd iter (.val<|.lst ds)):PId X sd PT0 tg iter ds:=.mk λσ F H S=>
 (aJO eK).to ((h σ F H S).imp fun v H1 ⟨F1,S1,s1,q1⟩=>by
  simp only[ResOk,Rep] at q1;obtain⟨l,xs,rfl,hl,rl⟩:=q1;refine⟨l,rfl,⟨xs,.of<|S1.sub _ _ hl⟩,F1,S1,s1,λF' H' sF sH sm _ i=> ?_⟩;have hl':=sH _ _<|sF _ _ hl;refine⟨λhi=>⟨xs,xs[i]'(by rw[rl.len];exact hi),.of hl',by simp[rl.len,hi]⟩,λhi=>⟨xs,.of hl',by rw[rl.len];exact hi⟩,λx H2 d hd y=> ?_⟩;obtain⟨rfl,y⟩:=y;obtain⟨v,hv,rv⟩:=rl.get hd;have:=y xs<|.of hl';rw[hv] at this;cases this
  exact⟨F',Same.refl _,rv.mono sF,λ_ _ _ S=>S⟩)
theorem nK(h:PEd X sd iter (.val<|.tup ds)):PId X sd PT0 tg iter ds:=.mk λσ F H S=>
 (aNd eK).to ((h σ F H S).imp fun v H1 ⟨F1,S1,s1,q1⟩=>by
  simp only[ResOk,Rep] at q1;obtain⟨l,xs,rfl,hl,rl⟩:=q1;refine⟨l,rfl,⟨xs,.of<|S1.sub _ _ hl⟩,F1,S1,s1,λF' H' sF sH sm _ i=> ?_⟩;have hl':=sH _ _<|sF _ _ hl;refine⟨λhi=>⟨xs,xs[i]'(by rw[rl.len];exact hi),.of hl',by simp[rl.len,hi]⟩,λhi=>⟨xs,.of hl',by rw[rl.len];exact hi⟩,λx H2 d hd y=> ?_⟩;obtain⟨rfl,y⟩:=y;obtain⟨v,hv,rv⟩:=rl.get hd;have:=y xs<|.of hl';rw[hv] at this;cases this
  exact⟨F',Same.refl _,rv.mono sF,λ_ _ _ S=>S⟩)
noncomputable def fR(lo:Int)(n:Nat):List D:=(bQ n).map λ(k:Nat)=>D.int<|lo+(k:Int)
theorem fM(lo:Int)(n:Nat):(fR lo n).length=n:=by simp[fR]
theorem fQ{lo:Int}{n i:Nat}(h:(fR lo n)[i]? =some d):i<n/\d=.int (lo+(i:Int)):=by
 unfold fR at h;rw[aW] at h
 by_cases hi:i<n
 ·rw[aGc hi] at h;exact⟨hi,(bZ.inj h).symm⟩
 ·rw[iH<|by simpa using hi] at h;cases h
theorem sS{F₁:Hp}{lo:Int}{n:Nat}:ItD K F₁ PT0 (Itr lo n) (fR lo n):=λF H _ _ _ _ i=>by refine⟨λhi=>by rw[fM] at hi;exact hi,λhi=>by rw[fM] at hi;exact hi,λx H' d hd y=> ?_⟩;obtain⟨rfl,rfl⟩:=y;obtain⟨_,rfl⟩:=fQ hd;exact⟨F,Same.refl _,by simp only[Rep],λ_ _ _ S=>S⟩
theorem lM{p:Pos}{n:Nat}(hg:Gl X "range")(hm:X.mg "range"=none)(h:PEd X sd a (.val<|.int (n:Int)))(hn:(n:Int)<2^62)(hs:AB [a] X.env=[(false,eval a X.env)]:=by rfl):PId X sd PT0 tg (.Call (.Name "range" p) [a] [] pos) (fR 0 n):=.mk λσ F H S=>
 (yP hg hm oK hs).to ((aB h aK trivial hs σ F H S).imp fun vs H1 ⟨F1,S1,s1,q1⟩=>by
  cases q1 with
  |cons q1 q2=>
   cases q2;simp only[ResOk,Rep] at q1;subst q1
   exact⟨(n:Int),rfl,by omega,hn,F1,S1,s1,by rw[dI];exact sS⟩)
theorem qR{p:Pos}{lo:Int}{m:Int}(hg:Gl X "range")(hm:X.mg "range"=none)(ha:PEd X sd a (.val<|.int lo))(hb:PEd X sd b (.val<|.int m))(h1: -(2^62)<=lo/\lo<2^62)(h2: -(2^62)<=m/\m<2^62)(hs:AB [a,b] X.env=[(false,eval a X.env),(false,eval b X.env)]:=by rfl)(hs2:AB [b] X.env=[(false,eval b X.env)]:=by rfl):
  PId X sd PT0 tg (.Call (.Name "range" p) [a,b] [] pos) (fR lo (m-lo).toNat):=.mk λσ F H S=>
 (aFn hg hm oK hs hs2).to ((aB ha (aB hb aK trivial hs2) trivial (by rw [hs,hs2]) σ F H S).imp fun vs H1 ⟨F1,S1,s1,q1⟩=>by
  cases q1 with
  |cons q1 q2=>
   cases q2 with
   |cons q2 q3=>
    cases q3;simp only[ResOk,Rep] at q1 q2;subst q1 q2
    exact⟨lo,m,rfl,⟨h1.1,h1.2,h2.1,h2.2⟩,F1,S1,s1,sS⟩)
structure PGd(X:Cx)(sd:List Slot)(tg:Expr)(d:D)(sd':List Slot):Prop where
 run:∀ (σ:St) (F H:Hp) (v:V),StF X.K X.B₀ F H σ sd->Rep X.K F d v->wG X tg v σ H λσ' H'=>∃F',StF X.K X.B₀ F' H' σ' sd'/\Same F F'
instance {X:Cx}{sd:List Slot}{tg:Expr}{d:D}{sd':List Slot}:CoeFun (PGd X sd tg d sd') (λ_=>∀ (σ:St) (F H:Hp) (v:V),StF X.K X.B₀ F H σ sd->Rep X.K F d v->wG X tg v σ H λσ' H'=>∃F',StF X.K X.B₀ F' H' σ' sd'/\Same F F'):=⟨PGd.run⟩
theorem _root_.L2.PG.to{t:TG}{Q:St->Hp->Prop}(h:PG X tg t)(q:t v σ H Q):wG X tg v σ H Q:=λpins s u I r=>h pins s σ H v u Q I r q
theorem aBr(j:Nat)(h:PG X tg (aDh j)):PGd X sd tg d (sd.set j<|.val d):=.mk λσ F H v S q=>h.to ⟨F,S.set j q,Same.refl _⟩
noncomputable def gNs:List Nat->TGs
 |[]=>aPE
 |j::js=>aLX (aDh j)<|gNs js
noncomputable def aBl:List Slot->List Nat->List D->List Slot
 |sd,j::js,d::ds=>aBl (sd.set j<|.val d) js ds
 |sd,_,_=>sd
theorem aDB{K:aA}{H₀ F H:Hp}{Q:St->Hp->Prop}:∀ {js:List Nat}{ds:List D}{vs:List V}{σ:St}{sd:List Slot},js.length=ds.length->RepL K F ds vs->StF K H₀ F H σ sd->(∀σ',StF K H₀ F H σ' (aBl sd js ds)->Q σ' H)->gNs js vs σ H Q
 |[],[],vs,σ,sd,_,r,S,k=>by simp only[RepL] at r;exact⟨r,k σ S⟩
 |j::js,d::ds,vs,σ,sd,hl,r,S,k=>by obtain⟨y,ys,rfl,q,rl⟩:=r.uncons;exact⟨y,ys,rfl,aDB (by simpa using hl) rl (S.set j q) k⟩
 |[],_::_,_,_,_,hl,_,_,_=>by simp at hl
 |_::_,[],_,_,_,hl,_,_,_=>by simp at hl
theorem jU{k:Nat}{js:List Nat}(hc:X.calm=true)(h:PGs X es (gNs js))(hl:js.length=ds.length)(hn:(Ag es X.env).length=ds.length)(hst:(Ag es X.env).findIdx? (·.1)=none:=by rfl):PGd X sd (.Tuple es k pos) (.tup ds) (aBl sd js ds):=.mk λσ F H v S q=>
 (aNl hc h hn hst).to (by
  simp only[Rep] at q;obtain⟨a,xs,rfl,ha,rl⟩:=q
  exact⟨a,xs,rfl,.of (S.sub _ _ ha),rl.len,aDB hl rl S λσ' S'=>⟨F,S',Same.refl _⟩⟩)
theorem zD{prog:AE}{w:AM}{A:BF}{E:BC->BD->Prop}{it t:BE}{items:Array BC}(hne:t≠it):∀ (n i:Nat) (s:BD) (Q:List BC->BD->Prop),s.heap.IsListIter it t i->s.heap.IsList t items->i+n<=items.size->
  (∀h',h'.IsListIter it t (i+n)->Heap.SameBut it s.heap h'->Q ((items.toList.drop i).take n) {s with heap:=h'})->AK (AH prog w) A (draw (.ref it) n) Q E s
 |0,i,s,Q,hit,_,_,hQ=>by show AK _ _ (pure []) Q E s;exact AC (by simpa using hQ s.heap hit (Heap.SameBut.refl ..))
 |n+1,i,s,Q,hit,ht,hle,hQ=>by
  have hlt:i<items.size:=by omega
  show AK _ _ (pyNext (.ref it)>>=_) Q E s;refine AA<|wpAny_pyNext_list_item hit ht (x:=items[i]) (by simp[hlt]) λh₁ hit₁ hs₁=> ?_;refine AA (AV<|zD hne n (i+1) _ _ hit₁ (ht.extBut hs₁.extBut hne) (by omega) λh₂ hit₂ hs₂=>AC ?_);have hd:items.toList.drop i=items[i]::items.toList.drop (i+1):=by simp[dH,hlt]
  have:=hQ h₂ (by rw[show i+(n+1)=i+1+n by omega];exact hit₂)<|hs₁.trans hs₂;rw[hd,qT] at this;exact this
theorem aAY{prog:AE}{w:AM}{A:BF}{E:BC->BD->Prop}{s:BD}{t:BE}{items:Array BC}{Q:List BC->BD->Prop}(hh:A.handled=none)(ht:s.heap.IsList t items)
  (hQ:∀h',Heap.ExtBut s.heap.objs.size s.heap h'->Q items.toList {s with heap:=h'}):AK (AH prog w) A (unpackItems (.ref t) items.size none) Q E s:=by
 have hlt:t≠s.heap.objs.size:=by obtain⟨o,ho,_⟩:=ht;exact bW<|aR ho
 unfold unpackItems;refine AA ?_;unfold notIterableAtAll;refine AA<|wpAny_specialOf ht.typeIs slot_list_iter.lookup ?_;refine AC ?_;simp only[bT,if_false];refine AA (AV<|wpAny_pyIter_list ht ?_);refine AA (AV<|zD hlt items.size 0 _ _ ⟨_,bL _ rfl,rfl,rfl⟩ (ht.at λo e=>aD _ e) (by omega) λh₁ hit₁ hs₁=> ?_)
 have hall:List.take items.size (List.drop 0 items.toList)=items.toList:=by rw[aNX];exact dZ<|by simp
 rw[hall];rw[if_neg<|by simp];have ht₁:h₁.IsList t items:=(ht.at λo e=>aD _ e).extBut hs₁.extBut hlt;refine AA (AV<|wpAny_pyNext_list_end hh hit₁ ht₁ (by simp) λh₂ he₂=> ?_);simp only[Option.isSome_none,bT,if_false];exact AC (hQ h₂ λb o hb e=>he₂ b o hb (hs₁.extBut b o hb<|aD _ e))
noncomputable def gLst(K:aA)(n:Nat)(t:TGs):TG:=λv σ H Q=>∃a xs,v=.ref a/\SqL K H a xs/\xs.length=n/\t xs σ H Q
theorem aMQ{k:Nat}{t:TGs}{n:Nat}(hc:X.calm=true)(h:PGs X es t)
  (hn:(Ag es X.env).length=n:=by rfl) (hst:(Ag es X.env).findIdx? (·.1)=none:=by rfl):PG X (.Tuple es k pos) (gLst X.K n t):=by
 intro pins s σ H v u Q I r hw;obtain⟨a,xs,e1,hq,hl,hw⟩:=hw;subst e1;cases r;obtain⟨its,rv,ht,hz⟩:=I.list hq;rw[PyProof.Rows.assign_Tuple];refine AA<|wpAny_standAt ?_;unfold unpack;have e2:(Ag es X.env).length=its.toArray.size:=by rw[hn,<-hl,rv.length];simp
 rw[e2,hst];refine AA (AV<|aAY (I.ok.hd hc) ht.isList λh' hx=> ?_);have I1:Inv X pins σ H {s with heap:=h'}:=I.kept (t':=s.toks) λb o e=>hx b o (bW<|aR e) e
 exact h pins _ σ H xs _ Q I1 (by simpa using rv) hw
theorem aEC{k:Nat}{js:List Nat}(hc:X.calm=true)(h:PGs X es (gNs js))(hl:js.length=ds.length)(hn:(Ag es X.env).length=ds.length)(hst:(Ag es X.env).findIdx? (·.1)=none:=by rfl):PGd X sd (.Tuple es k pos) (.lst ds) (aBl sd js ds):=.mk λσ F H v S q=>
 (aMQ hc h hn hst).to (by
  simp only[Rep] at q;obtain⟨a,xs,rfl,ha,rl⟩:=q
  exact⟨a,xs,rfl,.of (S.sub _ _ ha),rl.len,aDB hl rl S λσ' S'=>⟨F,S',Same.refl _⟩⟩)
theorem uX{sd':List Slot}(h:PEd X sd e (.val d))(hg:PGd X sd tg d sd')(hE:E.nx sd')(hs:swapsWithSole [tg] e pos.line X.env=pure false:=by rfl)(hw:swappedStores [tg] e X.env=pure none:=by rfl)
  (h1:(Ag [tg] X.env).map (·.2)=[assign tg X.env]:=by rfl):PSd1 X sd (.Assign [tg] e pos) E:=.mk λσ F H S=>
 (aIQ eK aOa hs hw h1).to ((h σ F H S).imp λv H1 ⟨F1,S1,s1,q1⟩=>(hg σ F1 H1 v S1 q1).imp λσ' H' ⟨F',S',s'⟩=>⟨sd',F',S',s1.trans s',hE⟩)
theorem nV{body:List BI}{P:Hp->Hp->Prop}(Sd Td:Nat->List Slot)(hi:PId X sd P tg iter ds)(h0:Le sd (Sd 0))(hg:∀k d,ds[k]? =some d->PGd X (Sd k) tg d (Td k))
  (hb:∀k d,ds[k]? =some d->PSd X (Td k) body {E with nx:=λsd'=>Le sd' (Sd<|k+1),ct:=λsd'=>Le sd' (Sd<|k+1),bk:=E.nx}) (hE:E.nx (Sd ds.length)) (hP:∀k σ F H,StF X.K X.B₀ F H σ (Sd k)->P F H:=by intros;trivial)
  (hc:X.calm=true:=by rfl) (hp:PassesOwn (AH X.prog X.w) X.A X.env X.xe:=by exact PassesOwn.never) (hs:∀x,Ay iter X.env x=pure x:=by intro _;rfl):PSd1 X sd (.For tg iter body [] pos) E:=.mk λσ F H S=>
 (aIv hp hc aPX aOa pss_w hs).to (by
  intro pins s I;refine thn (hi σ F H S pins s I) λv s1 h1=>thn h1 λitv s2 h2=> ?_
  obtain⟨it,fp,tn,J,H2,e,I2,T,st2,f2,F1,S1,s1',itd⟩:=h2;refine⟨it,fp,tn,J,H2,e,I2,T,st2,f2, ?_⟩;refine⟨λi m σ' H'=>m=ds.length-i/\i<=ds.length/\∃F',StF X.K X.B₀ F' H' σ' (Sd i)/\Same F1 F',⟨ds.length,by simp,cP _,F1,S1.le h0,Same.refl _⟩, ?_⟩;rintro i m σ' H' ⟨rfl,hil,F',S',s'⟩;obtain⟨g1,g2,g3⟩:=itd F' H' s' S'.sub S'.smp (hP _ _ _ _ S') i
  by_cases hlt:i<ds.length
  ·refine .inr ⟨g1 hlt,λσ2 H2=>∃F2,StF X.K X.B₀ F2 H2 σ2 (Sd<|i+1)/\Same F1 F2,λσ2 H2 ⟨F2,S2,s2⟩=>⟨ds.length-(i+1),by omega,rfl,hlt,F2,S2,s2⟩,λx H2 y=> ?_⟩;have hd:ds[i]? =some ds[i]:=by simp[hlt]
   obtain⟨F2,s2,rp,up⟩:=g3 x H2 ds[i] hd y;refine(hg i _ hd σ' F2 H2 x (up _ _ _ S') rp).imp λσ3 H3 ⟨F3,S3,s3⟩=> ?_
   have base:Same F1 F3:=(s'.trans s2).trans s3;refine(hb i _ hd σ3 F3 H3 S3).imp ?_ ?_ ?_ ?_
   ·rintro σ4 H4 ⟨sd4,F4,S4,s4,le⟩;exact⟨F4,S4.le le,base.trans s4⟩
   ·exact λv H4 q=>q
   ·rintro σ4 H4 ⟨sd4,F4,S4,s4,q⟩;exact⟨sd4,F4,S4,(s1'.trans base).trans s4,q⟩
   ·rintro σ4 H4 ⟨sd4,F4,S4,s4,le⟩;exact⟨F4,S4.le le,base.trans s4⟩
  ·have e:i=ds.length:=by omega
   subst e
   exact .inl ⟨g2 (aN _),Sd ds.length,F',S',s1'.trans s',hE⟩)
theorem Inv.retrack{pins:List (BE×BH)}{σ:St}{H F:Hp}{s s':BD}(I0:Inv X pins σ H s):∀ (ls:List BE),ls.Nodup->(∀l∈ls,F l=none/\(∃xs,H l=some xs/\Wr l xs)/\∀o,s.heap.get? l=some o->s'.heap.get? l=some o)->Inv X pins σ F s'->Inv X pins σ (λb=>if b∈ls then H b else F b) s'
 |[],_,_,I=>by simpa using I
 |l::ls,nd,h,I=>by
  obtain⟨nl,nd'⟩:=bV.mp nd;have J:=Inv.retrack I0 ls nd' (λl' hl=>h l'<|aF _ hl) I;obtain⟨n,⟨xs,hx,wx⟩,kp⟩:=h l aJ
  have e:(λb=>if b∈l::ls then H b else F b)=upd (λb=>if b∈ls then H b else F b) l xs:=by
   funext b;unfold upd
   by_cases hb:b=l
   ·subst hb;simp[hx]
   ·simp[hb]
  rw[e];have n':(λb=>if b∈ls then H b else F b) l=none:=by simp[nl,n]
  have ob:=I0.hok l _ hx;clear e;generalize (λb=>if b∈ls then H b else F b)=G at J n' ⊢;refine⟨J.ok,J.os,J.bare,⟨J.base.keep,J.base.slot,λb u g n0 hx0=> ?_,J.base.there,λb ys g=> ?_,λb u ys g=> ?_,λb ps g=> ?_⟩,J.loc,J.cell, ?_,λx c g=> ?_,λp hp=> ?_,J.hok.track n' ?_,J.len⟩
  ·have hb:b≠l:=λq=>by subst q;have:=I0.base.free b u g n0 hx0;rw[hx] at this;cases this
   rw[aV hb];exact J.base.free b u g n0 hx0
  ·have q:=J.base.tups b ys g;rw[aV<|cJ q n'];exact q
  ·have q:=J.base.frzs b u ys g;rw[aV<|cJ q n'];exact q
  ·obtain⟨m,q⟩:=J.base.tbls b ps g;exact⟨m,by rw[aV<|cJ q n'];exact q⟩
  ·rw[aV λq=>by have:=I0.free;rw[q,hx] at this;cases this];exact J.free
  ·rw[aV λq=>by have:=I0.freeC x c g;rw[q,hx] at this;cases this];exact J.freeC x c g
  ·obtain⟨g,n0,rr⟩:=J.pin p hp;refine⟨g, ?_,rr⟩;rw[aV λq=>by have:=(I0.pin p hp).2.1;rw[q,hx] at this;cases this];exact n0
  ·cases xs with
   |lst xs=>obtain⟨z,its,nn,rv,ho⟩:=ob;exact⟨z,its,nn,rv,kp _ ho⟩
   |dK kvs=>obtain⟨z,y,vs,r,o,es,ep,e,c⟩:=ob;exact⟨z,y,vs,r,o,es,ep,kp _ e,c⟩
   |ext φ=>obtain⟨h1,⟨o1,h2⟩,h3⟩:=ob;exact⟨h3 _ _ h1 kp,⟨o1,kp _ h2⟩,h3⟩
   |_=>exact wx.elim
theorem aNE{P:AE}{w:AM}{h:BG}{l:BE}{xs:HO}(wx:Wr l xs)(q:H l=some xs)(ok:ObjOk P w H h l xs):∃ys o,H l=some ys/\Wr l ys/\h.get? l=some o/\∀v,o.data≠ .cell v:=by
 cases xs with
 |lst xs=>obtain⟨_,its,nn,_,ho⟩:=ok;exact⟨_,_,q,trivial,ho,λv z=>by cases z⟩
 |dK kvs=>obtain⟨_,_,_,_,o,es,ep,e,_,d,_⟩:=ok;exact⟨_,_,q,trivial,e,λv z=>by rw[d] at z;cases z⟩
 |ext φ=>obtain⟨o,e,n⟩:=id wx;subst e;exact⟨_,o,q,wx,ok.1,n⟩
 |_=>exact wx.elim
theorem aHQ(S:StF X.K X.B₀ F H σ sd)(hr:match r with | .bor _=>False|_=>True)(h:wE X e σ F λv F3=>aGk X.K F F3 r v):wE X e σ H λv H'=>∃F',StF X.K X.B₀ F' H' σ sd/\Same F F'/\ResOk X.K F' H' sd r v:=λpins s I=>by
 have I1:Inv X pins σ F s:=I.less S.sub S.base<|S.smp.sub S.sub
 have ob:∀l∈cA sd,∃xs o,H l=some xs/\Wr l xs/\s.heap.get? l=some o/\∀v,o.data≠ .cell v:=λl hl=>by obtain⟨n,xs,q,wx⟩:=S.slots.owns hl;exact aNE wx q<|I.hok l _ q
 have I2:Inv X (pins++nQ (cA sd) s.heap) σ F s:=I1.pins_of λp hp=>(aS.mp hp).elim (λz=>I1.pin p<|aM _ z) λz=>by
  obtain⟨hb,g⟩:=tI z;obtain⟨xs,o,q,_,ho,hc⟩:=ob p.1 hb;rw[g] at ho;cases ho;refine⟨g,(S.slots.owns hb).1,λy=> ?_,λy=> ?_,hc⟩
  ·have:=I.free;rw[<-y,q] at this;cases this
  ·obtain⟨_,o',ho',_⟩:=I.ok.funs.mem y;have:=I.base.free p.1 o' ho' (I.ok.frf p.1 y) λz=>I.ok.exfs p.1 z y
   rw[q] at this;cases this
 refine thn (h _ s I2) λu s' ⟨v,F3,I3,rv,F2,s1,s2,sm3,res⟩=> ?_
 have kp:∀l∈cA sd,F3 l=none/\(∃xs,H l=some xs/\Wr l xs)/\∀o,s.heap.get? l=some o->s'.heap.get? l=some o:=λl hl=>by obtain⟨xs,o,q,wx,ho,_⟩:=ob l hl;have:=I3.pin (l,o)<|aM _ (aM _<|jF hl ho);exact⟨this.2.1,⟨xs,q,wx⟩,λo' g=>by rw[ho] at g;cases g;exact this.1⟩
 have I4:=Inv.retrack I (cA sd) S.nd kp I3.unpinned;refine⟨v,_,I4,rv,F2,⟨λb o g=>s1 _ _<|S.base _ _ g,λb o g=> ?_,λb o g=> ?_,S.slots.mono s1 λl hl=>⟨s2.free (kp l hl).1,λxs g=>by simpa[hl] using g⟩,S.nd⟩,s1, ?_⟩
 ·have g3:=s2 _ _ g;have:b∉cA sd:=λhb=>by rw[(kp b hb).1] at g3;cases g3
  simp[this,g3]
 ·by_cases hb:b∈cA sd
  ·simp[hb] at g;exact S.smp _ _ g
  ·simp[hb] at g;exact sm3 _ _ g
 ·cases r with
  |val d=>exact res
  |own ds'=>
   obtain⟨l,xs,e,n,q,rl',_⟩:=res;have:l∉cA sd:=λhl=>by rw[(kp l hl).1] at q;cases q
   exact⟨l,xs,e,n,by simp[this,q],rl',this⟩
  |pr d ls=>
   obtain⟨t,l,xs,y,e,f,g,n,q,rl',_⟩:=res;have:l∉cA sd:=λhl=>by rw[(kp l hl).1] at q;cases q
   exact⟨t,l,xs,y,e,f,g,n,by simp[this,q],rl',this⟩
  |ox G=>
   obtain⟨ls,nd,h,g⟩:=res
   have no:∀l∈ls,l∉cA sd:=λl hl hm=>by obtain⟨n,⟨ob,q,w⟩,_⟩:=h l hl;rw[(kp l hm).1] at q;cases q
   refine⟨ls,nd,λl hl=> ?_,λF' H' sF k=>g F' H' sF λl hl ob q=>k l hl ob<|by simp[no l hl,q]⟩;obtain⟨n,⟨ob,q,w⟩,_⟩:=h l hl;exact⟨n,⟨ob,by simp[no l hl,q],w⟩,no l hl⟩
  |bor ds'=>exact hr.elim
noncomputable def aLS:Option Slot->Slot
 |some (.val d)=>.val d
 |some (.ox [] G)=>.ox [] G
 |_=>.un
noncomputable def qN(cap:List (Option Nat))(sd:List Slot):List Slot:=cap.map λo=>match o with
 |none=>.un
 |some k=>aLS sd[k]?
theorem aEe{K:aA}{F H F' H':Hp}{σ:St}(h:SlotsOk K F H sd σ)(s:Same F F'):∀cap:List (Option Nat),SlotsOk K F' H' (qN cap sd) (xV cap σ)
 |[]=>rfl
 |o::cap=>by
  refine⟨_,_,rfl, ?_,aEe h s cap⟩;cases o with
  |none=>trivial
  |some k=>
   show dR K F' H' (aLS sd[k]?) _;cases q:sd[k]? with
   |none=>trivial
   |some z=>
    cases z with
    |un=>trivial
    |own l ds=>trivial
    |od l ks ds=>trivial
    |ox ls G=>
     cases ls with
     |cons a ls=>trivial
     |nil=>obtain⟨o,h1,v,h2,h3,h4⟩:=h.get q;subst h2;exact⟨v,by simp[h1],λl hl=>(nomatch hl),λF2 H2 s2 _=>h4 F2 H2 (s.trans s2) λl hl=>(nomatch hl)⟩
    |gh d G=>trivial
    |val d=>obtain⟨o,h1,v,h2,rv⟩:=h.get q;subst h2;exact⟨v,by simp[h1],rv.mono s⟩
theorem vC:∀ (cap:List (Option Nat)) (sd:List Slot),cA (qN cap sd)=[]
 |[],_=>rfl
 |o::cap,sd=>by
  have ih:=vC cap sd;cases o with
  |none=>exact ih
  |some k=>
   show cA (aLS sd[k]? ::qN cap sd)=[];cases q:sd[k]? with
   |none=>exact ih
   |some z=>
    cases z with
    |ox ls G=>cases ls<;>exact ih
    |_=>exact ih
noncomputable def unS:Slot->Slot
 |.own _ _=>.un
 |.od _ _ _=>.un
 |.ox [] G=>.ox [] G
 |.ox _ _=>.un
 |z=>z
noncomputable def unO(sd:List Slot):List Slot:=sd.map unS
theorem jL:∀sd:List Slot,cA (unO sd)=[]
 |[]=>rfl
 |.un::r=>jL r
 |.val _::r=>jL r
 |.gh _ _::r=>jL r
 |.own _ _::r=>jL r
 |.od _ _ _::r=>jL r
 |.ox [] _::r=>jL r
 |.ox (_::_) _::r=>jL r
theorem aHl(cap:List (Option Nat))(sd:List Slot):qN cap (unO sd)=qN cap sd:=by
 unfold qN;refine cK λo _=> ?_
 cases o with
 |none=>rfl
 |some k=>
  show aLS (unO sd)[k]? =aLS sd[k]?;unfold unO;rw[aW];cases q:sd[k]? with
  |none=>rfl
  |some z=>
   cases z with
   |ox ls G=>cases ls<;>rfl
   |_=>rfl
theorem yO{K:aA}{F H H':Hp}:∀ {sd:List Slot}{σ:St},SlotsOk K F H sd σ->SlotsOk K F H' (unO sd) σ
 |[],_,h=>h
 |z::zs,σ,h=>by
  obtain⟨o,r,rfl,a,b⟩:=h;refine⟨o,r,rfl, ?_,yO b⟩;cases z with
  |un=>trivial
  |val d=>exact a
  |gh d G=>exact a
  |od l ks ds=>trivial
  |ox ls G=>
   cases ls with
   |cons a ls=>trivial
   |nil=>obtain⟨v,h2,h3,h4⟩:=a;exact⟨v,h2,λl hl=>(nomatch hl),λF2 H2 s2 _=>h4 F2 H2 s2 λl hl=>(nomatch hl)⟩
  |own l ds=>trivial
theorem sV{i:Nat}(p:D->Bool)(h:ds[i]? =some d):(ds.take<|i+1).filter p=(ds.take i).filter p++(if p d then[d] else[]):=by rw[eF,h,sP];cases hp:p d<;>simp[hp]
theorem kH{elt:Expr}{ifs:List Expr}{scope:Scope}{N M:List Str}{cap:List (Option Nat)}{sc:Scope}{Tb:D->List Slot}(p:D->Bool)(f:D->D)
  (hi:PId X (unO sd) PT0 tg iter ds) (hl:ds.length<=10000)
  (hsc:X.env.scope=sc) (hcn:pS scope sc=true) (hM:X.N=M) (hcap:mZ N M scope sc cap=true) (hk:scope.kind=.function)
  (hg:∀cl C fp s H d,d∈ds->PGd (cxB X N scope cl C fp s H) (qN cap sd) tg d (Tb d))
  (hle:∀d,d∈ds->Le (Tb d) (qN cap sd))
  (ht:∀cl C fp s H d,d∈ds->(ifs=[]/\p d=true)\/∃c,ifs=[c]/\PTd (cxB X N scope cl C fp s H) (Tb d) c (p d))
  (he:∀cl C fp s H d,d∈ds->p d=true->PEd (cxB X N scope cl C fp s H) (Tb d) elt (.val<|f d))
  (hc:X.calm=true:=by rfl) (hs:∀x,Ay iter X.env x=pure x:=by intro _;rfl):
  PEd X sd (.ListComp elt [⟨tg,iter,ifs,0⟩] scope pos) (.own<|(ds.filter p).map f):=.mk λσ F H S=>by
 refine aHQ S trivial ?_;have S0:StF X.K X.B₀ F F σ (unO sd):=⟨S.base,Same.refl _,S.smp.sub S.sub,yO S.slots,by rw[jL];exact cR⟩;intro pins s I
 have nm:∀y∈scope.names,(y.2=NameKind.free->sc.names.lookup y.1=some NameKind.cell)/\(y.2=NameKind.local->scope.names.lookup y.1=some NameKind.local):=λy hy=>by have q:=iU.mp hcn y hy;simp only[bP,xT,tX,beq_eq_false_iff_ne,ne_eq,beq_iff_eq] at q;exact⟨λe=>q.1.1.resolve_left λz=>z e,λe=>q.2.resolve_left λz=>z e⟩
 have fre:∀y∈scope.names,y.2=.free->∃c,X.env.cells.lookup y.1=some c:=λy hy e=>I.ok.has y.1 (.inl<|by show X.env.scope.names.lookup y.1=_;rw[hsc];exact(nm y hy).1 e)
 rw[eval_ListComp];refine wpAny_comprehension_free (use:=none) rfl hs (aCE fre) hk (λy hy=>(nm y hy).2) ?_;refine thn (hi σ F F S0 pins s I) λv s1 h1=>thn h1 λitv s2 h2=> ?_
 obtain⟨it,fp,tn,J,H2,e,I2,T,st2,f2,F1,S1,s1',itd⟩:=h2;subst e
 have S1b:StF X.K H2 H2 H2 (xV cap σ) (qN cap sd):=⟨Same.refl _,Same.refl _,S1.smp,by
  have q:=aEe (sd:=unO sd) (H':=H2) S1.slots S1.sub cap;rw[aHl] at q
  exact q,by rw[vC];exact cR⟩
 refine aGz (N:=N) (cap:=cap) (g:=λv σ2 H3 Q=>∀cl C,wG (cxB X N scope cl C fp s2 H2) tg v σ2 H3 Q) (tt:=λσ2 H3 Q=>∀cl C,aOP (cxB X N scope cl C fp s2 H2) ifs σ2 H3 Q) (te:=λσ2 H3 Q=>∀cl C,wE (cxB X N scope cl C fp s2 H2) elt σ2 H3 Q)
  hc hsc hcn (by rw[hM];exact hcap) hk I2 T st2 f2 (λcl C pi s3 σ3 H3 v u Q I3 ru q=>q cl C pi s3 u I3 ru) (λcl C pi s3 σ3 H3 Q I3 q=>q cl C pi s3 I3) (λcl C pi s3 σ3 H3 Q I3 q=>q cl C pi s3 I3)
  (λi m ys σb H3=>m=ds.length-i/\i<=ds.length/\∃Fb,StF X.K H2 Fb H3 σb (qN cap sd)/\RepL X.K Fb (((ds.take i).filter p).map f) ys) ds.length
  ⟨by simp,cP _,H2,S1b,by simpa using RepL.nil⟩ _ ?_
 rintro i m ys σb H3 ⟨rfl,hil,Fb,Sb,rl⟩;have sF1:Same F1 Fb:=λb o g=>Sb.base _ _<|S1.sub _ _ g
 obtain⟨g1,g2,g3⟩:=itd Fb H3 sF1 Sb.sub Sb.smp trivial i
 by_cases hlt:i<ds.length
 ·have hd:ds[i]? =some ds[i]:=by simp[hlt]
  have hm:ds[i]∈ds:=iV hlt
  have ylen:ys.length<=i:=by rw[rl.len,aC];exact cF (kO _ _) (by simp;omega)
  refine .inr ⟨g1 hlt,eX<|by omega,λys' σ' H'=>∃Fb',StF X.K H2 Fb' H' σ' (qN cap sd)/\RepL X.K Fb' (((ds.take<|i+1).filter p).map f) ys',λys' σ' H' ⟨Fb',Sb',rl'⟩=>⟨ds.length-(i+1),by omega,rfl,hlt,Fb',Sb',rl'⟩,λx H4 y cl C=> ?_⟩;obtain⟨F4,s4,rp,up⟩:=g3 x H4 ds[i] hd y;refine(hg cl C fp s2 H2 _ hm σb F4 H4 x (up _ _ _ Sb) rp).imp λσ5 H5 ⟨F5,S5,s5⟩ cl2 C2=> ?_
  have rl5:=rl.mono<|s4.trans s5
  have fin:∀ (b:Bool) (H6:Hp) (F6:Hp),b=p ds[i]->StF X.K H2 F6 H6 σ5 (Tb ds[i])->Same F5 F6->if b=true then(∀cl C,wE (cxB X N scope cl C fp s2 H2) elt σ5 H6 λv H5=>∃Fb',StF X.K H2 Fb' H5 σ5 (qN cap sd)/\RepL X.K Fb' (((ds.take<|i+1).filter p).map f) (ys++[v])) else ∃Fb',StF X.K H2 Fb' H6 σ5 (qN cap sd)/\RepL X.K Fb' (((ds.take<|i+1).filter p).map f) ys:=λb H6 F6 eb S6 s6=>by
   rw[sV p hd,<-eb];cases b with
   |false=>exact aJi ⟨F6,S6.le<|hle _ hm,by simpa using rl5.mono s6⟩
   |true=>
    refine aJh λcl3 C3=>(he cl3 C3 fp s2 H2 _ hm eb.symm σ5 F6 H6 S6).imp λv H7 ⟨F7,S7,s7,q7⟩=>⟨F7,S7.le<|hle _ hm, ?_⟩
    simp only[if_true,aX,aZ,eO];exact((rl5.mono s6).mono s7).app<|.one q7
  rcases ht cl2 C2 fp s2 H2 _ hm with⟨e1,e2⟩|⟨c,e1,q⟩
  ·subst e1;exact aGL (fin true H5 F5 e2.symm S5<|Same.refl _)
  ·subst e1;exact aHa<|(q σ5 F5 H5 S5).imp λb H6 ⟨eb,F6,S6,s6⟩=>fin b H6 F6 eb S6 s6
 ·have e:i=ds.length:=by omega
  subst e;refine .inl ⟨g2<|aN _,λD C s' hD hC hDC h0 hL hcc hpp hst ⟨m',ns'⟩ J'=>⟨m',ns',λh' sb=> ?_⟩⟩;have J2:Inv X pins σ (upd H3 D<|.lst ys) {s' with heap:=h',toks:=s'.toks}:=J'.turned (it:=C) (λb o hb g=>sb.extBut b o hb g) (by rw[aV<|Ne.symm hDC];exact hC) hL (.inr h0) hcc hpp;refine⟨.ref D,_,J2,rfl,Fb,λb o g=>Sb.base _ _ (S1.sub _ _<|s1' _ _ g),λb o g=> ?_,λb o g=> ?_,D,ys,rfl,Sb.sub.free hD,bK, ?_,by simp[cA]⟩
  ·have g3:=Sb.sub _ _ g;rw[aV<|cJ g3 hD];exact g3
  ·by_cases hb:b=D
   ·subst hb;rw[bK] at g;cases g;trivial
   ·rw[aV hb] at g;exact Sb.smp _ _ g
  ·simpa using rl
noncomputable def isB:D->Bool
 |.bl _=>true
 |_=>false
theorem mY(K:aA)(d:D):pK K (tyD d) (.type "bool")=some (isB d):=by cases d<;>with_unfolding_all rfl
theorem PEd.cast{r':R}(h:PEd X sd e r)(q:r=r'):PEd X sd e r':=q▸h
theorem nN{k:Bool}{x o:List BI}(h:PTd X sd c k)(hk:k=false)(h2:PSd X sd o E):PSd1 X sd (.If c x o pos) E:=fG h (λe=>by rw[hk] at e;cases e) λ_=>h2
theorem lE{k:Bool}{x o:List BI}(h:PTd X sd c k)(hk:k=true)(h2:PSd X sd x E):PSd1 X sd (.If c x o pos) E:=fG h (λ_=>h2) λe=>by rw[hk] at e;cases e
theorem aLg{d1 d2:List D}(ha:PEd X sd a (.bor d1))(hb:PEd X sd b (.bor d2))(hl:d1.length+d2.length<=10000):PEd X sd (.BinOp a .Add b pos) (.own<|d1++d2):=
 vO aNV ha hb trivial λσ F H v u Q S q1 q2 k=>by obtain⟨l,xs,e1,h1,r1,_⟩:=q1;obtain⟨m,ys,e2,h2,r2,_⟩:=q2;refine⟨l,m,xs,ys,e1,e2,h1,h2,by rw[r1.len,r2.len];exact dE<|eX hl,λp hp=> ?_⟩;obtain⟨S2,fp,no⟩:=S.layO (xs:=xs++ys) hp;exact k _ F _ S2 (Same.refl _) ⟨p,_,rfl,fp,bK,r1.app r2,no⟩
theorem nI{i:Int}(ha:PEd X sd a (.bor ds))(hb:PEd X sd b (.val<|.int i))(h0:0<=i)(hd:ds[i.toNat]? =some d)(hs:lZ b):PEd X sd (.Subscript a b pos) (.val d):=by
 have e:i=(i.toNat:Int):=by omega
 rw[e] at hb;exact mO ha hb hd hs
theorem aAD{i:Int}(ha:PEd X sd a (.val<|.tup ds))(hb:PEd X sd b (.val<|.int i))(h0:0<=i)(hd:ds[i.toNat]? =some d)(hs:lZ b):PEd X sd (.Subscript a b pos) (.val d):=by
 have e:i=(i.toNat:Int):=by omega
 rw[e] at hb;exact xG ha hb hd hs
theorem aKS{ns:List Int}{i z:Int}(ha:PEd X sd a (.val<|.scr ns))(hb:PEd X sd b (.val<|.int i))(h0:0<=i)(hd:ns[i.toNat]? =some z)(hs:lZ b):PEd X sd (.Subscript a b pos) (.val<|.int z):=by
 have e:i=(i.toNat:Int):=by omega
 rw[e] at hb;exact aIk ha hb hd hs
theorem xL{i:Int}(h:i.natAbs<2^250):Builtin.Int.intBits i<=2^20:=by
 unfold Builtin.Int.intBits
 split
 ·exact cP _
 ·rename_i hz
  have hne:i.natAbs≠0:=by
   intro z;apply hz;have:i=0:=by omega
   subst this;rfl
  have:=(Nat.log2_lt hne).mpr h;have e:(250:Nat)+1<=2^20:=by decide
  omega
theorem mW{i j:Int}(h1:i.natAbs<2^250)(h2:j.natAbs<2^250):IntMulOk i j:=.of_bits (xL h1)<|xL h2
noncomputable def most:Int:=1000*10^64
noncomputable def aDk(ns:List Int)(k:Nat):Int:=if k<ns.length then ns.getD k 0 else if ns.length>0 then(ns.getD (k%ns.length) 0%1000003+1)*((k:Int)*k*k+7) else(k:Int)*k*k+7
noncomputable def dG(ns:List Int)(k:Nat):Int:=aDk ns k%most*7919^15%most
def aGl:List D->R->Prop:=λds r=>∃ns k,ds=[.scr ns,.int ((k:Nat):Int)]/\k<=10000/\r=.val (.int<|dG ns k)
noncomputable def qD:Int->List Int->List Int
 |_,[]=>[]
 |x,n::ns=>(x%n)::qD (x / n) ns
theorem rQ:∀ (x:Int) (ns:List Int),(qD x ns).length=ns.length
 |_,[]=>rfl
 |x,n::ns=>by simp[qD,rQ]
def uV:List D->R->Prop:=λds r=>∃x ns,ds=[.int x,.lst<|ns.map D.int]/\(∀n∈ns,0<n/\n.natAbs.log2<9000)/\ns.length<=100/\r=.own ((qD x ns).map D.int)
noncomputable def bY:List (Int×Int):=[(2,2),(1,1),(1,2),(2,1),(1,3),(3,1),(2,3),(3,2),(1,4),(4,1),(1,5),(5,1),(1,6),(6,1)]
noncomputable def cC(p:Int×Int):D:=.tup [.int p.1,.int p.2]
def aNZ:List D->R->Prop:=λds r=>∃ns:List Int,ds=[.scr ns]/\ns.length<=63/\r=.val (.bl true)
noncomputable def aLC:Int->List Int->Int
 |x,[]=>x
 |x,n::ns=>aLC (x / n) ns
theorem yX:∀ (x:Int) (ns:List Int) (n:Int),aLC x (ns++[n])=aLC x ns / n
 |_,[],_=>rfl
 |x,m::ns,n=>yX (x / m) ns n
theorem zE:∀ (x:Int) (ns:List Int) (n:Int),qD x (ns++[n])=qD x ns++[aLC x ns%n]
 |_,[],_=>rfl
 |x,m::ns,n=>by show(x%m)::qD (x / m) (ns++[n])=_;rw[zE (x / m) ns n];rfl
theorem sJ{ns:List Int}{k:Nat}(h:(ns.map D.int)[k]? =some d):k<ns.length/\d=.int (ns.getD k 0):=by
 rw[aW] at h;cases e:ns[k]? with
 |none=>rw[e] at h;cases h
 |some z=>rw[e] at h;refine⟨(aE.mp e).1, ?_⟩;rw[<-bZ.inj h,cG,e];rfl
theorem aNG{i j:Int}{a1 a2 b1:Nat}{p1 p2 p3:Pos}(h1:AB [Expr.Constant (.int i) a1 p1,Expr.Constant (.int j) a2 p2] X.env=(false,eval (Expr.Constant (.int i) a1 p1) X.env)::AB [Expr.Constant (.int j) a2 p2] X.env)
  (h2:AB [Expr.Constant (.int j) a2 p2] X.env=(false,eval (Expr.Constant (.int j) a2 p2) X.env)::AB [] X.env):PEd X sd (.Tuple [.Constant (.int i) a1 p1, .Constant (.int j) a2 p2] b1 p3) (.val<|cC (i,j)):=
 aDH (ds:=[.int i,.int j]) (aB bR (aB bR aK trivial h2) trivial h1) (gC rfl)
theorem getD_mem{α:Type}{l:List α}{i:Nat}{d:α}(h:i<l.length):l.getD i d∈l:=by
 have e:l.getD i d=l[i]:=by simp[cG,h]
 rw[e];exact iV h
theorem aGR(h:aOi H):Smp H:=λb o e=>by
 rcases h b with z|⟨o',xs,z⟩
 ·rw[z] at e;cases e
 ·rw[z] at e;cases e;trivial
theorem walkD{l:PySem.W.OpenLaw}{k:Nat}{x:Str}{q:AE}{loose:List Str}{XP:(Str->Option BC)->BG->Prop}{YP:AM->BG->Prop}{d:DefRec}{K:Params->aA}(hn:l.most=some 63)(hdf:d.params.defaults=[])
  (hr:Room k callerA) (hY:∀ (w:AM) (h:BG),YP w h->(K w.params).In h)
  (F:∀ (w:AM) (mg:Str→Option BC) (fa:BE) (h:BG),(K w.params).In h→h.Ns AR mg→mg d.name=some (.ref fa)→
   ∃fd:AN,(∀ (s:BD) (u:BC),BindsTo s fd ⟨[u],[]⟩ [(x,u)])/\∀base:BG,(K w.params).In base->base.Ns AR mg->FnOk l.prog w (K w.params) mg base CX0 k fa fd [x] (spC (K w.params) 1 aNZ)):
  PySem.W.WalkO q loose XP YP l.row.toRowW d [] (λf vs=>PySem.call f vs):=
 L2.walk_of (n:=63) (k:=k) (x:=x) (CX:=λ_=>CX0) (sp:=λw=>spC (K w.params) 1 aNZ) hn (by decide) hdf hr hY F
  (λw H a ns hl ho hS=>⟨rfl,aGR ho,[.scr ns],.val<|.bl true,.one (by simp only[Rep];exact⟨a,rfl,hS⟩),⟨ns,rfl,hl,rfl⟩,λv H' ⟨F,_,_,_,res⟩=>by simpa only[ResOk,Rep] using res⟩) λ_ _ _ _ _ z=>z
variable {pins:List (BE×BH)}{s:BD}{sts:List BI}
noncomputable abbrev reB(X:Cx)(B:Hp)(h:∀b o,X.H₀ b=some o->mS o->B b=some o):Cx:={X with B₀:=B,hB:=h}
theorem aJI{B:Hp}{hb:∀b o,X.H₀ b=some o->mS o->B b=some o}(I:Inv X pins σ H s):Inv (reB X B hb) pins σ H s:=
 ⟨⟨I.ok.mod,I.ok.kind,I.ok.glob,I.ok.blt,I.ok.above,I.ok.inj,I.ok.has,I.ok.cab,I.ok.hd,I.ok.frames,I.ok.stk,I.ok.exf,I.ok.bs,I.ok.bsz,I.ok.noex,I.ok.exfs,I.ok.funs,I.ok.frf⟩,I.os,I.bare,I.base,I.loc,I.cell,I.free,I.freeC,I.pin,I.hok,I.len⟩
theorem uL{B:Hp}{hb:∀b o,X.H₀ b=some o->mS o->B b=some o}(I:Inv (reB X B hb) pins σ H s):Inv X pins σ H s:=
 ⟨⟨I.ok.mod,I.ok.kind,I.ok.glob,I.ok.blt,I.ok.above,I.ok.inj,I.ok.has,I.ok.cab,I.ok.hd,I.ok.frames,I.ok.stk,I.ok.exf,I.ok.bs,I.ok.bsz,I.ok.noex,I.ok.exfs,I.ok.funs,I.ok.frf⟩,I.os,I.bare,I.base,I.loc,I.cell,I.free,I.freeC,I.pin,I.hok,I.len⟩
theorem aAG{B:Hp}{hb:∀b o,X.H₀ b=some o->mS o->B b=some o}{D:tZ}(h:wSs (reB X B hb) sts D σ H):wSs X sts D σ H:=λpins s I=>thn (h pins s<|aJI I) λf s' q=>by
 cases f with
 |next=>obtain⟨σ',H',I',q⟩:=q;exact⟨σ',H',uL I',q⟩
 |brk=>obtain⟨σ',H',I',q⟩:=q;exact⟨σ',H',uL I',q⟩
 |cont=>obtain⟨σ',H',I',q⟩:=q;exact⟨σ',H',uL I',q⟩
 |ret u=>obtain⟨v,σ',H',I',r,q⟩:=q;exact⟨v,σ',H',uL I',r,q⟩
structure Lent(K:aA) where
 α:Type
 ad:α->BE
 own:α->List BE
 G:α->V->Hp->Hp->Prop
 hv:∀ {a:α}{v:V}{F H:Hp},G a v F H->v=.ref (ad a)
noncomputable def Lent.sl{K:aA}(Z:Lent K)(a:Z.α):Slot:=.ox (Z.own a)<|Z.G a
variable (Z:Lent K)
noncomputable def spL(n:Nat)(C:Z.α->List D->(Z.α->Prop)->Prop):Sp:=λvs H Q _=>vs.length=n/\∃ (v:V) (us:List V) (F:Hp) (a:Z.α) (ds:List D) (post:Z.α->Prop),vs=v::us/\Same F H/\(∀b,b∉Z.own a->H b=F b)/\Smp H/\dR K F H (Z.sl a) (some v)/\(Z.own a).Nodup/\RepL K F ds us/\C a ds post/\(∀a',post a'->Z.ad a'=Z.ad a)/\
 ∀H',(∃F' a',post a'/\Same F F'/\Same F' H'/\Smp H'/\dR K F' H' (Z.sl a') (some v)/\(Z.own a').Nodup)->Q .non H'
noncomputable def spM(n:Nat)(C:Z.α->List D->(Z.α->Prop)->Prop):Sp:=λvs H Q _=>vs.length=n/\Smp H/\∃ (v:V) (us:List V) (F:Hp) (a:Z.α) (ds:List D) (post:Z.α->Prop),vs=v::us/\Same F H/\dR K F H (Z.sl a) (some v)/\(Z.own a).Nodup/\RepL K F ds us/\C a ds post/\(∀a',post a'->Z.ad a'=Z.ad a)/\
 ∀F' H' a',post a'->Same F F'->Same F' H'->Smp H'->dR K F' H' (Z.sl a') (some v)->(Z.own a').Nodup->(∀b o,b∉Z.own a->H b=some o->H' b=some o)->(∀b o,b∉Z.own a->H b=some o->F b=none->F' b=none/\b∉Z.own a')->Q .non H'
open Classical in
noncomputable def kR(as:List BE)(F H:Hp):Hp:=λb=>if b∈as then H b else F b
open Classical in
noncomputable def fS(as:List BE)(F H:Hp):Hp:=λb=>if b∈as then F b else rR F H b
theorem fN{as:List BE}:Same F (fS as F H):=λb o e=>by
 unfold fS
 by_cases h:b∈as
 ·rw[if_pos h];exact e
 ·rw[if_neg h];exact sL _ _ e
theorem gE{as:List BE}{b:BE}(hb:b∉as)(h:F b=none):fS as F H b=H b:=by unfold fS;rw[if_neg hb];exact sA h
theorem lF{as:List BE}{b:BE}(hb:b∈as):kR as F H b=H b:=by unfold kR;rw[if_pos hb]
theorem gQ{as:List BE}{b:BE}(hb:b∉as):kR as F H b=F b:=by unfold kR;rw[if_neg hb]
theorem FnOk.framedL{P:AE}{w:AM}{Z:Lent K}{mg:Str->Option BC}{base:BG}{k n:Nat}{f:BE}{fd:AN}{ps:List Str}{C:Z.α->List D->(Z.α->Prop)->Prop}(G:FnOk P w K mg base CX0 k f fd ps (spL Z n C)):FnOk P w K mg base CX0 k f fd ps (spM Z n C):=by
 have res:∀ {F H:Hp}{a:Z.α}{v:V},Same F H->dR K F H (Z.sl a) (some v)->Same F (kR (Z.own a) F H)/\Same (kR (Z.own a) F H) H/\dR K F (kR (Z.own a) F H) (Z.sl a) (some v):=λ{F H a v} sF so=>by
  obtain⟨v',ev,ow,gg⟩:=so;refine⟨λb o e=> ?_,λb o e=> ?_,v',ev,λb hb=>⟨(ow b hb).1, ?_⟩,λF' H' s k=>gg F' H' s λb hb ob e=>k b hb ob<|by rw[lF hb];exact e⟩
  ·by_cases h:b∈Z.own a
   ·rw[(ow b h).1] at e;cases e
   ·rw[gQ h];exact e
  ·by_cases h:b∈Z.own a
   ·rw[lF h] at e;exact e
   ·rw[gQ h] at e;exact sF b o e
  ·rw[lF hb];exact(ow b hb).2
 refine⟨λvs H Q E h=> ?_,λA outer s H args us vs Q E hr e0 hb rv h=> ?_⟩
 ·obtain⟨hl,sm,v,us,F,a,ds,post,e,sF,so,nd,rl,c,hp,_⟩:=h;obtain⟨q1,q2,q3⟩:=res sF so;exact G.len vs (kR (Z.own a) F H) (λ_ _=>True) E ⟨hl,v,us,F,a,ds,post,e,q1,λb hb=>gQ hb,sm.sub q2,q3,nd,rl,c,hp,λ_ _=>trivial⟩
 ·obtain⟨hl,sm,v,us',F,a,ds,post,ev,sF,so,nd,rl,c,hp,q⟩:=h;obtain⟨q1,sU,q3⟩:=res sF so;obtain⟨_,_,ow,_⟩:=id so;have nU:∀b,b∉Z.own a->F b=none->kR (Z.own a) F H b=none:=λb hbl n=>by rw[gQ hbl];exact n
  have e1:Env0 P w K mg base A outer s (kR (Z.own a) F H):=⟨e0.frames,e0.mod,λb o e=>⟨(e0.bs b o e).1,sU.free (e0.bs b o e).2⟩,e0.bsz,e0.funs,λb hb=>sU.free<|e0.frf b hb,λb o e=>(e0.hok b o<|sU b o e).smp (sm b o<|sU b o e),e0.bare⟩;refine Ap (G.run A outer s (kR (Z.own a) F H) args us vs (λv3 F3=>v3=.non/\∃F' a',post a'/\Same F F'/\Same F' F3/\Smp F3/\dR K F' F3 (Z.sl a') (some v)/\(Z.own a').Nodup) E hr e1 hb rv ⟨hl,v,us',F,a,ds,post,ev,q1,λb hb=>gQ hb,sm.sub sU,q3,nd,rl,c,hp,λH' z=>⟨rfl,z⟩⟩) λrr s' hrr=> ?_
  cases rr with
  |error e=>exact hrr
  |ok flw=>
   cases flw with
   |ret u=>
    obtain⟨v3,F3,ho,ha,un,hk,ru,e3,F2,a',pa,s1,s2,sm3,so3,nd3⟩:=hrr;subst e3
    have keepF:∀b o,b∉Z.own a->H b=some o->F b=none->F3 b=none:=λb o hbl e n=>by
     have lt:=e0.hok.lt e;cases g:s.heap.get? b with
     |none=>
      exfalso;have ob:=e0.hok b o e;have z:=sm b o e;cases o with
      |lst xs=>obtain⟨_,_,_,_,g'⟩:=ob;rw[g] at g';cases g'
      |tup xs=>obtain⟨_,_,_,oo,g',_⟩:=ob;rw[g] at g';cases g'
      |dK kvs=>obtain⟨_,_,_,_,oo,_,_,g',_⟩:=ob;rw[g] at g';cases g'
      |frz o2 u2=>obtain⟨g',_⟩:=ob;rw[g] at g';cases g'
      |ext φ=>obtain⟨_,⟨oo,g'⟩,_⟩:=ob;rw[g] at g';cases g'
      |_=>exact z
     |some ob=>exact un.free b ob g (nU b hbl n)<|by simp
    have keepO:∀b o,b∉Z.own a->H b=some o->F b=none->∀ob,s.heap.get? b=some ob->s'.heap.get? b=some ob:=λb o hbl e n ob g=>un.keep b ob g (nU b hbl n) (λhb=>by have:=e0.frf b hb;rw[e] at this;cases this)<|by simp
    have sH:∀b o,b∉Z.own a->H b=some o->fS (Z.own a) F3 H b=some o:=λb o hbl e=>by
     cases g:F b with
     |none=>rw[gE hbl<|keepF b o hbl e g];exact e
     |some o'=>have:=sF b o' g;rw[e] at this;cases this;exact fN _ _ (s2 _ _<|s1 _ _ g)
    have nl:∀ {b:BE}{o:HO},H b=some o->¬ Wr b o->b∉Z.own a:=λe no z=>by obtain⟨_,ob,g,wr⟩:=ow _ z;rw[e] at g;cases g;exact no wr
    have nn:∀ {b:BE},H b=none->b∉Z.own a:=λe z=>by obtain⟨_,ob,g,_⟩:=ow _ z;rw[e] at g;cases g
    have smM:Smp (fS (Z.own a) F3 H):=λb o e=>by
     by_cases hbl:b∈Z.own a
     ·unfold fS at e;rw[if_pos hbl] at e;exact sm3 _ o e
     ·cases g:F3 b with
      |some o'=>have:=fN (as:=Z.own a) (H:=H) b o' g;rw[e] at this;cases this;exact sm3 b o g
      |none=>rw[gE hbl g] at e;exact sm b o e
    have soM:dR K F2 (fS (Z.own a) F3 H) (Z.sl a') (some v):=by obtain⟨v',ev,ow3,gg⟩:=so3;refine⟨v',ev,λb hb=>⟨(ow3 b hb).1, ?_⟩,λF' H' s k=>gg F' H' s λb hb ob e=>k b hb ob<|fN _ _ e⟩;obtain⟨_,ob,g,wr⟩:=ow3 b hb;exact⟨ob,fN _ _ g,wr⟩
    refine⟨.non,fS (Z.own a) F3 H,ho,ha,⟨λb o g n hb hx=>un.keep b o g (sU.free n) hb hx,λb o g n hb hx=>un.slot b o g (sU.free n) hb hx,λb o g n hx=> ?_,un.there,λb xs e=>sH _ _ (nl e λz=>z) e,λb o u e=>sH _ _ (nl e λz=>z) e,λb ps e=>⟨#[],by rw[sH _ _ (nl e λz=>z) e];simp⟩⟩,λb o e=> ?_,ru, ?_⟩
    ·rw[gE (nn n)<|un.free b o g (sU.free n) hx];exact n
    ·have z:=smM b o e
     by_cases hbl:b∈Z.own a
     ·have e':F3 b=some o:=by unfold fS at e;rw[if_pos hbl] at e;exact e
      exact(hk b o e').smp z
     ·cases g:F3 b with
      |some o'=>have:=fN (as:=Z.own a) (H:=H) b o' g;rw[e] at this;cases this;exact(hk b o g).smp z
      |none=>
       rw[gE hbl g] at e
       have n:F b=none:=by
        cases g2:F b with
        |none=>rfl
        |some o2=>rw[s2 _ _<|s1 _ _ g2] at g;cases g
       have st:=(e0.hok b o e).smp (F:=λ_=>none) z
       have:ObjOk P w (fun _=>none) s'.heap b o:=st.stay (fun b2 u hb2 gg=>by
        rcases hb2 with rfl|hb2
        ·exact keepO _ o hbl e n u gg
        ·cases hb2) (λb2 hb2=>nomatch hb2) λb2 xs hb2=>nomatch hb2
       exact this.smp z
    ·refine q F2 (fS (Z.own a) F3 H) a' pa s1 (s2.trans fN) smM soM nd3 sH λb o hbl e n=> ?_
     have n3:=keepF b o hbl e n;refine⟨s2.free n3,λhb=> ?_⟩;obtain⟨_,_,ow3,_⟩:=so3;obtain⟨_,ob,g,_⟩:=ow3 b hb;rw[n3] at g;cases g
   |_=>exact hrr
theorem gN:∀ {sd:List Slot}{i:Nat}{z:Slot},(cA sd).Nodup->sd[i]? =some z->(fK z).Nodup
 |[],_,_,_,e=>by simp at e
 |y::zs,0,z,h,e=>by
  have:y=z:=by simpa using e
  subst this;exact(bH.mp (show(fK y++cA zs).Nodup from h)).1
 |y::zs,i+1,z,h,e=>gN (sd:=zs) (i:=i) (bH.mp (show(fK y++cA zs).Nodup from h)).2.1 (by simpa using e)
structure qY(P:AE)(w:AM)(K:aA)(Z:Lent K)(mg:Str->Option BC)(base:BG)(x:Str)(k n:Nat)(C:Z.α->List D->(Z.α->Prop)->Prop):Prop where
 ex:∃ (f:BE) (fd:AN) (ps:List Str),mg x=some (.ref f)/\cO K (.ref f)=true/\Binds K fd ps []/\FnOk P w K mg base CX0 k f fd ps (spL Z n C)
noncomputable def jV{K:aA}(Z:Lent K)(n:Nat)(a:Z.α)(ds:List D):List Slot:=Z.sl a::(ds.map Slot.val++bG (n-(ds.length+1)) .un)
theorem aLr{P:AE}{w:AM}{Z:Lent K}{mg:Str->Option BC}{base:BG}{x qual:Str}{f:BE}{fd:AN}{N ps:List Str}{k:Nat}{C:Z.α->List D->(Z.α->Prop)->Prop}(F:Fun K x qual st f fd)(S:gO N ps (aO st))
  (hm:mg x=some (.ref f)) (hb:∀ (kV doc pm:BC) (an:Option BE) (cdv ct:BC) (us:List BC),us.length=ps.length->bindArgs (cE x qual (eA st) (cN st) (aO st) .none kV doc pm an cdv ct) ⟨us,[]⟩=pure (ps.zip us))
  (body:∀ (cdv:BC) (A:BF) (outer:List Env) (s:BD) (H:Hp) (E:XK) (B:Hp) (hB:∀b o,H b=some o→mS o→B b=some o),Room k (A.deeper (Ai qual (aO st) s.heap.objs.size f cdv))→∀a ds post,ds.length+1=ps.length→C a ds post→
   PSd (reB (iF CX0 P w K mg base N qual (aO st) f cdv A outer s H E).nox B hB) (jV Z N.length a ds) (cN st) {nx:=λsd'=>∃a',post a'/\sd'[0]? =some (Z.sl a'),rt:=λ_=>False})
  (hw:∀ (a:Z.α) (v:V) (F H:Hp) (b:BE) (o:HO),Z.G a v F H->b∈Z.own a->H b=some o->¬ mS o):qY P w K Z mg base x (k+1) ps.length C:=by
 refine⟨f,fd,ps,hm,F.kp,F.binds hb,F.ok S (λvs H Q E h=>h.1) λcdv A outer s H vs Q E hr h=> ?_⟩;obtain⟨hl,v,us,F0,a,ds,post,rfl,sF,hH,sm,so,nd,rl,c,hp,q⟩:=h;have hds:ds.length+1=ps.length:=by rw[<-rl.len];exact hl
 have hB:∀b o,H b=some o->mS o->F0 b=some o:=λb o e no=>by
  by_cases hbl:b∈Z.own a
  ·obtain⟨_,_,_,gg⟩:=so;exact absurd no<|hw a _ F0 H b o (gg F0 H (Same.refl _) λ_ _ _ e=>e) hbl e
  ·rw[<-hH b hbl];exact e
 refine⟨_,pss_w,aAG (B:=F0) (hb:=hB) ?_⟩;have hlen:N.length-(us.length+1)=N.length-(ds.length+1):=by rw[rl.len]
 have S0:StF K F0 F0 H (L2.start N (v::us)) (jV Z N.length a ds):=by
  refine⟨Same.refl _,sF,sm, ?_, ?_⟩
  ·unfold L2.start jV;show SlotsOk K F0 _ (_::_) (some v::(us.map some++bG (N.length-(us.length+1)) none));rw[hlen];exact⟨_,_,rfl,so,jG (m:=0) rl⟩
  ·unfold jV;rw[lQ,jH,bN];exact nd
 refine(body cdv A outer s _ E F0 hB hr a ds post hds c (L2.start N (v::us)) F0 _ S0).imp ?_ ?_ (λ_ _ ⟨_,_,_,_,z⟩=>z) λ_ _ ⟨_,_,_,_,z⟩=>z
 ·rintro σ' H' ⟨sd',F',S',s',a',pa,hs⟩;obtain⟨o,h1,so'⟩:=S'.slots.get hs;obtain⟨v',rfl,ow',gg⟩:=so';have e1:=Z.hv<|gg F' H' (Same.refl _) λ_ _ _ e=>e;obtain⟨v0,ev,_,g0⟩:=so;cases ev;have e0:=Z.hv<|g0 F0 H (Same.refl _) λ_ _ _ e=>e;have evv:v'=v:=by rw[e1,e0,hp a' pa]
  subst evv;refine q H' ⟨F',a',pa,S'.base,S'.sub,S'.smp,⟨v',rfl,ow',gg⟩, ?_⟩;have nd':=S'.nd;exact gN nd' hs
 ·rintro v' H' ⟨r',ro,e⟩;exact e.elim
mutual
noncomputable def deq:D->D->Bool
 |.non,.non=>true
 |.bl a,.bl b=>a==b
 |.bl a,.int b=>(if a then 1 else 0)==b
 |.int a,.bl b=>a==(if b then 1 else 0)
 |.int a,.int b=>a==b
 |.str a,.str b=>a==b
 |.tup a,.tup b=>mL a b
 |.lst a,.lst b=>mL a b
 |_,_=>false
noncomputable def mL:List D->List D->Bool
 |[],[]=>true
 |x::xs,y::ys=>deq x y&&mL xs ys
 |_,_=>false
end
mutual
noncomputable def pl:D->Bool
 |.dic=>false
 |.dki _ _=>false
 |.any _=>false
 |.scr _=>false
 |.tup ds=>plL ds
 |.lst ds=>plL ds
 |_=>true
noncomputable def plL:List D->Bool
 |[]=>true
 |d::ds=>pl d&&plL ds
end
mutual
noncomputable def dep:D->Nat
 |.tup ds=>lI ds+1
 |.lst ds=>lI ds+1
 |_=>0
noncomputable def lI:List D->Nat
 |[]=>0
 |d::ds=>max (dep d)<|lI ds
end
theorem qZ:∀ {ds:List D}{i:Nat}{d:D},plL ds=true->ds[i]? =some d->pl d=true
 |[],i,d,_,e=>by simp at e
 |d'::ds,i,d,h,e=>by
  simp only[plL,bP] at h;cases i with
  |zero=>simp at e;subst e;exact h.1
  |succ i=>exact qZ h.2 (by simpa using e)
theorem oR:∀ {ds:List D}{i:Nat}{d:D},ds[i]? =some d->dep d<=lI ds
 |[],i,d,e=>by simp at e
 |d'::ds,i,d,e=>by
  simp only[lI];cases i with
  |zero=>simp at e;subst e;exact Nat.le_max_left _ _
  |succ i=>exact cF (oR (i:=i)<|by simpa using e)<|Nat.le_max_right _ _
theorem deqL_iff:∀ {xs ys:List D},mL xs ys=true↔xs.length=ys.length/\∀ (j:Nat) (x y:D),xs[j]? =some x->ys[j]? =some y->deq x y=true
 |[],[]=>by simp[mL]
 |[],y::ys=>by simp[mL]
 |x::xs,[]=>by simp[mL]
 |x::xs,y::ys=>by
  simp only[mL,bP,bF,deqL_iff (xs:=xs) (ys:=ys)]
  constructor
  ·rintro⟨h1,h2,h3⟩;refine⟨by omega,λj a b ea eb=> ?_⟩;cases j with
   |zero=>simp at ea eb;subst ea eb;exact h1
   |succ j=>exact h3 j a b (by simpa using ea) (by simpa using eb)
  ·rintro⟨h1,h2⟩;exact⟨h2 0 x y rfl rfl,by omega,λj a b ea eb=>h2 (j+1) a b (by simpa using ea)<|by simpa using eb⟩
mutual
theorem vH{K:aA}{H:Hp}:∀ {d1 d2:D}{v:V},pl d1=true->Rep K H d1 v->Rep K H d2 v->pl d2=true->deq d1 d2=true
 |.non,d2,v,_,r1,r2,_=>by simp only[Rep] at r1;subst r1;cases d2<;>simp_all[Rep,deq]
 |.bl b,d2,v,_,r1,r2,_=>by simp only[Rep] at r1;subst r1;cases d2<;>simp_all[Rep,deq]
 |.int b,d2,v,_,r1,r2,_=>by simp only[Rep] at r1;subst r1;cases d2<;>simp_all[Rep,deq]
 |.str b,d2,v,_,r1,r2,_=>by simp only[Rep] at r1;subst r1;cases d2<;>simp_all[Rep,deq]
 |.dic,_,_,h,_,_,_=>by simp[pl] at h
 |.dki _ _,_,_,h,_,_,_=>by simp[pl] at h
 |.any _,_,_,h,_,_,_=>by simp[pl] at h
 |.scr _,_,_,h,_,_,_=>by simp[pl] at h
 |.tup ds,d2,v,p1,r1,r2,p2=>by
  simp only[Rep] at r1;obtain⟨a,xs,rfl,ha,rl⟩:=r1;cases d2 with
  |tup es=>simp only[Rep] at r2;obtain⟨a',xs',e,ha',rl'⟩:=r2;cases e;rw[ha] at ha';cases ha';simp only[deq];exact tK (by simpa[pl] using p1) rl rl' (by simpa[pl] using p2)
  |lst es=>simp only[Rep] at r2;obtain⟨a',xs',e,ha',rl'⟩:=r2;cases e;rw[ha] at ha';cases ha'
  |dic=>simp[pl] at p2
  |dki=>simp[pl] at p2
  |any=>simp[pl] at p2
  |scr=>simp[pl] at p2
  |_=>simp[Rep] at r2
 |.lst ds,d2,v,p1,r1,r2,p2=>by
  simp only[Rep] at r1;obtain⟨a,xs,rfl,ha,rl⟩:=r1;cases d2 with
  |lst es=>simp only[Rep] at r2;obtain⟨a',xs',e,ha',rl'⟩:=r2;cases e;rw[ha] at ha';cases ha';simp only[deq];exact tK (by simpa[pl] using p1) rl rl' (by simpa[pl] using p2)
  |tup es=>simp only[Rep] at r2;obtain⟨a',xs',e,ha',rl'⟩:=r2;cases e;rw[ha] at ha';cases ha'
  |dic=>simp[pl] at p2
  |dki=>simp[pl] at p2
  |any=>simp[pl] at p2
  |scr=>simp[pl] at p2
  |_=>simp[Rep] at r2
theorem tK{K:aA}{H:Hp}:∀ {ds es:List D}{xs:List V},plL ds=true->RepL K H ds xs->RepL K H es xs->plL es=true->mL ds es=true
 |[],es,xs,_,r1,r2,_=>by
  simp only[RepL] at r1;subst r1;cases es with
  |nil=>rfl
  |cons e es=>obtain⟨y,ys,z,_⟩:=r2.uncons;cases z
 |d::ds,es,xs,p1,r1,r2,p2=>by
  obtain⟨y,ys,rfl,a,rl⟩:=r1.uncons;cases es with
  |nil=>simp only[RepL] at r2;cases r2
  |cons e es=>obtain⟨y',ys',z,a',rl'⟩:=r2.uncons;cases z;simp only[plL,bP] at p1 p2;simp only[mL,bP];exact⟨vH p1.1 a a' p2.1,tK p1.2 rl rl' p2.2⟩
end
noncomputable def rL:D->Bool
 |.non=>true
 |.bl _=>true
 |.int _=>true
 |.str _=>true
 |_=>false
theorem uM(h:rL d=true)(r:Rep K H d v):oH v=true/\flt d=some v:=by cases d<;>simp_all[rL,Rep,oH,flt]
variable {P:AE}{w:AM}
theorem jI(hok:HOk P w H s.heap){u:BC}(r:Rep K H (.tup ds) v)(ru:RelV v u):∃a xs its,u=.ref a/\v=.ref a/\RepL K H ds xs/\Vals xs its/\s.heap.IsTuple a its.toArray:=by simp only[Rep] at r;obtain⟨a,xs,rfl,ha,rl⟩:=r;cases ru;obtain⟨_,its,rv,p⟩:=(show ObjOk P w H s.heap a (.tup xs) from hok a _ ha);exact⟨a,xs,its,rfl,rfl,rl,rv,p.tup⟩
theorem nR(hok:HOk P w H s.heap){u:BC}(r:Rep K H (.lst ds) v)(ru:RelV v u):∃a xs its,u=.ref a/\v=.ref a/\RepL K H ds xs/\Vals xs its/\s.heap.IsList a its.toArray:=by simp only[Rep] at r;obtain⟨a,xs,rfl,ha,rl⟩:=r;cases ru;obtain⟨_,its,n,rv,p⟩:=(show ObjOk P w H s.heap a (.lst xs) from hok a _ ha);exact⟨a,xs,its,rfl,rfl,rl,rv,_,p,rfl,n,rfl⟩
noncomputable def dAt(ds es:List D)(j:Nat):Bool:=match ds[j]?,es[j]? with
 |some x,some y=>deq x y
 |_,_=>false
theorem aBJ(ds es:List D):((bQ<|min ds.length es.length).all (dAt ds es)&&ds.length==es.length)=mL ds es:=by
 rw[iE,deqL_iff,bP,iU,beq_iff_eq]
 constructor
 ·rintro⟨h1,h2⟩;refine⟨h2,λj x y ex ey=> ?_⟩;have hj:j<ds.length:=(aE.mp ex).1;have:=h1 j (cX.mpr<|by omega);unfold dAt at this;rw[ex,ey] at this;exact this
 ·rintro⟨h1,h2⟩;refine⟨λj hj=> ?_,h1⟩;have hj':=cX.mp hj;have e1:ds[j]? =some (ds[j]'(by omega)):=by simp
  have e2:es[j]? =some (es[j]'(by omega)):=by simp
  unfold dAt;rw[e1,e2];exact h2 j _ _ e1 e2
theorem aFN{es:List D}(h:ds.length=es.length):(bQ ds.length).all (dAt ds es)=mL ds es:=by have:=aBJ ds es;rw[h] at this ⊢;simpa using this
theorem aHF{es:List D}(h:ds.length≠es.length):mL ds es=false:=by
 cases e:mL ds es with
 |false=>rfl
 |true=>exact absurd (deqL_iff.mp e).1 h
mutual
theorem tF(hok:HOk P w H s.heap):∀ (d1:D) {d2:D}{v1 v2:V}{u1 u2:BC}{A:BF},pl d1=true->pl d2=true->Rep K H d1 v1->Rep K H d2 v2->RelV v1 u1->RelV v2 u2->A.units+dep d1<AS->SeqAt.EqAt A s u1 u2 (deq d1 d2)
 |.tup ds,d2,v1,v2,u1,u2,A,p1,p2,r1,r2,ru1,ru2,hu=>by
  have hu':A.units<AS:=by omega
  obtain⟨a,xs,its,rfl,rfl,rl,rv,ht⟩:=jI hok r1 ru1;cases d2 with
  |non=>simp only[Rep] at r2;subst r2;cases ru2;exact SeqAt.EqAt.tuple_none ht hu'
  |bl b=>simp only[Rep] at r2;subst r2;cases ru2;exact SeqAt.EqAt.tuple_bool b ht hu'
  |int b=>simp only[Rep] at r2;subst r2;obtain⟨t,rfl⟩:=ru2;exact SeqAt.EqAt.tuple_int b t ht hu'
  |str b=>simp only[Rep] at r2;subst r2;obtain⟨t,rfl⟩:=ru2;exact SeqAt.EqAt.tuple_str b t ht hu'
  |dic=>simp[pl] at p2
  |dki=>simp[pl] at p2
  |any=>simp[pl] at p2
  |scr=>simp[pl] at p2
  |lst es=>obtain⟨b,ys,jts,rfl,rfl,rl2,rv2,hl2⟩:=nR hok r2 ru2;exact SeqAt.EqAt.tuple_list ht hl2 hu'
  |tup es=>
   obtain⟨b,ys,jts,rfl,e2,rl2,rv2,ht2⟩:=jI hok r2 ru2
   by_cases hab:a=b
   ·subst hab;have:=vH p1 r1 (e2▸r2) p2;rw[this];exact SeqAt.EqAt.same _
   ·simp only[deq];rw[<-aBJ];have l1:its.toArray.size=ds.length:=by rw[bC,<-rv.length,rl.len]
    have l2:jts.toArray.size=es.length:=by rw[bC,<-rv2.length,rl2.len]
    rw[<-l1,<-l2];simp only[pl] at p1 p2;simp only[dep] at hu;refine .of_refs hab<|.tuples ht ht2 hu' λj h1 h2=> ?_;exact aDp hok ds p1 p2 rl rl2 rv rv2 (A:=A.in1) (by show A.units+1+_<AS;omega) (by simp)<|by simp
 |.lst ds,d2,v1,v2,u1,u2,A,p1,p2,r1,r2,ru1,ru2,hu=>by
  have hu':A.units<AS:=by omega
  obtain⟨a,xs,its,rfl,rfl,rl,rv,ht⟩:=nR hok r1 ru1;cases d2 with
  |non=>simp only[Rep] at r2;subst r2;cases ru2;exact SeqAt.EqAt.list_none ht hu'
  |bl b=>simp only[Rep] at r2;subst r2;cases ru2;exact SeqAt.EqAt.list_bool b ht hu'
  |int b=>simp only[Rep] at r2;subst r2;obtain⟨t,rfl⟩:=ru2;exact SeqAt.EqAt.list_int b t ht hu'
  |str b=>simp only[Rep] at r2;subst r2;obtain⟨t,rfl⟩:=ru2;exact SeqAt.EqAt.list_str b t ht hu'
  |dic=>simp[pl] at p2
  |dki=>simp[pl] at p2
  |any=>simp[pl] at p2
  |scr=>simp[pl] at p2
  |tup es=>obtain⟨b,ys,jts,rfl,rfl,rl2,rv2,hl2⟩:=jI hok r2 ru2;exact SeqAt.EqAt.list_tuple ht hl2 hu'
  |lst es=>
   obtain⟨b,ys,jts,rfl,e2,rl2,rv2,ht2⟩:=nR hok r2 ru2
   by_cases hab:a=b
   ·subst hab;have:=vH p1 r1 (e2▸r2) p2;rw[this];exact SeqAt.EqAt.same _
   ·simp only[deq];have l1:its.toArray.size=ds.length:=by rw[bC,<-rv.length,rl.len]
    have l2:jts.toArray.size=es.length:=by rw[bC,<-rv2.length,rl2.len]
    simp only[pl] at p1 p2;simp only[dep] at hu
    by_cases hl:ds.length=es.length
    ·rw[<-aFN hl,<-l1];refine .of_refs hab<|.lists ht ht2 (by rw[l1,l2,hl]) hu' λj h1 h2=> ?_;exact aDp hok ds p1 p2 rl rl2 rv rv2 (A:=A.in1) (by show A.units+1+_<AS;omega) (by simp)<|by simp
    ·rw[aHF hl];exact .of_refs hab<|.lists_lengths ht ht2 (by rw[l1,l2];simpa using hl) hu'
 |.dic,_,_,_,_,_,_,p1,_,_,_,_,_,_=>by simp[pl] at p1
 |.dki _ _,_,_,_,_,_,_,p1,_,_,_,_,_,_=>by simp[pl] at p1
 |.any _,_,_,_,_,_,_,p1,_,_,_,_,_,_=>by simp[pl] at p1
 |.scr _,_,_,_,_,_,_,p1,_,_,_,_,_,_=>by simp[pl] at p1
 |.non,d2,v1,v2,u1,u2,A,p1,p2,r1,r2,ru1,ru2,hu=>by
  have hu':A.units<AS:=by omega
  simp only[Rep] at r1;subst r1;cases hf:rL d2 with
  |true=>obtain⟨h1,h2⟩:=uM hf r2;have:=wU (A:=A) (s:=s) ru1 ru2 rfl h1;cases d2<;>simp_all[rL,flt,Rep,deq,eqV]
  |false=>
   cases ru1;cases d2 with
   |tup es=>obtain⟨b,ys,jts,rfl,e2,rl2,rv2,ht2⟩:=jI hok r2 ru2;exact SeqAt.EqAt.none_tuple ht2 hu'
   |lst es=>obtain⟨b,ys,jts,rfl,e2,rl2,rv2,ht2⟩:=nR hok r2 ru2;exact SeqAt.EqAt.none_list ht2 hu'
   |dic=>simp[pl] at p2
   |dki=>simp[pl] at p2
   |any=>simp[pl] at p2
   |scr=>simp[pl] at p2
   |_=>simp[rL] at hf
 |.bl q,d2,v1,v2,u1,u2,A,p1,p2,r1,r2,ru1,ru2,hu=>by
  have hu':A.units<AS:=by omega
  simp only[Rep] at r1;subst r1;cases hf:rL d2 with
  |true=>obtain⟨h1,h2⟩:=uM hf r2;have:=wU (A:=A) (s:=s) ru1 ru2 rfl h1;cases d2<;>simp_all[rL,flt,Rep,deq,eqV]
  |false=>
   cases ru1;cases d2 with
   |tup es=>obtain⟨b,ys,jts,rfl,e2,rl2,rv2,ht2⟩:=jI hok r2 ru2;exact SeqAt.EqAt.bool_tuple q ht2 hu'
   |lst es=>obtain⟨b,ys,jts,rfl,e2,rl2,rv2,ht2⟩:=nR hok r2 ru2;exact SeqAt.EqAt.bool_list q ht2 hu'
   |dic=>simp[pl] at p2
   |dki=>simp[pl] at p2
   |any=>simp[pl] at p2
   |scr=>simp[pl] at p2
   |_=>simp[rL] at hf
 |.int q,d2,v1,v2,u1,u2,A,p1,p2,r1,r2,ru1,ru2,hu=>by
  have hu':A.units<AS:=by omega
  simp only[Rep] at r1;subst r1;cases hf:rL d2 with
  |true=>obtain⟨h1,h2⟩:=uM hf r2;have:=wU (A:=A) (s:=s) ru1 ru2 rfl h1;cases d2<;>simp_all[rL,flt,Rep,deq,eqV]
  |false=>
   obtain⟨t,rfl⟩:=ru1;cases d2 with
   |tup es=>obtain⟨b,ys,jts,rfl,e2,rl2,rv2,ht2⟩:=jI hok r2 ru2;exact SeqAt.EqAt.int_tuple q t ht2 hu'
   |lst es=>obtain⟨b,ys,jts,rfl,e2,rl2,rv2,ht2⟩:=nR hok r2 ru2;exact SeqAt.EqAt.int_list q t ht2 hu'
   |dic=>simp[pl] at p2
   |dki=>simp[pl] at p2
   |any=>simp[pl] at p2
   |scr=>simp[pl] at p2
   |_=>simp[rL] at hf
 |.str q,d2,v1,v2,u1,u2,A,p1,p2,r1,r2,ru1,ru2,hu=>by
  have hu':A.units<AS:=by omega
  simp only[Rep] at r1;subst r1;cases hf:rL d2 with
  |true=>obtain⟨h1,h2⟩:=uM hf r2;have:=wU (A:=A) (s:=s) ru1 ru2 rfl h1;cases d2<;>simp_all[rL,flt,Rep,deq,eqV]
  |false=>
   obtain⟨t,rfl⟩:=ru1;cases d2 with
   |tup es=>obtain⟨b,ys,jts,rfl,e2,rl2,rv2,ht2⟩:=jI hok r2 ru2;exact SeqAt.EqAt.str_tuple q t ht2 hu'
   |lst es=>obtain⟨b,ys,jts,rfl,e2,rl2,rv2,ht2⟩:=nR hok r2 ru2;exact SeqAt.EqAt.str_list q t ht2 hu'
   |dic=>simp[pl] at p2
   |dki=>simp[pl] at p2
   |any=>simp[pl] at p2
   |scr=>simp[pl] at p2
   |_=>simp[rL] at hf
theorem aDp(hok:HOk P w H s.heap):∀ (ds:List D) {es:List D}{xs ys:List V}{its jts:List BC}{j:Nat}{x y:BC}{A:BF},plL ds=true->plL es=true->RepL K H ds xs->RepL K H es ys->Vals xs its->Vals ys jts->A.units+lI ds<AS->its[j]? =some x->jts[j]? =some y->SeqAt.EqAt A s x y (dAt ds es j)
 |[],es,xs,ys,its,jts,j,x,y,A,_,_,r1,_,v1,_,_,e1,_=>by simp only[RepL] at r1;subst r1;cases v1;simp at e1
 |d::ds,es,xs,ys,its,jts,j,x,y,A,p1,p2,r1,r2,v1,v2,hu,e1,e2=>by
  obtain⟨a,as,rfl,ra,rl⟩:=r1.uncons;cases v1 with
  |cons va vas=>
   cases es with
   |nil=>simp only[RepL] at r2;subst r2;cases v2;simp at e2
   |cons e es=>
    obtain⟨b,bs,rfl,rb,rl2⟩:=r2.uncons;cases v2 with
    |cons vb vbs=>
     simp only[plL,bP] at p1 p2;simp only[lI] at hu;cases j with
     |zero=>simp at e1 e2;subst e1 e2;exact tF hok d p1.1 p2.1 ra rb va vb<|by omega
     |succ j=>exact aDp hok ds p1.2 p2.2 rl rl2 vas vbs (by omega) (by simpa using e1) (by simpa using e2)
end
noncomputable def aNJ(K:aA):R2:=λx y H Q=>∃a b ys,x=.ref a/\y=.ref b/\SqT K H a []/\SqT K H b ys/\Q (.ref b) H
theorem op_catT0:OpR X (Ak .Add) (aNJ X.K):=by
 intro pins s σ H x y v u Q I rx ry h;obtain⟨a,b,ys,rfl,rfl,ha,hb,q⟩:=h;cases rx;cases ry;obtain⟨its,r1,p1,_⟩:=I.tuple ha;obtain⟨its2,r2,p2,_⟩:=I.tuple hb;cases r1;obtain⟨⟨cls,dd,data,sl⟩,ho,hc,n,hd⟩:=id p1;obtain⟨⟨cls2,dd2,data2,sl2⟩,ho2,hc2,n2,hd2⟩:=id p2;simp only at hc hd hc2 hd2;subst hc hd hc2 hd2
 exact concat_meets ⟨_,ho,rfl⟩ ⟨_,ho2,rfl⟩ noFill_tuple_add seq_tuple_add oE nF (mR _ _)
  (tuple_addW0 a b ([]:List BC).toArray its2.toArray n n2 dd dd2 sl sl2<|by simp) ⟨ho,ho2,⟨.ref b,H,I,rfl,q⟩⟩
theorem pW{d1 d2:List D}(ha:PEd X sd a (.val<|.tup d1))(hb:PEd X sd b (.val<|.tup d2))(hl:d1.length+d2.length<=10000):PEd X sd (.BinOp a .Add b pos) (.val (.tup<|d1++d2)):=
 vO (op_catT0.or aKH) ha hb trivial λσ F H v u Q S q1 q2 k=>by
  simp only[ResOk,Rep] at q1 q2;obtain⟨p,xs,e1,hp,rl⟩:=q1;obtain⟨q,ys,e2,hq,rl2⟩:=q2;cases d1 with
  |nil=>simp only[RepL] at rl;subst rl;refine .inl ⟨p,q,ys,e1,e2,.of<|S.sub _ _ hp,.of<|S.sub _ _ hq,k _ F H S (Same.refl _) ?_⟩;simp only[ResOk,Rep,pC];exact⟨q,ys,rfl,hq,rl2⟩
  |cons z zs=>
   refine .inr ⟨p,q,xs,ys,e1,e2,.of<|S.sub _ _ hp,.of<|S.sub _ _ hq, ?_,by rw[rl.len,rl2.len];exact dE<|eX hl,λhy=> ?_,λhy p2 hp2=> ?_⟩
   ·intro hx;subst hx;obtain⟨_,_,w,_⟩:=rl.uncons;cases w
   ·subst hy
    have:d2=[]:=by
     cases d2 with
     |nil=>rfl
     |cons w ws=>obtain⟨_,_,w,_⟩:=rl2.uncons;cases w
    subst this;refine k _ F H S (Same.refl _) ?_;simp only[ResOk,Rep,bN];exact⟨p,xs,rfl,hp,rl⟩
   ·obtain⟨S2,s2⟩:=S.lay (o:=.tup<|xs++ys) hp2 trivial;refine k _ _ _ S2 s2 ?_;simp only[ResOk,Rep];exact⟨p2,_,rfl,bK,(rl.app rl2).mono s2⟩
theorem kC{p:Pos}(hg:Gl X "tuple")(hm:X.mg "tuple"=none)(ha:PEd X sd e (.bor ds))(hst:AB [e] X.env=(false,eval e X.env)::AB [] X.env:=by rfl):PEd X sd (.Call (.Name "tuple" p) [e] [] pos) (.val<|.tup ds):=
 zS (he:=hst) yD hg hm PyProof.Rows.boot_tuple (aB ha aK trivial hst) λσ F H vs Q S q k=>by
  cases q with
  |cons q1 q2=>cases q2;obtain⟨p,xs,rfl,hp,rl,_⟩:=q1;refine⟨p,xs,rfl,.inl ⟨.of hp,λl hl=> ?_⟩⟩;obtain⟨S2,s2⟩:=S.lay (o:=.tup xs) hl trivial;refine k _ _ _ S2 s2 ?_;simp only[ResOk,Rep];exact⟨l,xs,rfl,bK,rl.mono s2⟩
noncomputable def Ite(K:aA)(a:BE):It:=
 ⟨λi H=>∃xs x,SqL K H a xs/\xs[i]? =some x,λi H x H'=>∃p v,x=.ref p/\H p=none/\H'=upd H p (.tup [.int i,v])/\∀xs,SqL K H a xs->xs[i]? =some v,λi H=>∃xs,SqL K H a xs/\xs.length<=i⟩
theorem aKF{h':BG}{t':Nat}{e it:BE}(I:Inv X pins σ H s)(k:∀b o,b≠e->b≠it->s.heap.get? b=some o->h'.get? b=some o)(f1:xD X pins H e)(f2:xD X pins H it):Inv X pins σ H {s with heap:=h',toks:=t'}:=by
 have nit:∀b u,H b=some u->b≠e/\b≠it:=λb u q=>⟨λz=>(by rw[z,f1.1] at q;cases q),λz=>(by rw[z,f2.1] at q;cases q)⟩
 have ne:∀b,b∉[e,it]->b≠e/\b≠it:=λb hc=>⟨λz=>hc (by simp[z]),λz=>hc<|by simp[z]⟩
 refine I.step (g':=s.gens) (d':=s.drawn) (ch:=[e,it]) (λb hb=> ?_) (λb o _ _ hc q _=>k b o (ne b hc).1 (ne b hc).2 q) (λb o _ _ hc q _=>⟨o.slots,k b o (ne b hc).1 (ne b hc).2 q⟩) (λ_ _ _ _ n=>n)
  (λb o hc q=>⟨o,k b o (ne b hc).1 (ne b hc).2 q⟩) (λ_ _ q=>q) (λ_ _ _ q=>q) (λb ps q=>⟨#[],by rw[q];simp⟩) (λm hm=> ?_) (λb u q=> ?_) I.bare
 ·rcases bD.mp hb with z|hb
  ·subst z;exact⟨f1.2.2.2.1,f1.2.1,f1.2.2.2.2.1,f1.2.2.2.2.2⟩
  ·have z:b=it:=by simpa using hb
   subst z;exact⟨f2.2.2.2.1,f2.2.1,f2.2.2.2.2.1,f2.2.2.2.2.2⟩
 ·obtain⟨o,es,ep,ho,r⟩:=hm;exact⟨o,es,ep,k _ o (Ne.symm f1.2.1) (Ne.symm f2.2.1) ho,r⟩
 ·refine(I.hok b u q).stay (λc v hc g=> ?_) (λ_ g=>g) λ_ _ g=>g
  rcases hc with z|z
  ·rw[z] at g ⊢;exact k b v (nit b u q).1 (nit b u q).2 g
  ·exact k c v (nit c _ z).1 (nit c _ z).2 g
theorem aFa{elts:List Expr}{kk:Nat}(a e it:BE)(hei:e≠it):aJg P w K (.Tuple elts kk pos) (Ite K a) [e,it] e (λi h=>(∃old,IsEnum h e it i old)/\h.IsListIter it a i) where
 mem:=by simp
 obj:=λi h st b hb=>by
  obtain⟨⟨old,he⟩,hit⟩:=st
  rcases bD.mp hb with z|hb
  ·subst z;exact⟨_,he,λv z=>by cases z⟩
  ·have z:b=it:=by simpa using hb
   subst z;obtain⟨o,q,c,d⟩:=hit;exact⟨o,q,λv z=>by rw[d] at z;cases z⟩
 keep:=λi h h' st k=>by obtain⟨⟨old,he⟩,hit⟩:=st;exact⟨⟨old,k e (by simp) _ he⟩,hit.at λo q=>k it (by simp) o q⟩
 item:=by
  intro X hP hw hK hc i pins s σ H E I hf st hg;subst hP hw hK;obtain⟨⟨old,he⟩,hit⟩:=st;obtain⟨xs,x,hq,hx⟩:=hg;obtain⟨its,rv,p,hz⟩:=I.list hq;obtain⟨u,hu,ru⟩:=rv.get hx;have f1:=hf e (by simp);have f2:=hf it (by simp);refine wpAny_pyNext_enum_item he hit p.isList (x:=u) (by simpa using hu) hei λh1 heo hit1 ht1 hz1 hk1=> ?_
  refine⟨_,rfl,wpAny_letOwnedTupleGo_enum heo λh2 he2 hs2=> ?_⟩;have hs2:Heap.SameBut e h1 h2:=hs2;have esz:e<s.heap.objs.size:=aR he;have isz:it<s.heap.objs.size:=by obtain⟨_,q,_⟩:=hit;exact aR q
  have I1:Inv X pins σ H {s with heap:=h2,toks:=s.toks+1}:=aKF I (λb o h1' h2' q=>(hs2.2 b h1').trans<|hk1 b o h1' h2' q) f1 f2;have hn:H s.heap.objs.size=none:=I.hok.fresh<|aN _;have g2:h2.get? s.heap.objs.size=some {cls:=.type "tuple",data:=.seq #[.int i s.toks,u]}:=(hs2.2 _<|kE esz).trans ht1
  have I2:Inv X pins σ (upd H s.heap.objs.size<|.tup [.int i,x]) {s with heap:=h2,toks:=s.toks+1}:=by
   refine I1.track hn I.sz (kE I.lt) (λy c q=> ?_) (λy hy=> ?_) ⟨by show 2<=AL;decide,[.int i s.toks,u],.cons ⟨_,rfl⟩<|.cons ru .nil,⟨_,g2,rfl,⟨_,rfl⟩,rfl⟩⟩
   ·obtain⟨v,o,ho,_⟩:=I.cell y c q;exact bW<|aR ho
   ·exact bW<|aR (I.pin y hy).1
  refine⟨.ref s.heap.objs.size,_,I2,rfl,⟨_,x,rfl,hn,rfl,λys hy=>by rw[I.list_inj hy hq];exact hx⟩,⟨⟨u, ?_⟩, ?_⟩,λb hb=> ?_⟩
  ·have:((i+1:Nat):Int)=(i:Int)+1:=by push_cast;rfl
   rw[this];exact he2
  ·exact hit1.at λo q=>(hs2.2 it<|Ne.symm hei).trans q
  ·rcases bD.mp hb with z|hb
   ·subst z;rw[aV<|bW esz];exact f1.1
   ·have z:b=it:=by simpa using hb
    subst z;rw[aV<|bW isz];exact f2.1
 done:=by intro X hP hw hK hc i pins s σ H E I hf st hg;subst hP hw hK;obtain⟨⟨old,he⟩,hit⟩:=st;obtain⟨xs,hq,hx⟩:=hg;obtain⟨its,rv,p,hz⟩:=I.list hq;obtain⟨f0,f1,f2,f3,f4,f5⟩:=hf it (by simp);have hl:=rv.length;exact wpAny_pyNext_enum_end (I.ok.hd hc) he hit p.isList (by simp;omega) λh' eb=>⟨rfl,I.turned (t':=s.toks) (λb o hb q=>eb b o hb q) f0 f1 f3 f4 f5⟩
 self:=λ_ _ _ _ _ st h=>by obtain⟨⟨old,he⟩,_⟩:=st;exact wpAny_pyIter_enum he h
noncomputable def aOT(K:aA)(ta:TA):TI:=λσ H R=>ta σ H λvs H1=>∃l,vs=[.ref l]/\(∃xs,SqL K H1 l xs)/\R (Ite K l) H1
theorem aKl{elts:List Expr}{kk:Nat}{tp:Pos}{ta:TA}{p:Pos}(hg:Gl X "enumerate")(hm:X.mg "enumerate"=none)(ha:PA X [a] ta)(hs:AB [a] X.env=[(false,eval a X.env)]:=by rfl):PI X (.Tuple elts kk tp) (.Call (.Name "enumerate" p) [a] [] pos) (aOT X.K ta):=by
 intro pins s σ H R I h;refine Call_ (lP I hg hm boot_enumerate<|PyProof.Rows.callWith_type1 (thn (ha pos pins s σ H _ I h) λus s1 ⟨vs,H1,I1,r1,q1⟩=> ?_) hs rfl);obtain⟨l,rfl,⟨xs,hq⟩,q⟩:=q1;cases r1 with
 |cons r rr=>
  cases rr;cases r;obtain⟨its,rv,p,hz⟩:=I1.list hq;refine call_enumerate_list p.isList λh' he hit hsz hk=> ?_
  refine wpAny_pyIter_enum he ?_;have I2:Inv X pins σ H1 {s1 with heap:=h'}:=I1.kept (t':=s1.toks) hk;refine⟨s1.heap.objs.size+1,[s1.heap.objs.size+1,s1.heap.objs.size],_,Ite X.K l,H1,rfl,I2,aFa l _ _<|Nat.succ_ne_self _,⟨⟨_,he⟩,hit⟩,λb hb=> ?_,q⟩
  rcases bD.mp hb with z|hb
  ·subst z;exact I1.fpOk (hW _) (I1.hok.fresh<|hW _)
  ·have z:b=s1.heap.objs.size:=by simpa using hb
   subst z;exact I1.fpOk (aN _) (I1.hok.fresh<|aN _)
noncomputable def lX(ds:List D):List D:=(bQ ds.length).map λ(i:Nat)=>D.tup [.int (i:Int),ds.getD i .non]
theorem lJ(ds:List D):(lX ds).length=ds.length:=by simp[lX]
theorem nC{i:Nat}(h:(lX ds)[i]? =some d):∃x,ds[i]? =some x/\d=.tup [.int (i:Int),x]:=by
 unfold lX at h;rw[aW] at h
 by_cases hi:i<ds.length
 ·rw[aGc hi] at h;refine⟨ds[i],by simp[hi], ?_⟩;rw[<-bZ.inj h];simp[cG,hi]
 ·rw[iH<|by simpa using hi] at h;cases h
def LP(K:aA)(l:BE)(ds:List D):Hp->Hp->Prop:=λF H=>∃xs,H l=some (.lst xs)/\RepL K F ds xs
theorem aHq{F₁:Hp}{l:BE}:ItD X.K F₁ (LP X.K l ds) (Ite X.K l) (lX ds):=λF H _ sH sm hP i=>by
 obtain⟨xs,hl,rl⟩:=hP;refine⟨λhi=> ?_,λhi=> ?_,λx H' d hd y=> ?_⟩
 ·rw[lJ] at hi;exact⟨xs,xs[i]'(by rw[rl.len];exact hi),.of hl,by simp[rl.len,hi]⟩
 ·rw[lJ] at hi;exact⟨xs,.of hl,by rw[rl.len];exact hi⟩
 ·obtain⟨p,v,rfl,hp,rfl,hv⟩:=y;obtain⟨z,hz,rfl⟩:=nC hd;have hv:=hv xs<|.of hl;obtain⟨v',h1,rz⟩:=rl.get hz;rw[hv] at h1;cases h1;have fp:F p=none:=sH.free hp;have s1:Same F (upd F p<|.tup [.int i,v]):=λb u q=>by rw[aV<|cJ q fp];exact q
  refine⟨upd F p<|.tup [.int i,v],s1, ?_,λH₀ σ sd S=>(S.lay (o:=.tup [.int i,v]) hp trivial).1⟩;simp only[Rep];exact⟨p,_,rfl,bK,.cons (by simp only[Rep]) (.one<|rz.mono s1)⟩
theorem rZ{elts:List Expr}{kk:Nat}{tp p:Pos}(hg:Gl X "enumerate")(hm:X.mg "enumerate"=none)(ha:PEd X sd a (.val<|.lst ds))(hst:AB [a] X.env=[(false,eval a X.env)]:=by rfl):
  PId X sd PT0 (.Tuple elts kk tp) (.Call (.Name "enumerate" p) [a] [] pos) (lX ds):=.mk λσ F H S=>
 (aKl hg hm oK hst).to ((aB ha aK trivial (by rw [hst]; rfl) σ F H S).imp fun vs H1 ⟨F1,S1,s1,q1⟩=>by
  cases q1 with
  |cons q1 q2=>
   cases q2;simp only[ResOk,Rep] at q1;obtain⟨l,xs,rfl,hl,rl⟩:=q1;refine⟨l,rfl,⟨xs,.of<|S1.sub _ _ hl⟩,F1,S1,s1,λF' H' sF sH sm _ i=> ?_⟩
   exact aHq (X:=X) (F₁:=F1) F' H' sF sH sm ⟨xs,sH _ _ (sF _ _ hl),rl.mono sF⟩ i)
theorem aJS{ns:List Int}{us:List BC}(r:Vals (ns.map V.int) us){i:Nat}{u:BC}(h:us[i]? =some u):i<ns.length/\∃t,u=.int (ns.getD i 0) t:=by
 have hl:=r.length;rw[aC] at hl;have hi:i<us.length:=(aE.mp h).1
 have e:(ns.map V.int)[i]? =some (.int<|ns.getD i 0):=by
  rw[aW];have:i<ns.length:=by omega
  simp[cG,this]
 obtain⟨u',h1,t,h2⟩:=r.get e;rw[h] at h1;cases h1;exact⟨by omega,t,h2⟩
noncomputable def cutD(ds:List D)(lo hi:Option Int):List D:=(ds.drop<|HT.sIx ds.length 0 lo).take<|HT.sIx ds.length ds.length hi-HT.sIx ds.length 0 lo
theorem RepL.cut{xs:List V}(r:RepL K H ds xs)(lo hi:Option Int):RepL K H (cutD ds lo hi) (yB xs lo hi):=by unfold cutD yB;rw[r.len];exact(r.drop _).take _
def POd(X:Cx)(sd:List Slot)(e:Option Expr)(o:Option Int):Prop:=match e,o with
 |none,none=>True
 |some e,some i=>PEd X sd e (.val<|.int i)
 |_,_=>False
theorem pM{eo:Option Expr}{o:Option Int}(h:POd X sd eo o):∃t:TO,PO X eo t/\∀ (σ:St) (F H:Hp),StF X.K X.B₀ F H σ sd->∀Q:Option Int->Hp->Prop,(∀F' H',StF X.K X.B₀ F' H' σ sd->Same F F'->Q o H')->t σ H Q:=by
 cases eo with
 |none=>
  cases o with
  |none=>exact⟨_,aKN,λσ F H S Q k=>k F H S<|Same.refl _⟩
  |some i=>exact h.elim
 |some e=>
  cases o with
  |none=>exact h.elim
  |some i=>have h:PEd X sd e (.val<|.int i):=h;refine⟨_,aJQ eK,λσ F H S Q k=>(h σ F H S).imp λv H1 ⟨F1,S1,s1,q1⟩=> ?_⟩;simp only[ResOk,Rep] at q1;exact⟨i,q1,k F1 H1 S1 s1⟩
theorem aMR{lo hi:Option Expr}{ol oh:Option Int}{p2:Pos}(ha:PEd X sd a (.bor ds))(hl:POd X sd lo ol)(hh:POd X sd hi oh):PEd X sd (.Subscript a (.Slice lo hi none p2) pos) (.own<|cutD ds ol oh):=.mk λσ F H S=>by obtain⟨tl,pl,kl⟩:=pM hl;obtain⟨th,ph,kh⟩:=pM hh;refine(wQ aLj eK pl ph).to<|(ha σ F H S).imp λv H1 ⟨F1,S1,s1,q1⟩=>kl σ F1 H1 S1 _ λF2 H2 S2 s2=>kh σ F2 H2 S2 _ λF3 H3 S3 s3=> ?_;obtain⟨l,xs,rfl,hl',rl,_⟩:=ResOk.keep (r:=.bor ds) trivial q1 S3<|s2.trans s3;refine⟨l,xs,rfl,.of hl',λp hp=> ?_⟩;obtain⟨S4,fp,no⟩:=S3.layO (xs:=yB xs ol oh) hp;exact⟨F3,S4,(s1.trans s2).trans s3,p,_,rfl,fp,bK,rl.cut ol oh,no⟩
theorem xH{lo hi:Option Expr}{ol oh:Option Int}{p2:Pos}(ha:PEd X sd a (.val<|.tup ds))(hl:POd X sd lo ol)(hh:POd X sd hi oh)(hn:¬ (HT.sIx ds.length 0 ol=0/\HT.sIx ds.length ds.length oh=ds.length)):PEd X sd (.Subscript a (.Slice lo hi none p2) pos) (.val (.tup<|cutD ds ol oh)):=.mk λσ F H S=>by obtain⟨tl,pl,kl⟩:=pM hl;obtain⟨th,ph,kh⟩:=pM hh;refine(wQ aNI eK pl ph).to<|(ha σ F H S).imp λv H1 ⟨F1,S1,s1,q1⟩=>kl σ F1 H1 S1 _ λF2 H2 S2 s2=>kh σ F2 H2 S2 _ λF3 H3 S3 s3=> ?_;have q1:=Rep.mono (s2.trans s3) q1;simp only[Rep] at q1;obtain⟨l,xs,rfl,hl',rl⟩:=q1;refine⟨l,xs,rfl,.of<|S3.sub _ _ hl',by rw[rl.len];exact hn,λp hp=> ?_⟩;obtain⟨S4,s4⟩:=S3.lay (o:=.tup<|yB xs ol oh) hp trivial;refine⟨_,S4,((s1.trans s2).trans s3).trans s4, ?_⟩;simp only[ResOk,Rep];exact⟨p,_,rfl,bK,(rl.cut ol oh).mono s4⟩
theorem aIx{i:Int}(ha:PEd X sd a (.val<|.int i)):PEd X sd (.UnaryOp .USub a pos) (.val<|.int (-i)):=.mk λσ F H S=>
 (aPj aNn eK).to ((ha σ F H S).imp fun v H1 ⟨F1,S1,s1,q1⟩=>by
  simp only[ResOk,Rep] at q1
  exact⟨i,q1,F1,S1,s1,by simp only[ResOk,Rep]⟩)
theorem jB{body:List BI}{P:Hp->Hp->Prop}(Sd:Nat->List Slot->Prop)(hi:PId X sd P tg iter ds)(h0:∃sd0,Le sd sd0/\Sd 0 sd0)
  (hb:∀k d sdk,ds[k]? =some d->Sd k sdk->∃sdt,PGd X sdk tg d sdt/\PSd X sdt body {E with nx:=λsd'=>∃sd2,Le sd' sd2/\Sd (k+1) sd2,ct:=λsd'=>∃sd2,Le sd' sd2/\Sd (k+1) sd2,bk:=E.nx}) (hE:∀sdn,Sd ds.length sdn->E.nx sdn) (hP:∀k sdk σ F H,Sd k sdk->StF X.K X.B₀ F H σ sdk->P F H:=by intros;trivial)
  (hc:X.calm=true:=by rfl) (hp:PassesOwn (AH X.prog X.w) X.A X.env X.xe:=by exact PassesOwn.never) (hs:∀x,Ay iter X.env x=pure x:=by intro _;rfl):PSd1 X sd (.For tg iter body [] pos) E:=.mk λσ F H S=>
 (aIv hp hc aPX aOa pss_w hs).to (by
  intro pins s I;refine thn (hi σ F H S pins s I) λv s1 h1=>thn h1 λitv s2 h2=> ?_
  obtain⟨it,fp,tn,J,H2,e,I2,T,st2,f2,F1,S1,s1',itd⟩:=h2;refine⟨it,fp,tn,J,H2,e,I2,T,st2,f2, ?_⟩;obtain⟨sd0,le0,q0⟩:=h0;refine⟨λi m σ' H'=>m=ds.length-i/\i<=ds.length/\∃sdi F',StF X.K X.B₀ F' H' σ' sdi/\Same F1 F'/\Sd i sdi,⟨ds.length,by simp,cP _,sd0,F1,S1.le le0,Same.refl _,q0⟩, ?_⟩;rintro i m σ' H' ⟨rfl,hil,sdi,F',S',s',qi⟩;obtain⟨g1,g2,g3⟩:=itd F' H' s' S'.sub S'.smp (hP _ _ _ _ _ qi S') i
  by_cases hlt:i<ds.length
  ·refine .inr ⟨g1 hlt,λσ2 H2=>∃sd2 F2,StF X.K X.B₀ F2 H2 σ2 sd2/\Same F1 F2/\Sd (i+1) sd2,λσ2 H2 ⟨sd2,F2,S2,s2,q2⟩=>⟨ds.length-(i+1),by omega,rfl,hlt,sd2,F2,S2,s2,q2⟩,λx H2 y=> ?_⟩;have hd:ds[i]? =some ds[i]:=by simp[hlt]
   obtain⟨F2,s2,rp,up⟩:=g3 x H2 ds[i] hd y;obtain⟨sdt,hg,hbb⟩:=hb i _ sdi hd qi;refine(hg σ' F2 H2 x (up _ _ _ S') rp).imp λσ3 H3 ⟨F3,S3,s3⟩=> ?_
   have base:Same F1 F3:=(s'.trans s2).trans s3;refine(hbb σ3 F3 H3 S3).imp ?_ ?_ ?_ ?_
   ·rintro σ4 H4 ⟨sd4,F4,S4,s4,sd5,le,q5⟩;exact⟨sd5,F4,S4.le le,base.trans s4,q5⟩
   ·exact λv H4 q=>q
   ·rintro σ4 H4 ⟨sd4,F4,S4,s4,q⟩;exact⟨sd4,F4,S4,(s1'.trans base).trans s4,q⟩
   ·rintro σ4 H4 ⟨sd4,F4,S4,s4,sd5,le,q5⟩;exact⟨sd5,F4,S4.le le,base.trans s4,q5⟩
  ·have e:i=ds.length:=by omega
   subst e
   exact .inl ⟨g2 (aN _),sdi,F',S',s1'.trans s',hE sdi qi⟩)
noncomputable def iB(m:Nat):Nat->List (List Int)
 |0=>[[]]
 |k+1=>(iB m k).flatMap λs=>(bQ m).map λ(w:Nat)=>s++[(w:Int)]
noncomputable def bS(s:List Int):D:=.tup<|s.map D.int
noncomputable def uE(m:Int)(ws:List Int):Int:=ws.foldl (λn w=>n*m+w) 0
noncomputable def aOD(b k:Nat):Bool:=let L:=iB (2^b) k;L.length==2^(b*k)&&(bQ L.length).all λi=>let f:=L.getD i [];f.length==k&&f.all (λw=>decide (0<=w)&&decide (w<2^b))&&decide (uE (2^b) f=i)&&(i==0||HT.lexLt (L.getD (i-1) []) f)
theorem aMj:∀p∈bY,aOD p.1.toNat p.2.toNat=true:=by decide+kernel
theorem uA:∀p∈bY,1<=p.1/\p.1<=6/\1<=p.2/\p.2<=6/\p.1*p.2<=6:=by decide+kernel
theorem uT{m:Nat}:∀ {k:Nat}{ws:List Int},ws.length=k->(∀w∈ws,0<=w/\w<m)->ws∈iB m k
 |0,ws,h,_=>by have:ws=[]:=aCl.mp h;subst this;simp[iB]
 |k+1,ws,h,hw=>by
  have hne:ws≠[]:=by intro z;subst z;simp at h
  have e:ws=ws.dropLast++[ws.getLast hne]:=(lN hne).symm;have hl:=hw (ws.getLast hne)<|List.getLast_mem hne;have ih:ws.dropLast∈iB m k:=uT (by rw[List.length_dropLast,h];rfl) λw hm=>hw w<|List.dropLast_subset _ hm
  show ws∈(iB m k).flatMap λs=>(bQ m).map λ(w:Nat)=>s++[(w:Int)]
  refine dY.mpr ⟨_,ih,aP.mpr ⟨(ws.getLast hne).toNat,cX.mpr<|by omega, ?_⟩⟩;have:(((ws.getLast hne).toNat:Nat):Int)=ws.getLast hne:=by omega
  rw[this];exact e.symm
structure aMb(b k:Nat):Prop where
 len:(iB (2^b) k).length=2^(b*k)
 at_:∀i,i<2^(b*k)->((iB (2^b) k).getD i []).length=k/\(∀w∈(iB (2^b) k).getD i [],0<=w/\w<2^b)/\uE (2^b) ((iB (2^b) k).getD i [])=i/\(i=0\/HT.lexLt ((iB (2^b) k).getD (i-1) []) ((iB (2^b) k).getD i [])=true)
theorem aIt{b k:Nat}(h:aOD b k=true):aMb b k:=by unfold aOD at h;simp only[bP,beq_iff_eq,iU,cX,decide_eq_true_eq,xT] at h;obtain⟨h1,h2⟩:=h;refine⟨h1,λi hi=> ?_⟩;obtain⟨⟨⟨a,b⟩,c⟩,d⟩:=h2 i (by omega);exact⟨a,b,c,d⟩
theorem aNh{b k:Nat}(h:aMb b k){ws:List Int}(hl:ws.length=k)(hw:∀w∈ws,0<=w/\w<((2^b:Nat):Int)):0<=uE (2^b) ws/\(uE (2^b) ws).toNat<2^(b*k)/\(iB (2^b) k).getD (uE (2^b) ws).toNat []=ws:=by
 have hm:=uT hl hw;obtain⟨i,hi,e⟩:=List.mem_iff_getElem.mp hm;have e':(iB (2^b) k).getD i []=ws:=by simp[cG,hi,e]
 rw[h.len] at hi;have hn:=(h.at_ i hi).2.2.1;rw[e'] at hn;rw[hn];refine⟨by omega,by simpa using hi, ?_⟩;simpa using e'
theorem aCe:∀ (ws vs:List Int),mL (ws.map D.int) (vs.map D.int)=decide (ws=vs)
 |[],[]=>by simp[mL]
 |[],_::_=>by simp[mL]
 |_::_,[]=>by simp[mL]
 |w::ws,v::vs=>by
  simp only[aZ,mL,deq,aCe ws vs]
  by_cases h1:w=v<;>by_cases h2:ws=vs<;>simp[h1,h2]
theorem aBx(ws vs:List Int):deq (bS ws) (bS vs)=decide (ws=vs):=by unfold bS;simp only[deq,aCe]
theorem aBy:∀ws:List Int,plL (ws.map D.int)=true
 |[]=>rfl
 |w::ws=>by simp[plL,pl,aBy ws]
theorem yJ:∀ws:List Int,lI (ws.map D.int)=0
 |[]=>rfl
 |w::ws=>by simp[lI,dep,yJ ws]
theorem rX(ws:List Int):pl (bS ws)=true:=by simp[bS,pl,aBy]
theorem wX(ws:List Int):dep (bS ws)=1:=by simp[bS,dep,yJ]
theorem vM:∀L:List (List Int),plL (L.map bS)=true
 |[]=>rfl
 |w::ws=>by simp[plL,rX,vM ws]
theorem tH:∀L:List (List Int),lI (L.map bS)<=1
 |[]=>by simp[lI]
 |w::ws=>by have:=tH ws;simp only[aZ,lI,wX];omega
theorem aJw{i j:Int}(h1: -(2^64)<j)(h2:j<2^64):IntMulOk i j:=.of_right<|intBits_le_64 h1 h2
theorem aLa:∀n:Nat,n<=6->([.int 1,.int 2,.int 4,.int 8,.int 16,.int 32,.int 64]:List D)[n]? =some (.int<|((2^n:Nat):Int)):=by
 intro n hn
 match n,hn with
 |0,_=>rfl
 |1,_=>rfl
 |2,_=>rfl
 |3,_=>rfl
 |4,_=>rfl
 |5,_=>rfl
 |6,_=>rfl
theorem oZ{L:List (List Int)}{k:Nat}(h:(L.map bS)[k]? =some d):k<L.length/\d=bS (L.getD k []):=by
 rw[aW] at h;cases e:L[k]? with
 |none=>rw[e] at h;cases h
 |some z=>rw[e] at h;refine⟨(aE.mp e).1, ?_⟩;rw[<-bZ.inj h,cG,e];rfl
theorem aEr{g:Str}{ad:BE}{xs:List V}{p:Pos}(hg:Gl X g)(hm:X.mg g=some (.ref ad))(hq:∀H,SqT X.K H ad xs)(ha:PEd X sd a (.val d))(hd:flt d=some v)(fv:oH v=true)(fx:xs.all oH=true)
  (hk:AU .In (.Name g p)=false:=by with_unfolding_all rfl) (hdb:(g==("__debug__":Str))=false:=by decide):PTd X sd (.Compare a [.In] [.Name g p] pos) (inV v xs):=.mk λσ F H S=>
 (aAy aFw eK (aEi (v:= .ref ad) hg hm rfl hdb) hk).to ((ha σ F H S).imp fun x H1 ⟨F1,S1,s1,q1⟩=>by
  have e:=nL hd q1;subst e
  exact⟨ad,xs,rfl,.inr (hq H1),fv,fx,_,rfl,rfl,F1,S1,s1⟩)
theorem aKp{p:Pos}{i j:Int}(hg:Gl X "min")(hm:X.mg "min"=none)(ha:PEd X sd a (.val<|.int i))(hb:PEd X sd b (.val<|.int j))(hc:X.calm=true:=by rfl)(hst:AB [a,b] X.env=(false,eval a X.env)::AB [b] X.env:=by rfl)(hst2:AB [b] X.env=(false,eval b X.env)::AB [] X.env:=by rfl)(hpl:(AX pos<|AB [b] X.env).any (·.1)=false:=by rfl):PEd X sd (.Call (.Name "min" p) [a,b] [] pos) (.val<|.int (if j<i then j else i)):=
 mX (he:=hst) (hpl:=hpl) (aFU hc) hg hm boot_min (aB ha (aB hb aK trivial hst2) trivial hst) λσ F H vs Q S q k=>by
  cases q with
  |cons q1 q2=>
   cases q2 with
   |cons q2 q3=>cases q3;simp only[ResOk,Rep] at q1 q2;subst q1 q2;exact⟨i,j,rfl,k _ F H S (Same.refl _)<|by simp only[ResOk,Rep]⟩
def stepNames:List Str:=["and","or","xor","add","take","copy","put","not","up","down"]
noncomputable def nm(k:Nat):Str:=stepNames.getD k "down"
noncomputable def mP(k:Nat)(i j n:Int):D:=if k<6 then .tup [.str<|nm k,.int i,.int j] else if k=6 then .tup [.str<|nm k,.int i,.int n] else .tup [.str<|nm k,.int i]
noncomputable def aLY(k:Nat)(m a:Int):Int:=match k with
 |7=>m-1-a
 |8=>a*2%m
 |_=>a / 2
noncomputable def aHZ(k:Nat)(m a c:Int):Int:=match k with
 |0=>Builtin.bitAnd a c
 |1=>Builtin.bitOr a c
 |2=>Builtin.bitXor a c
 |3=>(a+c)%m
 |4=>(a-c)%m
 |_=>c
noncomputable def newW(k:Nat)(m a c n:Int):Int:=if k=6 then n else if 7<=k then aLY k m a else aHZ k m a c
theorem aNm:∀k,k<10->decide (V.str (nm k)=V.str "and")=decide (k=0):=by decide+kernel
theorem aOQ:∀k,k<10->decide (V.str (nm k)=V.str "or")=decide (k=1):=by decide+kernel
theorem aMU:∀k,k<10->decide (V.str (nm k)=V.str "xor")=decide (k=2):=by decide+kernel
theorem aNB:∀k,k<10->decide (V.str (nm k)=V.str "add")=decide (k=3):=by decide+kernel
theorem aKX:∀k,k<10->decide (V.str (nm k)=V.str "take")=decide (k=4):=by decide+kernel
theorem aDA:∀k,k<10->decide (V.str (nm k)=V.str "put")=decide (k=6):=by decide+kernel
theorem aNA:∀k,k<10->decide (V.str (nm k)=V.str "not")=decide (k=7):=by decide+kernel
theorem aPx:∀k,k<10->decide (V.str (nm k)=V.str "up")=decide (k=8):=by decide+kernel
theorem aEl:∀k,k<10->inV (V.str<|nm k) [V.str "not",V.str "up",V.str "down"]=decide (7<=k):=by decide+kernel
theorem aHE:∀b,b<7->∀a,a<2^b->∀c,c<2^b->∀k,k<3->0<=aHZ k 0 ((a:Nat):Int) ((c:Nat):Int)/\aHZ k 0 ((a:Nat):Int) ((c:Nat):Int)<((2^b:Nat):Int):=by decide+kernel
theorem aOS{k:Nat}(h:k<3)(m a c:Int):aHZ k m a c=aHZ k 0 a c:=by
 match k,h with
 |0,_=>rfl
 |1,_=>rfl
 |2,_=>rfl
theorem aGA{b k:Nat}{a c n:Int}(hb:b<7)(hk:k<10)(ha:0<=a/\a<((2^b:Nat):Int))(hc:0<=c/\c<((2^b:Nat):Int))(hn:0<=n/\n<((2^b:Nat):Int)):0<=newW k ((2^b:Nat):Int) a c n/\newW k ((2^b:Nat):Int) a c n<((2^b:Nat):Int):=by
 have ea:a=((a.toNat:Nat):Int):=by omega
 have ec:c=((c.toNat:Nat):Int):=by omega
 have la:a.toNat<2^b:=by have:=ha.2;generalize 2^b=q at *;omega
 have lc:c.toNat<2^b:=by have:=hc.2;generalize 2^b=q at *;omega
 have tab:∀k,k<3->0<=aHZ k ((2^b:Nat):Int) a c/\aHZ k ((2^b:Nat):Int) a c<((2^b:Nat):Int):=λk hk=>by rw[aOS hk,ea,ec];exact aHE b hb _ la _ lc k hk
 have mpos:(0:Int)<((2^b:Nat):Int):=by omega
 match k,hk with
 |0,_=>exact tab 0<|by decide
 |1,_=>exact tab 1<|by decide
 |2,_=>exact tab 2<|by decide
 |3,_=>exact⟨bX _<|iC mpos,bU _ mpos⟩
 |4,_=>exact⟨bX _<|iC mpos,bU _ mpos⟩
 |5,_=>exact hc
 |6,_=>exact hn
 |7,_=>show 0<=((2^b:Nat):Int)-1-a/\((2^b:Nat):Int)-1-a<((2^b:Nat):Int);generalize ((2^b:Nat):Int)=q at *;omega
 |8,_=>exact⟨bX _<|iC mpos,bU _ mpos⟩
 |9,_=>show 0<=a / 2/\a / 2<((2^b:Nat):Int);generalize ((2^b:Nat):Int)=q at *;omega
theorem aLt(d:D)(hs:(∃es,d=.lst es)\/∃es,d=.tup es)(hu:X.A.units+1<AS):OpR X (AY .Eq) (λx y H Q=>∃z,y=.str z/\Rep X.K H d x/\Q (.bl false) H):=by
 intro pins s σ H x y v u Q I rx ry h;obtain⟨z,rfl,hd,k⟩:=h;obtain⟨t,rfl⟩:=ry;have kk:EP X pins σ Q (.bool false) s:=⟨.bl false,H,I,rfl,k⟩
 rcases hs with⟨es,rfl⟩|⟨es,rfl⟩
 ·obtain⟨a,xs,its,rfl,rfl,rl,rv,ht⟩:=nR I.hok hd rx;exact SeqAt.RcAt.list_str z t ht (by omega) _ _ _ _ kk
 ·obtain⟨a,xs,its,rfl,rfl,rl,rv,ht⟩:=jI I.hok hd rx;exact SeqAt.RcAt.tuple_str z t ht (by omega) _ _ _ _ kk
theorem aHH{z:Str}(hs:(∃es,d=.lst es)\/∃es,d=.tup es)(hu:X.A.units+1<AS)(ha:PEd X sd a (.val d))(hb:PEd X sd b (.val<|.str z)):PTd X sd (.Compare a [.Eq] [b] pos) false:=
 kM (aLt d hs hu) ha hb trivial (gP _) λσ F H x u Q S q1 q2 k=>by simp only[ResOk,Rep] at q2;exact⟨z,q2,Rep.mono S.sub q1,k F H S<|Same.refl _⟩
variable {o:Expr}
theorem PEd.ic{i j:Int}(h:PEd X sd e (.val<|.int i))(q:i=j):PEd X sd e (.val<|.int j):=q▸h
theorem xX{prog:AE}{A:BF}{E:BC->BD->Prop}{t sl:BE}{items:Array BC}{vl vu:BC}{lo hi:Option Int}{Q:BC->BD->Prop}(ht:IsTup s.heap t items)(hs:s.heap.IsSliceOf sl vl vu .none)(pl:IsPart vl lo)(pu:IsPart vu hi)
  (hw:HT.sIx items.size 0 lo=0/\HT.sIx items.size items.size hi=items.size) (h:Q (.ref t) s):AK (AH prog w) A (getItem (.ref t)<|.ref sl) Q E s:=by
 obtain⟨os,hos,hcs,hds⟩:=id hs;have hTs:s.TypeIs (.ref sl) "slice":=⟨os,hos,hcs⟩;unfold getItem
 try with_reducible refine AV ?_
 first|refine AA (AC ?_)|skip
 refine AA<|wpAny_sequenceKey ht.typeIs (by decide) ?_
 refine AA (Am (name:=Str.ofString "__getitem__") ht.typeIs PyProof.Rows.slot_tuple_getitem
  (At PyProof.Rows.slot_tuple_getitem ht.typeIs entry_tuple_getitem ?_ (args_tuple_getitem _ _)))
 show AK _ _ (Builtin.Tuple.tupleItemsOf (.ref t)>>=_) _ _ s;refine AA<|tupleItemsOf_ ht ?_;refine AA<|wpAny_typeOf hTs ?_;rw[if_pos<|by decide];refine AA<|HT.sliceApplied_gen hs pl pu ?_
 have yes:(((HT.sIx items.size 0 lo:Nat):Int)==0&&(1:Int)==1&&(HT.sIx items.size items.size hi-HT.sIx items.size 0 lo)==items.size)=true:=by rw[hw.1,hw.2];simp
 show AK _ _ (if(((HT.sIx items.size 0 lo:Nat):Int)==0&&(1:Int)==1&&(HT.sIx items.size items.size hi-HT.sIx items.size 0 lo)==items.size)=true then _ else _) _ _ s;rw[if_pos yes];refine AA ?_;unfold Builtin.Tuple.tupleIsExact;refine AA (wpAny_typeOf ht.typeIs<|AC ?_);rw[if_pos<|by decide];exact AA (Az<|AC ⟨_,rfl,AC h⟩)
theorem aKa:SlR X (λx lo hi H Q=>∃a xs,x=.ref a/\SqT X.K H a xs/\(HT.sIx xs.length 0 lo=0/\HT.sIx xs.length xs.length hi=xs.length)/\Q (.ref a) H):=by
 intro pins s σ H x v vl vu lo hi sl Q I rx hs pl pu h;obtain⟨a,xs,rfl,hx,hw,q⟩:=h;cases rx;obtain⟨its,r,ht,hz⟩:=I.tuple hx;have hlen:its.toArray.size=xs.length:=by rw[bC];exact r.length.symm
 refine⟨"tuple",_,PyProof.Rows.slot_tuple_getitem.lookup,ht.typeIs,xX ht hs pl pu (by rw[hlen];exact hw) ⟨.ref a,H,I,rfl,q⟩⟩
theorem aAN{lo hi:Option Expr}{ol oh:Option Int}{p2:Pos}(ha:PEd X sd a (.val<|.tup ds))(hl:POd X sd lo ol)(hh:POd X sd hi oh)(hw:HT.sIx ds.length 0 ol=0/\HT.sIx ds.length ds.length oh=ds.length):PEd X sd (.Subscript a (.Slice lo hi none p2) pos) (.val<|.tup ds):=.mk λσ F H S=>by obtain⟨tl,pl,kl⟩:=pM hl;obtain⟨th,ph,kh⟩:=pM hh;refine(wQ aKa eK pl ph).to<|(ha σ F H S).imp λv H1 ⟨F1,S1,s1,q1⟩=>kl σ F1 H1 S1 _ λF2 H2 S2 s2=>kh σ F2 H2 S2 _ λF3 H3 S3 s3=> ?_;have q1:=Rep.mono (s2.trans s3) q1;simp only[Rep] at q1;obtain⟨l,xs,rfl,hl',rl⟩:=q1;refine⟨l,xs,rfl,.of<|S3.sub _ _ hl',by rw[rl.len];exact hw,F3,S3,(s1.trans s2).trans s3, ?_⟩;simp only[ResOk,Rep];exact⟨l,xs,rfl,hl',rl⟩
theorem aCj{k:Nat}{p2:Pos}(ha:PEd X sd a (.val<|.tup ds))(hb:PEd X sd b (.val<|.int (k:Int))):PEd X sd (.Subscript a (.Slice none (some b) none p2) pos) (.val (.tup<|ds.take k)):=by
 by_cases h:k<ds.length
 ·have e:DL.cutD ds none (some (k:Int))=ds.take k:=by unfold DL.cutD;rw[HT.sIx_nat,HT.sIx_none,yF<|dE h];simp
  exact PEd.cast (xH (ol:=none) (oh:=some (k:Int)) ha trivial hb<|by rw[HT.sIx_nat,HT.sIx_none];omega) (by rw[e])
 ·rw[dZ<|by omega];exact aAN (ol:=none) (oh:=some (k:Int)) ha trivial hb (by rw[HT.sIx_nat,HT.sIx_none];omega)
theorem vN{k:Nat}{p2:Pos}(ha:PEd X sd a (.val<|.tup ds))(hb:PEd X sd b (.val<|.int (k:Int))):PEd X sd (.Subscript a (.Slice (some b) none none p2) pos) (.val (.tup<|ds.drop k)):=by
 by_cases h:0<k/\0<ds.length
 ·have e:DL.cutD ds (some (k:Int)) none=ds.drop k:=by
   unfold DL.cutD;rw[HT.sIx_nat,HT.sIx_none]
   by_cases q:k<=ds.length
   ·rw[yF q];exact dZ<|by simp
   ·rw[Nat.min_eq_right<|by omega,kB<|aN _,kB<|by omega];simp
  exact PEd.cast (xH (ol:=some (k:Int)) (oh:=none) ha hb trivial<|by rw[HT.sIx_nat,HT.sIx_none];omega) (by rw[e])
 ·have e:ds.drop k=ds:=by
   by_cases q:k=0
   ·rw[q];rfl
   ·have:ds=[]:=aCl.mp (by omega);rw[this];simp
  rw[e];exact aAN (ol:=some (k:Int)) (oh:=none) ha hb trivial (by rw[HT.sIx_nat,HT.sIx_none];omega)
mutual
noncomputable def noL:D->Bool
 |.tup ds=>aLE ds
 |.lst _=>false
 |.scr _=>false
 |.dic=>false
 |.dki _ _=>false
 |.any _=>false
 |_=>true
noncomputable def aLE:List D->Bool
 |[]=>true
 |d::ds=>noL d&&aLE ds
end
noncomputable def del(F:Hp)(l:BE):Hp:=λb=>if b=l then none else F b
theorem vG{l b:BE}(h:b≠l):del F l b=F b:=by unfold del;rw[if_neg h]
theorem aBZ{l:BE}:del F l l=none:=by unfold del;rw[if_pos rfl]
mutual
theorem Rep.del{K:aA}{F:Hp}{l:BE}{xs:List V}(hl:F l=some (.lst xs)):∀ {d:D}{v:V},noL d=true->Rep K F d v->Rep K (del F l) d v
 |.non,_,_,r=>by simpa only[Rep] using r
 |.bl _,_,_,r=>by simpa only[Rep] using r
 |.int _,_,_,r=>by simpa only[Rep] using r
 |.str _,_,_,r=>by simpa only[Rep] using r
 |.tup ds,v,h,r=>by
  simp only[Rep] at r ⊢;obtain⟨a,ys,e,q,rl⟩:=r
  have ne:a≠l:=λz=>by rw[z,hl] at q;cases q
  exact⟨a,ys,e,by rw[vG ne];exact q,RepL.del hl (by simpa only[noL] using h) rl⟩
 |.lst _,_,h,_=>by simp[noL] at h
 |.dic,_,h,_=>by simp[noL] at h
 |.dki _ _,_,h,_=>by simp[noL] at h
 |.any _,_,h,_=>by simp[noL] at h
 |.scr _,_,h,_=>by simp[noL] at h
theorem RepL.del{K:aA}{F:Hp}{l:BE}{xs:List V}(hl:F l=some (.lst xs)):∀ {ds:List D}{ys:List V},aLE ds=true->RepL K F ds ys->RepL K (del F l) ds ys
 |[],_,_,r=>by simpa only[RepL] using r
 |d::ds,ys,h,r=>by simp only[aLE,bP] at h;obtain⟨y,zs,rfl,a,rl⟩:=r.uncons;exact .cons (Rep.del hl h.1 a)<|RepL.del hl h.2 rl
end
theorem aBE{K:aA}{F H:Hp}:∀ {sd:List Slot}{σ:St},σ.length=sd.length->(∀ (k:Nat) (z:Slot),sd[k]? =some z->∃o,σ[k]? =some o/\dR K F H z o)->SlotsOk K F H sd σ
 |[],[],_,_=>rfl
 |z::zs,o::r,hl,h=>by
  obtain⟨o',e,q⟩:=h 0 z rfl;have:o=o':=by simpa using e
  subst this
  exact ⟨o,r,rfl,q,aBE (by simpa using hl) fun k z hz=>by
   obtain⟨o',e,q⟩:=h (k+1) z (by simpa using hz)
   exact⟨o',by simpa using e,q⟩⟩
 |[],_::_,hl,_=>by simp at hl
 |_::_,[],hl,_=>by simp at hl
noncomputable def okS:Slot->Bool
 |.own _ ds=>aLE ds
 |.od _ _ ds=>aLE ds
 |.ox _ _=>false
 |_=>true
def Oth(sd:List Slot)(i:Nat):Prop:=∀ (k:Nat) (z:Slot),k≠i->sd[k]? =some z->okS z=true
variable {i:Nat}{l:BE}{xs:List V}
theorem StF.lend(S:StF K H₀ F H σ sd)(hs:sd[i]? =some (.own l ds))(hx:H l=some (.lst xs)):StF K H₀ (upd F l<|.lst xs) H σ (sd.set i (.val<|.lst ds)):=by obtain⟨o,h1,h2,n,ys,q,rl⟩:=S.slots.get hs;rw[hx] at q;cases q;have S0:=S.le<|gB sd i;obtain⟨S1,s1⟩:=S0.freeze hx n<|sY S.nd hs;have S2:=S1.set (d:=.lst ds) (v:=.ref l) i (by simp only[Rep];exact⟨l,xs,rfl,bK,rl.mono s1⟩);rw[jS,lR<|by rw[h1,h2]] at S2;exact S2
theorem StF.back(S:StF K H₀ F H σ sd)(hs:sd[i]? =some (.own l ds))(hx:H l=some (.lst xs))(ho:Oth sd i)(S':StF K H₀ F' H' σ (sd.set i (.val<|.lst ds)))(s:Same (upd F l<|.lst xs) F'):StF K H₀ (del F' l) H' σ sd/\Same F (del F' l)/\F' l=some (.lst xs):=by
 obtain⟨o,h1,h2,n,ys,q,rl⟩:=S.slots.get hs;rw[hx] at q;cases q;have fl:F' l=some (.lst xs):=s _ _ bK
 have sF:Same F (del F' l):=λb u e=>by have ne:b≠l:=cJ e n;rw[vG ne];exact s _ _ (by rw[aV ne];exact e)
 refine⟨⟨λb u e=>sF _ _<|S.base _ _ e,λb u e=> ?_,S'.smp, ?_,S.nd⟩,sF,fl⟩
 ·by_cases h:b=l
  ·subst h;rw[aBZ] at e;cases e
  ·rw[vG h] at e;exact S'.sub _ _ e
 ·refine aBE S.slots.len λk z hz=> ?_
  by_cases hk:k=i
  ·subst hk;rw[hs] at hz;cases hz;exact⟨o,h1,h2,aBZ,xs,S'.sub _ _ fl,rl.mono sF⟩
  ·obtain⟨o1,g1,g2⟩:=S.slots.get hz;obtain⟨o2,g3,g4⟩:=S'.slots.get (i:=k) (z:=z) (by rw[lA<|Ne.symm hk];exact hz);rw[g1] at g3;cases g3;refine⟨o1,g1, ?_⟩;cases z with
   |un=>trivial
   |val d=>obtain⟨v,e,r⟩:=g2;exact⟨v,e,r.mono sF⟩
   |gh d G=>obtain⟨v,e,r,g⟩:=g2;exact⟨v,e,r.mono sF,λF2 s2=>g F2<|sF.trans s2⟩
   |own l' ds'=>
    obtain⟨e,n',ys,q',rl'⟩:=g4
    have ne:l'≠l:=λe2=>by rw[e2,fl] at n';cases n'
    exact⟨e,by rw[vG ne];exact n',ys,q',RepL.del fl (ho k _ hk hz) rl'⟩
   |od l' ks ds'=>
    obtain⟨e,n',ys,q',ln,rl'⟩:=g4
    have ne:l'≠l:=λe2=>by rw[e2,fl] at n';cases n'
    exact⟨e,by rw[vG ne];exact n',ys,q',ln,RepL.del fl (ho k _ hk hz) rl'⟩
   |ox ls G=>exact absurd (ho k _ hk hz) (by simp[okS])
theorem PTd.lend(i:Nat){k:Bool}(hs:sd[i]? =some (.own l ds))(ho:Oth sd i)(h:PTd X (sd.set i (.val<|.lst ds)) e k):PTd X sd e k:=.mk λσ F H S=>by
 obtain⟨o,h1,h2,n,xs,q,rl⟩:=S.slots.get hs;refine(h σ _ H<|S.lend hs q).imp λv H' ⟨e,F',S',s'⟩=> ?_
 obtain⟨S2,s2,fl⟩:=S.back hs q ho S' s';exact⟨e,del F' l,S2,s2⟩
theorem PTd.cast{k k':Bool}(h:PTd X sd e k)(q:k=k'):PTd X sd e k':=q▸h
noncomputable def aOO:List Slot->Nat->Bool
 |[],_=>true
 |_::zs,0=>zs.all okS
 |z::zs,i+1=>okS z&&aOO zs i
theorem aJD:∀ {sd:List Slot}{i:Nat},aOO sd i=true->Oth sd i
 |[],_,_,k,y,_,hz=>by simp at hz
 |z::zs,0,h,k,y,hk,hz=>by
  cases k with
  |zero=>exact absurd rfl hk
  |succ k=>exact iU.mp (show zs.all okS=true from h) _ (bA<|by simpa using hz)
 |z::zs,i+1,h,k,y,hk,hz=>by
  have h':(okS z&&aOO zs i)=true:=h;rw[bP] at h';cases k with
  |zero=>
   have:z=y:=by simpa using hz
   subst this;exact h'.1
  |succ k=>exact aJD h'.2 k y (λq=>hk<|by rw[q]) (by simpa using hz)
theorem aFx(hc:X.calm=true):mG X (.builtin "sum") (λxs H Q=>∃ (a:BE) (ns:List Int),xs=[.ref a]/\SqL X.K H a (ns.map V.int)/\Q (.int<|preSum (λi=>ns.getD i 0) ns.length) H):=by
 intro pins s σ H xs us Q I r h;obtain⟨a,ns,rfl,ha,q⟩:=h;obtain⟨u,rfl,ru⟩:=qI r;cases ru;obtain⟨its,rv,p,hz⟩:=I.list ha;have hl:=rv.length;rw[aC] at hl;have isl:s.heap.IsList a its.toArray:=p.isList;have alt:a<s.heap.objs.size:=by obtain⟨o,ho,_⟩:=isl;exact aR ho
 refine call_sum_walkAnyS<|wpAny_pyIter_list isl ?_;refine⟨s.heap.objs.size,_,_,_,its.toArray.size,_,_,λi=>ns.getD i 0,rfl,(Walks.list (A:=X.A.in1) (I.ok.hd hc) s.heap.objs.size a (bW alt) its.toArray).toS,⟨⟨_,bL _ rfl,rfl,rfl⟩,isl.push _⟩,λb hb=> ?_,λi v hv=>(aJS rv<|by simpa using hv).2,λs' t' hm=> ?_⟩
 ·show b<(s.heap.push _).objs.size;rw[size_push']
  rcases bD.mp hb with e|hb
  ·rw[e];exact gS _
  ·have e:b=a:=by simpa using hb
   rw[e];exact nH alt
 ·rw[Moved.eq_with hm];have sz:its.toArray.size=ns.length:=by rw[bC,hl]
  rw[sz];refine⟨.int _,H,I.kept λb o g=>hm.heap b o (λhI=> ?_)<|aD _ g,⟨_,rfl⟩,q⟩;have e:b=s.heap.objs.size:=by simpa using hI
  exact absurd (aR g) (by rw[e];exact eL _)
theorem aKb{p:Pos}{ns:List Int}(hg:Gl X "sum")(hm:X.mg "sum"=none)(ha:PEd X sd e (.bor<|ns.map D.int))(hc:X.calm=true:=by rfl)(hst:AB [e] X.env=(false,eval e X.env)::AB [] X.env:=by rfl):PEd X sd (.Call (.Name "sum" p) [e] [] pos) (.val (.int<|preSum (λi=>ns.getD i 0) ns.length)):=
 mX (he:=hst) (aFx hc) hg hm boot_sum (aB ha aK trivial hst) λσ F H vs Q S q k=>by
  cases q with
  |cons q1 q2=>cases q2;obtain⟨p,xs,rfl,hp,rl,_⟩:=q1;exact⟨p,ns,rfl,.of (by rw[<-rl.ints];exact hp),k _ F H S (Same.refl _)<|by simp only[ResOk,Rep]⟩
noncomputable abbrev SQ:=Nat×Int×Int×Int
noncomputable def sqD(q:SQ):D:=mP q.1 q.2.1 q.2.2.1 q.2.2.2
structure sD(p:Int×Int)(q:SQ):Prop where
 sz:p∈bY
 k10:q.1<10
 i0:0<=q.2.1/\q.2.1<p.2
 j0:0<=q.2.2.1/\q.2.2.1<p.2
 n0:0<=q.2.2.2/\q.2.2.2<((2^p.1.toNat:Nat):Int)
theorem pw0(n:Nat):(0:Int)<((2^n:Nat):Int):=by have:0<2^n:=Nat.pow_pos (by decide);generalize 2^n=q at this ⊢;omega
noncomputable abbrev SK:=SQ×Int
noncomputable def skD(s:SK):D:=.tup [sqD s.1,.int s.2]
structure StkOk(p:Int×Int)(L:List SK):Prop where
 pos:0<L.length
 le:L.length<=8
 st:∀s∈L,sD p s.1/\1<=s.2/\s.2<=9
structure Fil(p:Int×Int)(ws:List Int):Prop where
 len:ws.length=p.2.toNat
 wd:∀w∈ws,0<=w/\w<((2^p.1.toNat:Nat):Int)
noncomputable def nwQ(p:Int×Int)(q:SQ)(ws:List Int):Int:=newW q.1 ((2^p.1.toNat:Nat):Int) (ws.getD q.2.1.toNat 0) (ws.getD q.2.2.1.toNat 0) q.2.2.2
noncomputable def onQ(p:Int×Int)(q:SQ)(ws:List Int):List Int:=ws.set q.2.1.toNat<|nwQ p q ws
noncomputable def hZ(p:Int×Int)(L:List SK)(row:List Nat)(ws:List Int):List Int:=row.foldl (λf t=>onQ p (L.getD t AO).1 f) ws
theorem aJV{p:Int×Int}{q:SQ}{ws:List Int}(O:sD p q)(G:Fil p ws):0<=nwQ p q ws/\nwQ p q ws<((2^p.1.toNat:Nat):Int):=by obtain⟨h1,h2,h3,h4,h5⟩:=uA p O.sz;exact aGA (by omega) O.k10 (G.wd _ (getD_mem<|by have:=O.i0;rw[G.len];omega)) (G.wd _ (getD_mem<|by have:=O.j0;rw[G.len];omega)) O.n0
theorem uU{p:Int×Int}{q:SQ}{ws:List Int}(O:sD p q)(G:Fil p ws):Fil p (onQ p q ws):=by
 refine⟨by unfold onQ;rw[List.length_set];exact G.len,λw hw=> ?_⟩
 rcases List.mem_or_eq_of_mem_set hw with hw|rfl
 ·exact G.wd w hw
 ·exact aJV O G
theorem oW{p:Int×Int}{L:List SK}(S:StkOk p L):∀ (row:List Nat) (ws:List Int),(∀t∈row,t<L.length)->Fil p ws->Fil p (hZ p L row ws)
 |[],ws,_,G=>G
 |t::row,ws,h,G=>by have ht:=h t aJ;exact oW S row _ (λu hu=>h u<|aF _ hu)<|uU (S.st _<|getD_mem ht).1 G
theorem aFe(p:Int×Int)(L:List SK)(row:List Nat)(t:Nat)(ws:List Int):hZ p L (row++[t]) ws=onQ p (L.getD t AO).1 (hZ p L row ws):=by unfold hZ;rw[fO];rfl
theorem lU{p:Int×Int}(hp:p∈bY){ws:List Int}(h:ws∈iB (2^p.1.toNat) p.2.toNat):Fil p ws:=by
 have g:∀ (m k:Nat),∀s∈iB m k,s.length=k/\∀x∈s,0<=x/\x<(m:Int):=λm k=>by
  induction k with
  |zero=>
   intro s h;have:s=[]:=by simpa[iB] using h
   subst this;exact⟨rfl,λx hx=>by cases hx⟩
  |succ k ih=>
   intro s h;obtain⟨t,ht,hs⟩:=dY.mp h;obtain⟨w,hw,rfl⟩:=aP.mp hs;obtain⟨a,b⟩:=ih t ht;refine⟨by rw[aH,a];rfl,λx hx=> ?_⟩
   rcases aS.mp hx with hx|hx
   ·exact b x hx
   ·have e:x=(w:Int):=by simpa using hx
    have:=cX.mp hw;omega
 obtain⟨a,b⟩:=g _ _ ws h;exact⟨a,b⟩
noncomputable def bM(row:List Nat):List D:=row.map λ(t:Nat)=>D.int (t:Int)
noncomputable def tY(L:List SK)(row:List Nat):List Int:=row.map λt=>(L.getD t AO).2
noncomputable def uC(l:List Int):Int:=preSum (λi=>l.getD i 0) l.length
def aBf:List D->R->Prop:=λds r=>∃ (L:List SK) (row:List Nat),(∀t∈row,t<L.length)/\row.length<=500/\ds=[.lst<|L.map skD,.tup<|bM row]/\r=.val (.int (uC<|tY L row))
theorem xN{f g:Nat->Int}:∀n,(∀i,i<n->f i=g i)->preSum f n=preSum g n
 |0,_=>rfl
 |n+1,h=>by show preSum f n+f n=preSum g n+g n;rw[xN n λi hi=>h i<|by omega,h n<|by omega]
theorem aFq(l:List Int)(x:Int):uC (l++[x])=uC l+x:=by unfold uC;rw[aH];show preSum _ l.length+_=_;rw[xN (g:=λi=>l.getD i 0) l.length λi hi=>by simp[cG,eB hi]];simp[cG]
theorem aMV{d1 d2:D}{x y:V}{k:Bool}(ha:PEd X sd a (.val d1))(hb:PEd X sd b (.val d2))(h1:flt d1=some x)(h2:flt d2=some y)(hs:aLT x y=true)(hk:decide (x=y)=k):PEd X sd (.Compare a [.Eq] [b] pos) (.val<|.bl k):=
 aAs aMq ha hb trivial (gP _) λσ F H v u Q S q1 q2 kk=>by have e1:=nL h1 q1;have e2:=nL h2 q2;subst e1 e2;exact⟨hs,by rw[hk];exact kk F H S<|Same.refl _⟩
theorem aBI{p:Pos}(hg:Gl X "list")(hm:X.mg "list"=none)(ha:PEd X sd e (.bor ds))(hst:AB [e] X.env=(false,eval e X.env)::AB [] X.env:=by rfl):PEd X sd (.Call (.Name "list" p) [e] [] pos) (.own ds):=
 zS (he:=hst) aAb hg hm PyProof.Rows.boot_list (aB ha aK trivial hst) λσ F H vs Q S q k=>by
  cases q with
  |cons q1 q2=>cases q2;obtain⟨p,xs,rfl,hp,rl,_⟩:=q1;refine⟨p,xs,rfl,.inl<|.of hp,λl hl=> ?_⟩;obtain⟨S2,fp,no⟩:=S.layO (xs:=xs) hl;exact k _ F _ S2 (Same.refl _) ⟨l,xs,rfl,fp,bK,rl,no⟩
mutual
theorem wH:∀d:D,pl d=true->deq d d=true
 |.non,_=>rfl
 |.bl b,_=>by simp[deq]
 |.int i,_=>by simp[deq]
 |.str x,_=>by simp[deq]
 |.tup ds,h=>by simp only[deq];exact tM ds (by simpa only[pl] using h)
 |.lst ds,h=>by simp only[deq];exact tM ds (by simpa only[pl] using h)
 |.dic,h=>by simp[pl] at h
 |.dki _ _,h=>by simp[pl] at h
 |.any _,h=>by simp[pl] at h
 |.scr _,h=>by simp[pl] at h
theorem tM:∀ds:List D,plL ds=true->mL ds ds=true
 |[],_=>rfl
 |d::ds,h=>by simp only[plL,bP] at h;simp only[mL,bP];exact⟨wH d h.1,tM ds h.2⟩
end
theorem aEj{row:List Nat}{k:Nat}(h:(bM row)[k]? =some d):k<row.length/\d=.int ((row.getD k 0:Nat):Int):=by
 unfold bM at h;rw[aW] at h;cases e:row[k]? with
 |none=>rw[e] at h;cases h
 |some z=>rw[e] at h;refine⟨(aE.mp e).1, ?_⟩;rw[<-bZ.inj h,cG,e];rfl
theorem aDr{L:List SK}{t:Nat}(h:t<L.length):(L.map skD)[t]? =some (skD<|L.getD t AO):=by rw[aW];simp[cG,h]
theorem aGN{row:List Nat}{k:Nat}(h:k<row.length):row.take (k+1)=row.take k++[row.getD k 0]:=by rw[eF];simp[cG,h]
theorem tU(L:List (List Int))(m:Nat):(L.flatMap λs=>(bQ m).map λ(w:Nat)=>s++[(w:Int)]).length=L.length*m:=by
 induction L with
 |nil=>simp
 |cons s L ih=>rw[List.flatMap_cons,aH,ih,aC,fP,bF,aFY,aQn]
theorem aAo:∀ (m k:Nat),(iB m k).length=m^k
 |_,0=>rfl
 |m,k+1=>by show((iB m k).flatMap _).length=_;rw[tU,aAo m k,Nat.pow_succ]
theorem aBB:∀ (m k:Nat),∀s∈iB m k,s.length=k
 |_,0,s,h=>by
  have:s=[]:=by simpa[iB] using h
  subst this;rfl
 |m,k+1,s,h=>by obtain⟨t,ht,hs⟩:=dY.mp h;obtain⟨w,_,rfl⟩:=aP.mp hs;rw[aH,aBB m k t ht];rfl
theorem aFo:∀p∈bY,∀k,k<p.2.toNat->((2^p.1.toNat)^k)*2^p.1.toNat<=900:=by decide+kernel
noncomputable def tabQ(p:Int×Int)(L:List SK)(row:List Nat):List (List Int):=(iB (2^p.1.toNat) p.2.toNat).map λws=>hZ p L row ws
def aIu:List D->R->Prop:=λds r=>∃p L row,p∈bY/\StkOk p L/\(∀t∈row,t<L.length)/\ds=[cC p,.lst<|L.map skD,.tup<|bM row]/\r=.val (.tup<|(tabQ p L row).map bS)
theorem aHM(p:Int×Int)(L:List SK)(row:List Nat):(tabQ p L row).length=(iB (2^p.1.toNat) p.2.toNat).length:=aC _
theorem lD{p:Int×Int}(hp:p∈bY):(iB (2^p.1.toNat) p.2.toNat).length<=64:=by
 have:∀p∈bY,(2^p.1.toNat)^p.2.toNat<=64:=by decide+kernel
 rw[aAo];exact this p hp
theorem xF{L:List (List Int)}(h:d∈L.map bS):∃ws∈L,d=bS ws:=by obtain⟨ws,hw,rfl⟩:=aP.mp h;exact⟨ws,hw,rfl⟩
theorem aHC{p:Int×Int}(hp:p∈bY){L:List SK}(S:StkOk p L){row:List Nat}(h:∀t∈row,t<L.length):∀ws∈tabQ p L row,Fil p ws:=λws hw=>by obtain⟨v,hv,rfl⟩:=aP.mp hw;exact oW S row v h<|lU hp hv
noncomputable def kS:D->List Int
 |.tup ds=>ds.map λd=>match d with | .int i=>i|_=>0
 |_=>[]
theorem iK(ws:List Int):kS (bS ws)=ws:=by
 show(ws.map D.int).map _=ws;rw[aU]
 induction ws with
 |nil=>rfl
 |cons w ws ih=>rw[aZ,ih];rfl
noncomputable def isN:D->Bool
 |.non=>true
 |_=>false
theorem aAJ(h:Rep K H d v):decide (v=.non)=isN d:=by
 cases d with
 |non=>simp only[Rep] at h;subst h;rfl
 |bl=>simp only[Rep] at h;subst h;rfl
 |int=>simp only[Rep] at h;subst h;rfl
 |str=>simp only[Rep] at h;subst h;rfl
 |tup=>simp only[Rep] at h;obtain⟨a,xs,rfl,_⟩:=h;rfl
 |lst=>simp only[Rep] at h;obtain⟨a,xs,rfl,_⟩:=h;rfl
 |dic=>simp only[Rep] at h;obtain⟨a,rfl,_⟩:=h;rfl
 |dki=>simp only[Rep] at h;obtain⟨a,xs,rfl,_⟩:=h;rfl
 |any=>simp only[Rep] at h;obtain⟨⟨a,rfl⟩,_⟩:=h;rfl
 |scr=>simp only[Rep] at h;obtain⟨a,rfl,_⟩:=h;rfl
theorem lW(ha:PEd X sd a (.val d))(hb:PEd X sd b (.val .non)):PTd X sd (.Compare a [.Is] [b] pos) (isN d):=
 kM aDu ha hb trivial (gP _) λσ F H v u Q S q1 q2 k=>by simp only[ResOk,Rep] at q2;have q1:Rep _ _ _ _:=q1;exact⟨q2,by rw[aAJ q1];exact k F H S<|Same.refl _⟩
theorem mV(ha:PEd X sd a (.val d))(hb:PEd X sd b (.val .non)):PTd X sd (.Compare a [.IsNot] [b] pos) (!isN d):=
 kM aKV ha hb trivial (gP _) λσ F H v u Q S q1 q2 k=>by simp only[ResOk,Rep] at q2;have q1:Rep _ _ _ _:=q1;exact⟨q2,by rw[aAJ q1];exact k F H S<|Same.refl _⟩
theorem xA(ha:PEd X sd a (.val d))(hb:PEd X sd b (.val .non)):PEd X sd (.Compare a [.Is] [b] pos) (.val (.bl<|isN d)):=
 aAs aDu ha hb trivial (gP _) λσ F H v u Q S q1 q2 k=>by simp only[ResOk,Rep] at q2;have q1:Rep _ _ _ _:=q1;exact⟨q2,by rw[aAJ q1];exact k F H S<|Same.refl _⟩
theorem aAa{p p2 q2:Pos}{n:Nat}(hg:Gl X "list")(hm:X.mg "list"=none)(hg2:Gl X "range")(hm2:X.mg "range"=none)(ha:PEd X sd e (.val<|.int (n:Int)))(h1:n<=10000)
  (hc:X.calm=true:=by rfl) (hst:AB [e] X.env=(false,eval e X.env)::AB [] X.env:=by rfl) (hst2:AB [.Call (.Name "range" p2) [e] [] q2] X.env=(false,eval (.Call (.Name "range" p2) [e] [] q2) X.env)::AB [] X.env:=by rfl):
  PEd X sd (.Call (.Name "list" p) [.Call (.Name "range" p2) [e] [] q2] [] pos) (.own<|fR 0 n):=.mk λσ F H S pins s I=>by
 refine AQ<|lP I hg hm PyProof.Rows.boot_list ?_;refine PyProof.Rows.callWith_type1 ?_ hst2 rfl;rw[hst2];refine Calls.spliced_cons (AQ<|lP I hg2 hm2 boot_range ?_);refine PyProof.Rows.callWith_type1 (thn ((dA (te:=wE X e) eK pa_nil hst) q2 pins s σ H (λus H1=>∃v F1,us=[v]/\StF X.K X.B₀ F1 H1 σ sd/\Same F F1/\ResOk X.K F1 H1 sd (.val<|.int (n:Int)) v) I<|(ha σ F H S).imp λv H1 ⟨F1,S1,s1,q1⟩=>⟨v,F1,rfl,S1,s1,q1⟩) λus s1 hus=> ?_) hst rfl;obtain⟨ws,H1,I1,rv,v,F1,rfl,S1,sF,q1⟩:=hus;obtain⟨u,rfl,ru⟩:=qI rv;simp only[ResOk,Rep] at q1;subst q1;obtain⟨t,rfl⟩:=ru;refine call_range_1<|Calls.spliced_nil ?_;have hr:IsRange (s1.heap.push {cls:=.type "range",data:=.fields #[.int 0 s1.toks,.int (n:Int) t,.int 1<|s1.toks+1]}) s1.heap.objs.size 0 (n:Int) 1 s1.toks t (s1.toks+1):=IsRange.new ..
 have sz:Builtin.Range.rangeSize 0 (n:Int) 1=(n:Int):=by
  rw[rangeSize_one]
  split<;>omega
 refine call_list_range (I1.ok.hd hc) hr (small_one (by omega) (by omega) (by omega)<|by omega) sz (by omega) λh' tk acc c' kp g it=> ?_
 have kp2:∀b o,s1.heap.get? b=some o->h'.get? b=some o:=λb o g=>kp b o<|aD _ g
 have le:s1.heap.objs.size<=(s1.heap.push {cls:=.type "range",data:=.fields #[.int 0 s1.toks,.int (n:Int) t,.int 1<|s1.toks+1]}).objs.size:=by rw[size_push'];exact hW _
 generalize (s1.heap.push {cls:=.type "range",data:=.fields #[.int 0 s1.toks,.int (n:Int) t,.int 1<|s1.toks+1]}).objs.size=dd at g le;have hD:H1 dd=none:=I1.hok.fresh le;have ln:acc.toList.length=n:=by rw[cS];exact it.1
 have vl:Vals ((bQ n).map λ(k:Nat)=>V.int<|0+(k:Int)) acc.toList:=by
  have g:∀ (l:List BC) (f:Nat->Int),(∀ (j:Nat) (v:BC),l[j]? =some v->∃t,v=.int (f j) t)->Vals ((bQ l.length).map λ(k:Nat)=>V.int<|f k) l:=λl=>by
   induction l with
   |nil=>intro f _;exact .nil
   |cons x l ih=>intro f h;obtain⟨t,e⟩:=h 0 x rfl;rw[bF,aDc,aZ,aU];exact .cons ⟨t,e⟩ (ih (λk=>f<|k+1) λj v hv=>h (j+1) v<|by simpa using hv)
  have:=g acc.toList (λk=>0+(k:Int)) λj v hv=>by obtain⟨t,e⟩:=it.2 j v (by rw[<-dL];exact hv);exact⟨t,by rw[e];congr 1;omega⟩
  rw[ln] at this;exact this
 have I3:Inv X pins σ (upd H1 dd<|.lst ((bQ n).map λ(k:Nat)=>V.int<|0+(k:Int))) {s1 with heap:=h',toks:=tk}:=
  I1.laid kp2 le ⟨by rw[aC,fP];exact dE<|eX h1,acc.toList,c',vl,by simpa using g⟩
 obtain⟨S4,fp,no⟩:=S1.layO (xs:=(bQ n).map λ(k:Nat)=>V.int<|0+(k:Int)) hD;refine⟨.ref dd,_,I3,rfl,F1,S4,sF,dd,_,rfl,fp,bK, ?_,no⟩
 have gg:∀ks:List Nat,RepL X.K F1 (ks.map λ(k:Nat)=>D.int<|0+(k:Int)) (ks.map λ(k:Nat)=>V.int<|0+(k:Int)):=λks=>by
  induction ks with
  |nil=>exact .nil
  |cons k ks ih=>exact .cons (by simp only[Rep]) ih
 exact gg _
noncomputable def cB(p:Int×Int):List (List Int):=iB (2^p.1.toNat) p.2.toNat
noncomputable def aOd:Option (List Int)->D
 |none=>.non
 |some ws=>bS ws
noncomputable def lkD:Option (List Nat)->D
 |none=>.non
 |some l=>.lst<|bM l
noncomputable def bxQ(n:Nat):Option (List Nat)->List Nat
 |none=>bQ n
 |some l=>l
structure yQ(p:Int×Int)(T:List (List Int)):Prop where
 len:T.length=(cB p).length
 fil:∀ws∈T,Fil p ws
def aLv(p:Int×Int)(o:Option (List Nat)):Prop:=∀l,o=some l->l.length<=100/\∀b∈l,b<p.2.toNat
theorem aOU{p:Int×Int}(hp:p∈bY){o:Option (List Nat)}(h:aLv p o):(bxQ p.2.toNat o).length<=100/\∀b∈bxQ p.2.toNat o,b<p.2.toNat:=by
 cases o with
 |none=>obtain⟨h1,h2,h3,h4,h5⟩:=uA p hp;exact⟨by show(bQ _).length<=100;rw[fP];omega,λb hb=>cX.mp hb⟩
 |some l=>exact h l rfl
def aIj:List D->R->Prop:=λds r=>∃p o,p∈bY/\ds=[cC p,lkD o]/\r=.own (bM<|bxQ p.2.toNat o)
def aBU:List D->R->Prop:=λds r=>∃ (bs:List Nat) (ws:List Int),bs.length<=100/\(∀b∈bs,b<ws.length)/\ds=[.lst<|bM bs,bS ws]/\r=.own ((bs.map λj=>ws.getD j 0).map D.int)
theorem zI(n:Nat):fR 0 n=bM (bQ n):=by
 unfold fR bM;refine cK λk _=> ?_
 rw[pI]
theorem aDU{V:List (List Int)}{k:Nat}(h:k<V.length):(V.map bS)[k]? =some (bS<|V.getD k []):=by simp[cG,h]
theorem yW{α:Type}{L:List α}{k:Nat}(d:α)(h:k<L.length):L.take (k+1)=L.take k++[L.getD k d]:=by rw[eF];simp[cG,h]
theorem aFm(d:D)(ds:List D)(p1:pl d=true)(p2:plL ds=true)(hu:X.A.units+1+lI ds<AS):OpR X (AY .NotIn) (λx y H Q=>Rep X.K H (.lst ds) y/\Rep X.K H d x/\Q (.bl<|!ds.any λz=>deq z d) H):=by
 intro pins s σ H x y v u Q I rx ry h;obtain⟨hl,hd,k⟩:=h;obtain⟨a,xs,its,rfl,rfl,rl,rv,ht⟩:=nR I.hok hl ry
 have hat:∀ (j:Nat) (w:BC),its[j]? =some w->∃z v,ds[j]? =some z/\xs[j]? =some v/\Rep X.K H z v/\RelV v w:=λj w hw=>by
  have hj:j<its.length:=(aE.mp hw).1;have hx:j<xs.length:=by rw[Vals.length rv];exact hj
  have hd:j<ds.length:=by rw[<-rl.len];exact hx
  obtain⟨v,hv,rz⟩:=rl.get (i:=j) (d:=ds[j]) (by simp[hd])
  exact ⟨ds[j],v,by simp [hd],hv,rz,by
   have:=rv.get hv;obtain⟨w',hw',r⟩:=this;rw[hw] at hw';cases hw'
   exact r⟩
 have dc:=λw:BC=>Classical.propDecidable (∃ (j:Nat) (z:D),its[j]? =some w/\ds[j]? =some z/\deq z d=true)
 refine SeqAt.notIn_listAt (λw=> @decide _<|dc w) ht (λw hw=> ?_) ⟨.bl _,H,I,rfl, ?_⟩
 ·by_cases q:∃ (j:Nat) (z:D),its[j]? =some w/\ds[j]? =some z/\deq z d=true
  ·obtain⟨j,z,e1,e2,e3⟩:=q;obtain⟨z',v,f1,f2,f3,f4⟩:=hat j w e1;rw[e2] at f1;cases f1;have: @decide _ (dc w)=true:=by rw[decide_eq_true_eq];exact⟨j,z,e1,e2,e3⟩
   rw[this,<-e3];exact tF I.hok z (qZ p2 e2) p1 f3 hd f4 rx (by have:=oR e2;show X.A.units+1+dep z<AS;omega)
  ·have hw':w∈its:=by simpa using hw
   obtain⟨j,hj,rfl⟩:=fA hw';obtain⟨z,v,f1,f2,f3,f4⟩:=hat j its[j] (by simp[hj])
   have e3:deq z d=false:=by
    cases h:deq z d with
    |false=>rfl
    |true=>exact(q ⟨j,z,by simp[hj],f1,h⟩).elim
   have: @decide _ (dc its[j])=false:=by rw[decide_eq_false_iff_not];exact q
   rw[this,<-e3];exact tF I.hok z (qZ p2 f1) p1 f3 hd f4 rx (by have:=oR f1;show X.A.units+1+dep z<AS;omega)
 ·have e:its.toArray.any (λw=> @decide _<|dc w)=ds.any λz=>deq z d:=by
   rw[iE,aLu,iW,iW]
   constructor
   ·rintro⟨w,hw,q⟩;rw[decide_eq_true_eq] at q;obtain⟨j,z,e1,e2,e3⟩:=q;exact⟨z,bA e2,e3⟩
   ·rintro⟨z,hz,e3⟩;obtain⟨j,hj,rfl⟩:=fA hz;have hi:j<its.length:=by rw[<-Vals.length rv,rl.len];exact hj
    exact⟨its[j],iV hi,by rw[decide_eq_true_eq];exact⟨j,ds[j],by simp[hi],by simp[hj],e3⟩⟩
  rw[e];exact k
theorem vL(ha:PEd X sd a (.val d))(hb:PEd X sd b (.val<|.lst ds))(p1:pl d=true)(p2:plL ds=true)(hu:X.A.units+1+lI ds<AS)(hk:AU .NotIn b=false:=by with_unfolding_all rfl):PTd X sd (.Compare a [.NotIn] [b] pos) (!ds.any λz=>deq z d):=
 kM (aFm d ds p1 p2 hu) ha hb trivial hk λσ F H x u Q S q1 q2 k=>⟨Rep.mono S.sub q2,Rep.mono S.sub q1,k F H S<|Same.refl _⟩
variable {es:List D}
theorem RepL.atI{i:Int}(r:RepL K H ds xs)(h:L2.atI ds i=some d):∃v,L2.atI xs i=some v/\Rep K H d v:=by
 unfold L2.atI at h ⊢;rw[r.len];cases e:ixN ds.length i with
 |none=>rw[e] at h;cases h
 |some j=>rw[e] at h;exact r.get h
theorem aKm{i:Int}(ha:PEd X sd a (.bor ds))(hb:PEd X sd b (.val<|.int i))(hd:atI ds i=some d)(hs:lZ b):PEd X sd (.Subscript a b pos) (.val d):=.mk λσ F H S=>
 (aGr aAx eK eK hs).to ((ha σ F H S).imp fun v H1 ⟨F1,S1,s1,q1⟩=>(hb σ F1 H1 S1).imp fun u H2 ⟨F2,S2,s2,q2⟩=>by
  obtain⟨p,xs,e1,hp,rl,_⟩:=ResOk.keep (r:=.bor ds) trivial q1 S2 s2;simp only[ResOk,Rep] at q2;obtain⟨w,hw,rw'⟩:=rl.atI hd
  exact⟨p,xs,i,w,e1,q2,.of hp,hw,F2,S2,s1.trans s2,rw'⟩)
theorem aNw{τ:List Nat}{b:Nat}(h:b<τ.length):(bM τ)[b]? =some (.int ((τ.getD b 0:Nat):Int)):=by unfold bM;rw[aW];simp[cG,h]
theorem wD:∀ {sd:List Slot}{i:Nat}{z:Slot},(cA sd).Nodup->sd[i]? =some z->(fK z).Nodup
 |[],_,_,_,e=>by simp at e
 |y::zs,0,z,h,e=>by
  have:y=z:=by simpa using e
  subst this;exact(bH.mp (show(fK y++cA zs).Nodup from h)).1
 |y::zs,i+1,z,h,e=>wD (sd:=zs) (i:=i) (bH.mp (show(fK y++cA zs).Nodup from h)).2.1 (by simpa using e)
variable {ls:List BE}{nss:List (List Int)}
theorem StF.setX{as:List BE}{G:V->Hp->Hp->Prop}(S:StF K H₀ F H σ sd)(i:Nat)(q:dR K F H (.ox as G) (some v))(nd:as.Nodup)(no:∀a∈as,a∉cA sd):StF K H₀ F H (σ.set i (some v)) (sd.set i<|.ox as G):=
 ⟨S.base,S.sub,S.smp,S.slots.set (z:=.ox as G) q i,(jK (z:=.ox as G) i S.nd (λl e=>.inl<|no l e) nd).1⟩
theorem StF.reX{z z':Slot}{o:Option V}(S:StF K H₀ F H σ sd)(hs:sd[i]? =some z)(ho:σ[i]? =some o)(keep:∀b ob,b∉fK z->H b=some ob->H' b=some ob)(sm:Smp H')(q:dR K F H' z' o)(nd:(fK z').Nodup)(no:∀a∈fK z',a∈fK z\/a∉cA sd):StF K H₀ F H' σ (sd.set i z'):=by
 have S0:=S.le<|gB sd i;have mz:∀a∈fK z,a∈cA sd:=λa ha=>dY.mpr ⟨z,bA hs,ha⟩
 refine⟨S.base,λb u e=> ?_,sm, ?_, ?_⟩
 ·refine keep b u (λhb=> ?_)<|S.sub _ _ e;have:=(S.slots.owns<|mz b hb).1;rw[e] at this;cases this
 ·have q1:SlotsOk K F H' (sd.set i .un) σ:=S0.slots.mono (Same.refl _) λa ha=>⟨(S0.slots.owns ha).1,λob e=>keep a ob (λhb=>gR S.nd hs hb ha) e⟩
  have q2:=q1.set (z:=z') (o:=o) q i;rw[jS,lR ho] at q2;exact q2
 ·have:=jK (z:=z') i S0.nd (fun a ha=>by
   rcases no a ha with h|h
   ·exact .inl<|gR S.nd hs h
   ·exact .inl λhm=>h ((gB sd i).own.subset hm)) nd
  rw[jS] at this;exact this.1
noncomputable def inF(F H:Hp)(as:List BE):Hp:=λb=>if b∈as then H b else F b
theorem aDM{as:List BE}{b:BE}(h:b∈as):inF F H as b=H b:=if_pos h
theorem aDQ{as:List BE}{b:BE}(h:b∉as):inF F H as b=F b:=if_neg h
theorem aLp{as:List BE}(h:∀a∈as,F a=none):Same F (inF F H as):=λb u e=>by rw[aDQ λhb=>by rw[h b hb] at e;cases e];exact e
theorem StF.inN(S:StF K H₀ F H σ sd)(h0:∀a∈l::ls,F a=none)(no:∀a∈l::ls,a∉cA sd):StF K H₀ (inF F H (l::ls)) H σ sd/\Same F (inF F H (l::ls)):=by
 have s1:=aLp (H:=H) h0;refine⟨⟨λb u e=>s1 _ _<|S.base _ _ e,λb u e=> ?_,S.smp,S.slots.mono s1 λa ha=>⟨?_,λob e=>e⟩,S.nd⟩,s1⟩
 ·by_cases h:b∈l::ls
  ·rw[aDM h] at e;exact e
  ·rw[aDQ h] at e;exact S.sub _ _ e
 ·rw[aDQ λhb=>no a hb ha];exact(S.slots.owns ha).1
variable {es:List Expr}{ns:List Int}
theorem aKO(h:Smp H)(a:BE):Smp (upd H a<|.lst xs):=λb u e=>by
 by_cases z:b=a
 ·subst z;rw[bK] at e;cases e;trivial
 ·rw[aV z] at e;exact h _ _ e
noncomputable def InD(K:aA)(F H:Hp):List BE->List (List D)->Prop
 |[],[]=>True
 |a::as,ds::dss=>(∃xs,H a=some (.lst xs)/\RepL K F ds xs)/\InD K F H as dss
 |_,_=>False
theorem InD.len:∀ {as:List BE}{dss:List (List D)},InD K F H as dss->as.length=dss.length
 |[],[],_=>rfl
 |[],_::_,h=>h.elim
 |_::_,[],h=>h.elim
 |_::as,_::dss,h=>by rw[bF,bF,InD.len h.2]
theorem InD.of:∀ {as:List BE}{dss:List (List D)},InD K F H as dss->∀a∈as,∃xs,H a=some (.lst xs)
 |[],[],_,a,ha=>by cases ha
 |[],_::_,h,_,_=>h.elim
 |_::_,[],h,_,_=>h.elim
 |b::as,_::dss,h,a,ha=>by
  rcases bD.mp ha with rfl|ha
  ·exact⟨h.1.choose,h.1.choose_spec.1⟩
  ·exact InD.of h.2 a ha
variable {dss:List (List D)}
theorem InD.mono2:∀ {as:List BE}{dss:List (List D)},InD K F H as dss->Same F F'->(∀a∈as,∀ob,H a=some ob->H' a=some ob)->InD K F' H' as dss
 |[],[],_,_,_=>trivial
 |[],_::_,h,_,_=>h.elim
 |_::_,[],h,_,_=>h.elim
 |a::as,_::dss,h,s,k=>by obtain⟨⟨xs,e,r⟩,h2⟩:=h;exact⟨⟨xs,k a aJ _ e,r.mono s⟩,InD.mono2 h2 s λb hb=>k b<|aF _ hb⟩
theorem InD.get:∀ {as:List BE}{dss:List (List D)}{t:Nat}{a:BE},InD K F H as dss->as[t]? =some a->∃ds xs,dss[t]? =some ds/\H a=some (.lst xs)/\RepL K F ds xs
 |[],[],t,a,_,e=>by simp at e
 |[],_::_,_,_,h,_=>h.elim
 |_::_,[],_,_,h,_=>h.elim
 |b::as,ds::dss,0,a,h,e=>by
  have:b=a:=by simpa using e
  subst this;obtain⟨⟨xs,e1,r⟩,_⟩:=h;exact⟨ds,xs,rfl,e1,r⟩
 |b::as,ds::dss,t+1,a,h,e=>by obtain⟨ms,xs,e1,e2⟩:=InD.get (t:=t) h.2 (by simpa using e);exact⟨ms,xs,by simpa using e1,e2⟩
theorem InD.set:∀ {as:List BE}{dss:List (List D)}{t:Nat}{a:BE}{es:List D}{ys:List V},as.Nodup->InD K F H as dss->as[t]? =some a->RepL K F es ys->InD K F (upd H a<|.lst ys) as (dss.set t es)
 |[],[],t,a,_,_,_,_,e,_=>by simp at e
 |[],_::_,_,_,_,_,_,h,_,_=>h.elim
 |_::_,[],_,_,_,_,_,h,_,_=>h.elim
 |b::as,ds::dss,0,a,es,ys,nd,h,e,r=>by
  have:b=a:=by simpa using e
  subst this;refine⟨⟨ys,bK,r⟩,h.2.mono2 (Same.refl _) λc hc ob q=> ?_⟩;rw[aV (show c≠b from λz=>(bV.mp nd).1<|z▸hc)];exact q
 |b::as,ds::dss,t+1,a,es,ys,nd,h,e,r=>by
  have e':as[t]? =some a:=by simpa using e
  obtain⟨⟨xs,e1,r1⟩,h2⟩:=h;refine⟨⟨xs, ?_,r1⟩,InD.set (bV.mp nd).2 h2 e' r⟩;rw[aV (show b≠a from λz=>(bV.mp nd).1<|z▸bA e')];exact e1
theorem aEb{G:Hp}:∀ {as:List BE}{dss:List (List D)},InD K G G as dss->RepL K G (dss.map D.lst) (as.map V.ref)
 |[],[],_=>.nil
 |[],_::_,h=>h.elim
 |_::_,[],h=>h.elim
 |a::as,ds::dss,h=>by obtain⟨⟨xs,e,r⟩,h2⟩:=h;rw[aZ,aZ];refine .cons ?_<|aEb h2;simp only[Rep];exact⟨a,xs,rfl,e,r⟩
noncomputable def vS(f:Nat->Bool)(A:List (List Int)):Option (List Int):=((bQ A.length).find? f).map λk=>A.getD k []
theorem aCD{f:Nat->Bool}{A:List (List Int)}{k:Nat}(hk:k<A.length)(h:f k=true)(hn:∀j,j<k->f j=false):vS f A=some (A.getD k []):=by
 unfold vS
 have:(bQ A.length).find? f=some k:=by rw[List.find?_range_eq_some];exact⟨h,cX.mpr hk,λj hj=>by rw[hn j hj];rfl⟩
 rw[this];rfl
theorem aCu{f:Nat->Bool}{A:List (List Int)}(hn:∀j,j<A.length->f j=false):vS f A=none:=by unfold vS;rw[List.find?_eq_none.mpr λk hk=>by rw[hn k<|cX.mp hk];simp];rfl
noncomputable def wsD:Option (List<|List Int)->D
 |none=>.non
 |some L=>.lst<|L.map bS
def WsOk(p:Int×Int)(o:Option (List<|List Int)):Prop:=∀L,o=some L->0<L.length/\L.length<=100/\∀ws∈L,Fil p ws
structure aBo(p:Int×Int)(w:List (Option (List<|List Int))):Prop where
 len:w.length=(cB p).length
 ok:∀o∈w,WsOk p o
theorem aOW{w:List (Option (List<|List Int))}{k:Nat}(h:k<w.length):(w.map wsD)[k]? =some (wsD<|w.getD k none):=by simp[cG,h]
theorem aKq(o:Option (List Int)):isN (aOd o)=o.isNone:=by cases o<;>rfl
noncomputable def aOj(w:List (Option (List<|List Int)))(T:List (List Int))(k:Nat):Bool:=match w.getD k none with
 |none=>false
 |some L=> !decide (T.getD k []∈L)
noncomputable def vB(w:List (Option (List<|List Int)))(A T:List (List Int)):Option (List Int):=vS (aOj w T) A
def aMs:List D->R->Prop:=λds r=>∃p w T,p∈bY/\aBo p w/\yQ p T/\ds=[cC p,.lst<|w.map wsD,.tup<|T.map bS]/\r=.val (aOd<|vB w (cB p) T)
def aMn:List D->R->Prop:=λds r=>∃p w T,p∈bY/\aBo p w/\yQ p T/\ds=[cC p,.lst<|w.map wsD,.tup<|T.map bS]/\r=.val (.bl (vB w (cB p) T).isNone)
theorem aBu(L:List (List Int))(t:List Int):((L.map bS).any λz=>deq z<|bS t)=decide (t∈L):=by
 induction L with
 |nil=>simp
 |cons a L ih=>
  rw[aZ,kX,ih,aBx]
  by_cases h:t=a
  ·simp[h]
  ·have h2:¬ a=t:=λq=>h q.symm
   simp[h,h2]
noncomputable def wdQ(bs:List Nat)(f:List Int):List Int:=bs.map λj=>f.getD j 0
theorem aHJ{α β:Type}{xs:List α}{ys:List β}(h:xs.length=ys.length)(x:α)(y:β):(xs++[x]).zip (ys++[y])=xs.zip ys++[(x,y)]:=by rw[aLJ h];rfl
theorem pU{ks:List Key}{k:Key}(hk:k∉ks):∀ {ks':List Key}{xs:List V},(∀j∈ks',j∈ks)->iX (ks'.zip xs) k=none
 |[],_,_=>rfl
 |_::_,[],_=>rfl
 |j::js,x::xs,h=>by rw[dC,gU (p:=(j,x)) (k:=k) (λe=>hk<|(show j=k from e)▸h j aJ)];exact pU hk λi hi=>h i<|aF _ hi
theorem aAO:∀ {ks:List Key}{xs:List V}{n:Nat}{k:Key}{x:V},ks.Nodup->ks[n]? =some k->xs[n]? =some x->iX (ks.zip xs) k=some x
 |[],_,n,_,_,_,h,_=>by simp at h
 |_::_,[],n,_,_,_,_,h=>by simp at h
 |j::js,y::ys,0,k,x,nd,h1,h2=>by
  have e1:j=k:=by simpa using h1
  have e2:y=x:=by simpa using h2
  rw[dC,jT e1,e2]
 |j::js,y::ys,n+1,k,x,nd,h1,h2=>by
  obtain⟨nj,nd⟩:=bV.mp nd;have h1:js[n]? =some k:=by simpa using h1
  have h2:ys[n]? =some x:=by simpa using h2
  rw[dC,gU (p:=(j,y)) (k:=k) (λe=>nj<|(show j=k from e)▸bA h1)];exact aAO nd h1 h2
theorem aGV(h:BG)(vs:List BC)(out:Array BC):(∀b x,h.get? b=some x->(sortedAll h vs out).get? b=some x)/\∃n,(sortedAll h vs out).get? (h.objs.size+1)=some (Aj "list" out n):=by
 have hsz:((h.push<|Aj "list" #[] 0).update h.objs.size (Obj.mapSeq (·++vs.toArray))).objs.size=h.objs.size+1:=by rw[oJ,size_push']
 have hoL:(((h.push<|Aj "list" #[] 0).update h.objs.size (Obj.mapSeq (·++vs.toArray))).push<|Aj "list" vs.toArray 0).get? (h.objs.size+1)=some (Aj "list" vs.toArray 0):=by rw[<-hsz];exact bL _ rfl
 constructor
 ·intro b x g;have lt:=aR g;have n1:h.objs.size≠b:=λz=>absurd lt (by rw[z];exact eL _)
  have n2:h.objs.size+1≠b:=λz=>absurd lt (by rw[<-z];exact pF.mpr<|hW _)
  unfold sortedAll sortedHeap;rw[cU _ _ n2];refine aD _<|aD _ ?_;rw[cU _ _ n2];refine aD _ ?_;rw[cU _ _ n1];exact aD _ g
 ·obtain⟨n1,g1⟩:∃n1,((((h.push<|Aj "list" #[] 0).update h.objs.size (Obj.mapSeq (·++vs.toArray))).push<|Aj "list" vs.toArray 0).update (h.objs.size+1)<|Obj.mapSeq λ_=> #[]).get? (h.objs.size+1)=some (Aj "list" #[] n1):=⟨_,get?_update_seq hoL λ_=> #[]⟩;exact⟨_,get?_update_seq (aD _<|aD _ g1) λ_=>out⟩
noncomputable def exO(l:BE)(o:BH):HO:=.ext λh=>h.get? l=some o
theorem qL{h:BG}{o:BH}(g:h.get? l=some o):ObjOk P w H h l (exO l o):=⟨g,⟨o,g⟩,λ_ _ q k=>k _ q⟩
def TDo(P:AE)(w:AM)(F:Hp)(l:BE)(o:BH)(kvs:List (List Key×V)):Prop:=
 kvs.length<=AL/\(l==AZ)=false/\∃xs,KT F kvs xs/\∃es ep,o.ExactDict/\o.data=.dict es ep/\es.toList=xs.map (entryOfKey (Ah<|eI P w))/\(xs.map (·.1)).Nodup
theorem TDo.mono{o:BH}{kvs:List (List Key×V)}(t:TDo P w F l o kvs)(s:Same F F'):TDo P w F' l o kvs:=by obtain⟨z,y,xs,r,q⟩:=t;exact⟨z,y,xs,r.keeps λb ys e=>s _ _ e,q⟩
theorem KT.all{h:BG}(ok:HOk P w H h){l:List (List Key×V)}{m:List (List Key×BE×BC)}(q:KT H l m):∀x∈m,(Ah<|eI P w).is h x.1 x.2.1:=by
 induction q with
 |nil=>intro x hx;exact nomatch hx
 |@cons p q ps qs hq t ih=>
  intro x hx
  rcases bD.mp hx with e|hx
  ·subst e;exact mM ok (by rw[<-hq.1];exact hq.2.1)
  ·exact ih x hx
noncomputable def kD:Key->D
 |.inl i=>.int i
 |.inr x=>.str x
theorem oM{K:aA}{F:Hp}:∀ {k:List Key}{xs:List V},RepL K F (k.map kD) xs->xs=k.map kV
 |[],xs,r=>by simpa only[eO,RepL] using r
 |a::k,xs,r=>by
  rw[aZ] at r;obtain⟨y,ys,rfl,q,rl⟩:=r.uncons;rw[oM rl,aZ];congr 1;cases a with
  |inl i=>simp only[kD,Rep] at q;exact q
  |inr x=>simp only[kD,Rep] at q;exact q
theorem sT{α β:Type}{xs:List α}{ys:List β}(h:xs.length=ys.length)(x:α)(y:β):(xs++[x]).zip (ys++[y])=xs.zip ys++[(x,y)]:=by rw[aLJ h];rfl
theorem yI{ks:List (List Key)}{k:List Key}(hk:k∉ks):∀ {ks':List (List Key)}{xs:List V},(∀j∈ks',j∈ks)->iX (ks'.zip xs) k=none
 |[],_,_=>rfl
 |_::_,[],_=>rfl
 |j::js,x::xs,h=>by rw[dC,gU (p:=(j,x)) (k:=k) (λe=>hk<|(show j=k from e)▸h j aJ)];exact yI hk λi hi=>h i<|aF _ hi
theorem aDS:∀ {ks:List (List Key)}{xs:List V}{n:Nat}{k:List Key}{x:V},ks.Nodup->ks[n]? =some k->xs[n]? =some x->iX (ks.zip xs) k=some x
 |[],_,n,_,_,_,h,_=>by simp at h
 |_::_,[],n,_,_,_,_,h=>by simp at h
 |j::js,y::ys,0,k,x,nd,h1,h2=>by
  have e1:j=k:=by simpa using h1
  have e2:y=x:=by simpa using h2
  rw[dC,jT e1,e2]
 |j::js,y::ys,n+1,k,x,nd,h1,h2=>by
  obtain⟨nj,nd⟩:=bV.mp nd;have h1:js[n]? =some k:=by simpa using h1
  have h2:ys[n]? =some x:=by simpa using h2
  rw[dC,gU (p:=(j,y)) (k:=k) (λe=>nj<|(show j=k from e)▸bA h1)];exact aDS nd h1 h2
theorem wY:∀ {sd:List Slot}{i:Nat}{z:Slot},(cA sd).Nodup->sd[i]? =some z->(fK z).Nodup
 |[],_,_,_,e=>by simp at e
 |y::zs,0,z,h,e=>by
  have:y=z:=by simpa using e
  subst this;exact(bH.mp (show(fK y++cA zs).Nodup from h)).1
 |y::zs,i+1,z,h,e=>wY (sd:=zs) (i:=i) (bH.mp (show(fK y++cA zs).Nodup from h)).2.1 (by simpa using e)
variable {ks:List (List Key)}
theorem StF.setT{as:List BE}{G:V->Hp->Hp->Prop}(S:StF K H₀ F H σ sd)(i:Nat)(q:dR K F H (.ox as G) (some v))(nd:as.Nodup)(no:∀a∈as,a∉cA sd):StF K H₀ F H (σ.set i (some v)) (sd.set i<|.ox as G):=
 ⟨S.base,S.sub,S.smp,S.slots.set (z:=.ox as G) q i,(jK (z:=.ox as G) i S.nd (λl e=>.inl<|no l e) nd).1⟩
theorem StF.reT{z z':Slot}{o:Option V}(S:StF K H₀ F H σ sd)(hs:sd[i]? =some z)(ho:σ[i]? =some o)(keep:∀b ob,b∉fK z->H b=some ob->H' b=some ob)(sm:Smp H')(q:dR K F H' z' o)(nd:(fK z').Nodup)(no:∀a∈fK z',a∈fK z\/a∉cA sd):StF K H₀ F H' σ (sd.set i z'):=by
 have S0:=S.le<|gB sd i;have mz:∀a∈fK z,a∈cA sd:=λa ha=>dY.mpr ⟨z,bA hs,ha⟩
 refine⟨S.base,λb u e=> ?_,sm, ?_, ?_⟩
 ·refine keep b u (λhb=> ?_)<|S.sub _ _ e;have:=(S.slots.owns<|mz b hb).1;rw[e] at this;cases this
 ·have q1:SlotsOk K F H' (sd.set i .un) σ:=S0.slots.mono (Same.refl _) λa ha=>⟨(S0.slots.owns ha).1,λob e=>keep a ob (λhb=>gR S.nd hs hb ha) e⟩
  have q2:=q1.set (z:=z') (o:=o) q i;rw[jS,lR ho] at q2;exact q2
 ·have:=jK (z:=z') i S0.nd (fun a ha=>by
   rcases no a ha with h|h
   ·exact .inl<|gR S.nd hs h
   ·exact .inl λhm=>h ((gB sd i).own.subset hm)) nd
  rw[jS] at this;exact this.1
theorem nA{o:BH}(h:Smp H)(a:BE):Smp (upd H a<|exO a o):=λb u e=>by
 by_cases z:b=a
 ·subst z;rw[bK] at e;cases e;trivial
 ·rw[aV z] at e;exact h _ _ e
variable {k:List Key}
noncomputable def aGu:BH:={cls:=.type "dict",data:=.dict #[]}
theorem aBA:PE X (.Dict [] [] pos) (λ_ H Q=>∀p,H p=none->(p==AZ)=false->Q (.ref p) (upd H p<|exO p aGu)):=λpins s σ H Q I h=>wpAny_Dict_empty ⟨.ref s.heap.objs.size,_,I.laid (a:=s.heap.objs.size) (o:=exO s.heap.objs.size aGu) (t':=s.toks) (λ_ _ q=>aD _ q) (aN _) (qL<|bL _ rfl),rfl,h _ (I.hok.fresh<|aN _)<|beq_eq_false_iff_ne.mpr (Ne.symm<|bW I.big)⟩
section
variable {prog:AE}{w:AM}{K:Type}[DecidableEq K]{knd:HeapKind prog w K}{A:BF}{E:BC->BD->Prop}{s:BD}
theorem qE{d a:BE}{xs:List (K×BE×BC)}{k:K}{v:BC}{Q:BC->BD->Prop}(hu:knd.room A)(hkey:knd.is s.heap k a)(hm:s.heap.DictOfH knd d xs)
  (hold:∀u,(atKey xs k).map (·.2)=some u->Q u {s with toks:=s.toks+knd.draws k})
  (hnew:atKey xs k=none->∀h',h'.DictOfH knd d (storedH xs k a v)->Heap.SameBut d s.heap h'->Q v {s with heap:=h',toks:=s.toks+knd.draws k})
  (hsz:xs.length<=AL):
  AK (AH prog w) A (dictSetDefault d (.ref a) v) Q E s:=by
 obtain⟨o,es,ep,ho,hc,hd,he,his,hn⟩:=hm;unfold dictSetDefault
 try with_reducible refine AV ?_
 refine AA<|knd.pyHash hu hkey ?_;refine AA<|wpAny_dictFind_heap (s:={s with toks:=s.toks+knd.draws k}) hu hkey ho hd he his hn ?_ ?_
 ·intro hno;have hnot:k∉xs.map (·.1):=not_mem_keys_of_get hno
  refine AA (Az (AA (wpAny_updateDictKeys (hz:=by have e:=Av he; omega) (s:={s with toks:=s.toks+knd.draws k}) ho hd (AC (hnew (atKey_none_of_get hno) _ ⟨_,_,ep+1,gA _ ho (Obj.isFreed_of_dict (Obj.data_mapDictKeys hd _)),
   hc.mapDictKeys _,Obj.data_mapDictKeys hd _, ?_, ?_, ?_⟩ (Heap.SameBut.update ..))))))
  ·rw[storedH_new<|atKey_none_of_get hno];simp[he,entryOfKey]
  ·rw[storedH_new<|atKey_none_of_get hno];intro x hx
   rcases aS.mp hx with hx|hx
   ·exact knd.keeps (his x hx) ho hd<|Heap.SameBut.update ..
   ·simp only[aI] at hx;subst hx;exact knd.keeps hkey ho hd<|Heap.SameBut.update ..
  ·rw[storedH_new<|atKey_none_of_get hno];rw[aX,bH];refine⟨hn,by simp, ?_⟩;intro x hx y hy;simp only[aZ,eO,aI] at hy;subst hy;exact λe=>hnot<|e▸hx
 ·intro j p hj;refine AA<|An (s:={s with toks:=s.toks+knd.draws k}) ho hd ?_;rw[entry_at he j,hj];have:=hold p.2 (by rw[atKey_of_get hn hj];rfl);exact AA (Az<|AC this)
end
section
variable {prog:AE}{w:AM}{K:Type}[DecidableEq K](knd:HeapKind prog w K)(d a:BE)
theorem sC(hd:(d==AZ)=false)(dflt:BC):
  MeetsIn prog w (Builtin.«dict.setdefault» ⟨[.ref d, .ref a,dflt],[]⟩) (fun A R s=>knd.room A.in1∧∃k xs,knd.is s.heap k a∧s.heap.DictOfH knd d xs∧xs.length≤AL∧
   (∀u,(atKey xs k).map (·.2)=some u->R (.ok<|.ret u) {s with toks:=s.toks+knd.draws k})/\
   (atKey xs k=none->∀h',h'.DictOfH knd d (storedH xs k a dflt)->Heap.SameBut d s.heap h'->R (.ok (.ret dflt)) {s with heap:=h',toks:=s.toks+knd.draws k})):=
 .of_wp λA R s ⟨hu,k,xs,hkey,hm,hz,h1,h2⟩=>by unfold Builtin.«dict.setdefault»;refine AA ?_;unfold Builtin.Dict.keyAndDefault;refine AA<|Aw hm.typeIs ?_;show AK _ _ (pure (d,Value.ref a,some dflt)) _ _ s;refine AC ?_;show AK _ _ (if(d==AZ)=true then _ else(dictSetDefault d (.ref a) dflt>>=_)) _ _ s;rw[if_neg<|by rw[hd];exact bE];exact AA<|qE (hsz:=hz) hu hkey hm (λv hv=>AC ⟨v,rfl,h1 v hv⟩) λhn h' hm' hs'=>AC ⟨dflt,rfl,h2 hn h' hm' hs'⟩
end
section
variable {X:Cx}{o e:Expr}{es:List Expr}{to:TE}{t:TA}{name:Str}{apos cpos:Pos}{id:String}{r:V->List V->Hp->VK->Prop}
theorem aMm(pa:PlainAttrs "dict")(slot:PySem.Slot "dict" name id)(hty:typeOf (.builtin id)=pure (.type "method_descriptor"))(hm:MtR X id r)(ho:PE X o to)(ha:PA X (e::es) t)
  (hbase:Af o name X.env (eval o X.env)=eval o X.env:=by rfl)
  (hfew:((AX cpos (AB (e::es) X.env)).all (fun x=> !x.1) && (backToKw cpos (keywordEach [] X.env)).all (fun x=>x.1.isSome)
  &&decide ((e::es).length+([]:List Keyword).length+(if([]:List Keyword).isEmpty then 0 else 1)<30))=true:=by rfl)
  (hline:(apos.endLine==cpos.line)=true:=by rfl) (hs:AB (e::es) X.env=(false,eval e X.env)::AB es X.env:=by rfl) (hplain:(AX cpos<|AB es X.env).any (·.1)=false:=by rfl):
  PE X (.Call (.Attribute o name apos) (e::es) [] cpos) (λσ H Q=>to σ H λx H1=>(∃l ob,x=.ref l/\H1 l=some (exO l ob)/\ob.ExactDict)/\t σ H1 λxs H2=>r x xs H2 Q):=by
 intro pins s σ H Q I h;refine wpAny_Call_method_late hbase hfew hline rfl<|thn (ho pins s σ H _ I h) λv s1 ⟨x,H1,I1,r1,⟨l,ob,e1,e2,e3⟩,q1⟩=> ?_;subst e1;obtain rfl:v=Value.ref l:=r1;have hg:s1.heap.get? l=some ob:=(I1.hok l _ e2).1;refine⟨"dict",id,pa,slot,hty,⟨ob,hg,e3.1⟩,λa q=> ?_, ?_⟩
 ·cases q;exact⟨ob,hg,e3.2.1⟩
 have hA:=ha cpos pins s1 σ H1 _ I1 q1;rw[hs] at hA ⊢;refine Calls.callWith_builtin (by show(false||(AX cpos<|AB es X.env).any (·.1))=false;rw[hplain]<;>rfl)<|Calls.evalArgs_plain ?_;exact thn hA λus s2 ⟨vs,H2,I2,r2,q2⟩=>hm pins s2 σ H2 (.ref l) vs (.ref l) us Q I2 rfl r2 q2
def rSD(X:Cx):V->List V->Hp->VK->Prop:=λx vs H Q=>∃ (F:Hp) (l ad:BE) (k:List Key) (y:V) (o:BH) (kvs:List (List Key×V)),x=.ref l/\vs=[.ref ad,y]/\Same F H/\H l=some (exO l o)/\F ad=some (.tup<|k.map kV)/\X.A.units+1<AS/\
 TDo X.prog X.w F l o kvs/\kvs.length+1<=AL/\(∀z,iX kvs k=some z->Q z H)/\(iX kvs k=none->∀o',(∀v,o'.data≠ .cell v)->TDo X.prog X.w F l o' (kvs++[(k,y)])->Q y (upd H l<|exO l o'))
theorem aOY:MtR X "dict.setdefault" (rSD X):=by
 intro pins s σ H x vs v us Q I rx rv h;obtain⟨F,l,ad,k,y,o,kvs,rfl,rfl,sF,hl,ha,hu,⟨z,hm,ts,kt,es,ep,t1,t2,t3,t4⟩,hz1,q1,q2⟩:=h;obtain rfl:v=Value.ref l:=rx;cases rv with
 |cons r1 rv=>
  obtain⟨u,rfl,ru⟩:=Vals.one rv;rename_i b;obtain rfl:b=Value.ref ad:=r1;have ho:s.heap.get? l=some o:=(I.hok l _ hl).1;have ktH:KT H kvs ts:=kt.keeps λb ys e=>sF _ _ e
  have dd:s.heap.DictOfH (Ah<|eI X.prog X.w) l ts:=⟨o,es,ep,ho,t1,t2,t3,KT.all I.hok ktH,t4⟩;have hz:ts.length<=AL:=by rw[<-Paired.length kt];exact z
  refine call_meetsIn uK dd.typeIs PySem.F.entry_dict_setdefault (PySem.F.args_dict_setdefault_3 _ _ _) (sC (Ah<|eI X.prog X.w) l ad hm u) ⟨Ae hu,k,ts,mM I.hok<|sF _ _ ha,dd,hz,λw' hw=> ?_,λhn h' dd' hsm=> ?_⟩
  ·have rl:=ktH.val k;rw[hw] at rl;cases hv:iX kvs k with
   |none=>rw[hv] at rl;cases rl
   |some z'=>rw[hv] at rl;exact⟨z',H,I.tok _,rl,q1 z' hv⟩
  ·have hn':iX kvs k=none:=by
    have rl:=ktH.val k;rw[hn] at rl;cases hv:iX kvs k with
    |none=>rfl
    |some z'=>rw[hv] at rl;cases rl
   obtain⟨q,es',ep',hq,u2,u3,u4,_,u5⟩:=dd';have I4:=pO (t':=s.toks+(Ah<|eI X.prog X.w).draws k) I (ob:=exO l q) (by rw[hl];exact True.intro) hsm ⟨q,hq⟩<|qL hq;have kt':=kt.put k ha ru;rw[rY y hn'] at kt';exact⟨y,_,I4,ru,q2 hn' q (λv z=>by rw[u3] at z;cases z) ⟨by rw[aH];exact hz1,hm,_,kt',es',ep',u2,u3,u4,u5⟩⟩
end
def Gg(P:AE)(w:AM)(K:aA)(l:BE)(ks:List (List Key))(ls:List BE)(dss:List (List D)):V->Hp->Hp->Prop:=λv F H=>v=.ref l/\(∃o,H l=some (exO l o)/\(∀v,o.data≠ .cell v)/\ks.length=ls.length/\TDo P w F l o (ks.zip<|ls.map V.ref))/\InD K F H ls dss
noncomputable def odG(P:AE)(w:AM)(K:aA)(l:BE)(ks:List (List Key))(ls:List BE)(dss:List (List D)):Slot:=.ox (l::ls)<|Gg P w K l ks ls dss
noncomputable def goR(P:AE)(w:AM)(K:aA)(ks:List (List Key))(dss:List (List D)):R:=.ox λv as F H=>∃l ls,as=l::ls/\Gg P w K l ks ls dss v F H
def Gf(P:AE)(w:AM)(K:aA)(ks:List (List Key))(ds:List D):V->Hp->Hp->Prop:=λv F _=>∃l o xs,v=.ref l/\F l=some (exO l o)/\RepL K F ds xs/\ks.length=ds.length/\TDo P w F l o (ks.zip xs)
noncomputable def odF(P:AE)(w:AM)(K:aA)(ks:List (List Key))(ds:List D):Slot:=.ox []<|Gf P w K ks ds
theorem zC:∀ {ks:List (List Key)}{xs:List V}{k:List Key}{z:V},iX (ks.zip xs) k=some z->∃n:Nat,ks[n]? =some k/\xs[n]? =some z
 |[],_,_,_,h=>by cases h
 |_::_,[],_,_,h=>by cases h
 |j::js,y::ys,k,z,h=>by
  rw[dC] at h
  by_cases e:j=k
  ·rw[jT (p:=(j,y)) e] at h;exact⟨0,by simp[e],by simpa using h⟩
  ·rw[gU (p:=(j,y)) (k:=k) e] at h;obtain⟨n,h1,h2⟩:=zC h;exact⟨n+1,by simpa using h1,by simpa using h2⟩
theorem aEu:∀ {ks:List (List Key)}{xs:List V}{k:List Key},ks.length=xs.length->iX (ks.zip xs) k=none->k∉ks
 |[],_,_,_,_=>by simp
 |_::_,[],_,h,_=>by cases h
 |j::js,y::ys,k,hl,h=>by
  rw[dC] at h
  by_cases e:j=k
  ·rw[jT (p:=(j,y)) e] at h;cases h
  ·rw[gU (p:=(j,y)) (k:=k) e] at h;have:=aEu (Nat.succ.inj hl) h;exact λhm=>(bD.mp hm).elim (λq=>e q.symm) this
theorem aEW{z:Slot}(h:sd[i]? =some z):sd.set i z=sd:=by obtain⟨hi,e⟩:=aE.mp h;rw[<-e,pX]
theorem iD(S:StF K H₀ F H σ sd)(hs:sd[i]? =some (odG P w K l ks ls dss)):σ[i]? =some (some<|.ref l)/\(∀a∈l::ls,F a=none)/\(∃o,H l=some (exO l o)/\(∀v,o.data≠ .cell v)/\ks.length=ls.length/\TDo P w F l o (ks.zip<|ls.map V.ref))/\InD K F H ls dss/\(l::ls).Nodup:=by
 obtain⟨o,h1,v,h2,h3,h4⟩:=S.slots.get hs;obtain⟨e,q1,q2⟩:=h4 F H (Same.refl _) λ_ _ _ q=>q
 subst e h2;exact⟨h1,λa ha=>(h3 a ha).1,q1,q2,wD S.nd hs⟩
theorem wO{o:BH}(hF:∀a∈l::ls,F a=none)(h1:H l=some (exO l o))(nc:∀v,o.data≠ .cell v)(hl:ks.length=ls.length)(t:TDo P w F l o (ks.zip<|ls.map V.ref))(h2:InD K F H ls dss):dR K F H (odG P w K l ks ls dss) (some<|.ref l):=by
 refine⟨.ref l,rfl,λa ha=>⟨hF a ha, ?_⟩,λF' H' s k=>⟨rfl,⟨o,k _ aJ _ h1,nc,hl,t.mono s⟩,h2.mono2 s λa ha=>k a<|aF _ ha⟩⟩
 rcases bD.mp ha with rfl|ha
 ·exact⟨_,h1,o,rfl,nc⟩
 ·obtain⟨xs,e⟩:=h2.of a ha;exact⟨.lst xs,e,trivial⟩
theorem StF.wrG{t:Nat}{a:BE}{es:List D}{ys:List V}(S:StF K H₀ F H σ sd)(hs:sd[i]? =some (odG P w K l ks ls dss))(ht:ls[t]? =some a)(r:RepL K F es ys):StF K H₀ F (upd H a<|.lst ys) σ (sd.set i (odG P w K l ks ls<|dss.set t es)):=by
 obtain⟨g1,g2,⟨o,g3,nc,hl,td⟩,g4,g5⟩:=iD S hs;obtain⟨n1,n2⟩:=bV.mp g5;have ma:=bA ht
 refine S.reX (z':=odG P w K l ks ls (dss.set t es)) hs g1 (fun b ob hb q=> ?_) (aKO S.smp a) (wO g2 (by
  rw[aV (show l≠a from λz=>n1<|z▸ma)]
  exact g3) nc hl td (g4.set n2 ht r)) g5 λb hb=>.inl hb
 rw[aV (show b≠a from λz=>hb<|z▸aF _ ma)];exact q
theorem InD.snoc{a:BE}:∀ {as:List BE}{dss:List (List D)},InD K F H as dss->H a=some (.lst [])->InD K F H (as++[a]) (dss++[[]])
 |[],[],_,e=>⟨⟨[],e,.nil⟩,trivial⟩
 |[],_::_,h,_=>h.elim
 |_::_,[],h,_=>h.elim
 |_::_,_::_,h,e=>⟨h.1,InD.snoc h.2 e⟩
theorem StF.newG{a:BE}{o:BH}(S:StF K H₀ F H σ sd)(hs:sd[i]? =some (odG P w K l ks ls dss))(fa:F a=none)(ha:H a=some (.lst []))(na:a∉cA sd)(nc:∀v,o.data≠ .cell v)(td:TDo P w F l o (ks.zip (ls.map V.ref)++[(k,.ref a)])):
  StF K H₀ F (upd H l<|exO l o) σ (sd.set i (odG P w K l (ks++[k]) (ls++[a])<|dss++[[]])):=by
 obtain⟨g1,g2,⟨o',g3,nc',hl,_⟩,g4,g5⟩:=iD S hs;obtain⟨n1,n2⟩:=bV.mp g5;have ml:∀b∈l::ls,b∈cA sd:=λb hb=>dY.mpr ⟨_,bA hs,hb⟩
 have al:a≠l:=λz=>na<|z▸ml l aJ
 have als:a∉ls:=λz=>na (ml a<|aF _ z)
 have sp:∀b,b∈l::(ls++[a])->b∈l::ls\/b=a:=λb hb=>by
  rcases bD.mp hb with h|h
  ·exact .inl<|h▸aJ
  ·rcases aS.mp h with h|h
   ·exact .inl<|aF _ h
   ·exact .inr<|aI.mp h
 refine S.reX (z':=odG P w K l (ks++[k]) (ls++[a])<|dss++[[]]) hs g1 (λb ob hb q=> ?_) (nA S.smp l) (wO (λb hb=> ?_) bK nc (by rw[aH,aH,hl];rfl) ?_ ?_) ?_ λb hb=> ?_
 ·rw[aV (show b≠l from λz=>hb<|z▸aJ)];exact q
 ·rcases sp b hb with h|rfl
  ·exact g2 b h
  ·exact fa
 ·rw[aX,aZ,eO,sT<|by rw[aC];exact hl];exact td
 ·refine InD.snoc (g4.mono2 (Same.refl _) λb hb ob q=> ?_) ?_
  ·rw[aV (show b≠l from λz=>n1<|z▸hb)];exact q
  ·rw[aV al];exact ha
 ·show(l::(ls++[a])).Nodup;refine bV.mpr ⟨λh=> ?_,bH.mpr ⟨n2,by simp,λb hb c hc e=>als<|aI.mp hc▸e▸hb⟩⟩
  rcases aS.mp h with h|h
  ·exact n1 h
  ·exact al (aI.mp h).symm
 ·rcases sp b hb with h|rfl
  ·exact .inl h
  ·exact .inr na
theorem zL(i:Nat){x:Str}{p p2:Pos}(hN:X.N.Nodup)(hi:X.N[i]? =some x)(hx:Loc X.env.scope x)(hE:∀l,E.nx (sd.set i<|odG X.prog X.w X.K l [] [] []))(hs:Ab (.Dict [] [] p2) (some<|.Name x p) pos.line X.env=pure false:=by rfl)
  (hf:X.fn x=true\/X.env.scope.names.lookup x=some .local:=by first|exact .inl rfl|exact .inr rfl|assumption):PSd1 X sd (.Assign [.Name x p] (.Dict [] [] p2) pos) E:=.mk λσ F H S=>
 (qM hN hi hx aBA hs hf).to λq hq hm=>by
  have fp:F q=none:=S.sub.free hq
  have no:q∉cA sd:=λhl=>by obtain⟨_,ob,h,_⟩:=S.slots.owns hl;rw[hq] at h;cases h
  have S1:StF X.K X.B₀ F (upd H q<|exO q aGu) σ sd:=by
   refine⟨S.base,λb u e=> ?_,nA S.smp q,S.slots.mono (Same.refl _) λl hl=> ?_,S.nd⟩
   ·rw[aV<|cJ e fp];exact S.sub _ _ e
   ·obtain⟨n,ys,y,_⟩:=S.slots.owns hl;have hne:l≠q:=cJ y hq;exact⟨n,λys e=>by rw[aV hne];exact e⟩
  refine⟨_,F,S1.setT i (wO (P:=X.prog) (w:=X.w) (K:=X.K) (ks:=[]) (ls:=[]) (dss:=[]) (λa ha=>by rw[aI.mp ha];exact fp) bK (λv z=>by cases z) rfl ⟨cP _,hm,[],.nil, #[],0,⟨rfl,rfl,rfl⟩,rfl,rfl,cR⟩ trivial) (by simp) λa ha=> ?_,Same.refl _,hE q⟩;rw[aI.mp ha];exact no
theorem zF(i:Nat){x:Str}{p ap1 cp1 p5 ap cp:Pos}(hu:X.A.units+1<AS)(hs:sd[i]? =some (odG X.prog X.w X.K l ks ls dss))(hx:PE X (.Name x p) (iT i))(hb:PEd X sd b (.val (.tup<|k.map kD)))(h:∀z,PEd X (sd.set i z) e<|.val d)(hl:dss.length<=10000)(hl2:∀ds∈dss,ds.length<=10000)
  (hE1:∀n ds,ks[n]? =some k->dss[n]? =some ds->E.nx (sd.set i<|odG X.prog X.w X.K l ks ls (dss.set n<|ds++[d])))
  (hE2:k∉ks->∀a,E.nx<|sd.set i (odG X.prog X.w X.K l (ks++[k]) (ls++[a])<|dss++[[d]]))
  (hm:PE X (.Call (.Attribute (.Call (.Attribute (.Name x p) "setdefault" ap1) [b, .List [] p5] [] cp1) "append" ap) [e] [] cp)
   (tBM X.K "list" uS (λσ H Q=>iT i σ H λx H1=>(∃l ob,x=.ref l/\H1 l=some (exO l ob)/\ob.ExactDict)/\(oP (wE X b) (oP (wE X (.List [] p5)) aGi)) σ H1 λxs H2=>rSD X x xs H2 Q) (oP (wE X e) aGi)):=by exact aJH nG yG yH zQ (aMm zW uK PySem.F.type_dict_setdefault aOY (pv _) (dA eK (dA eK pa_nil))) (dA eK pa_nil))
  (hsw:Ab (.Call (.Attribute (.Call (.Attribute (.Name x p) "setdefault" ap1) [b, .List [] p5] [] cp1) "append" ap) [e] [] cp) none pos.line X.env=pure false:=by rfl):
  PSd1 X sd (.Expr (.Call (.Attribute (.Call (.Attribute (.Name x p) "setdefault" ap1) [b, .List [] p5] [] cp1) "append" ap) [e] [] cp) pos) E:=.mk λσ F H S=>
 (uO hm hsw).to (by
  obtain⟨h1,h2,⟨o,h3,nc,hk,td⟩,h4,h5⟩:=iD S hs;have il:i<sd.length:=(aE.mp hs).1
  have fin:∀ (F2 H2:Hp) (ks2:List (List Key)) (ls2:List BE) (dss2:List (List D)) (n:Nat) (ad:BE) (ds:List D),StF X.K X.B₀ F2 H2 σ (sd.set i<|odG X.prog X.w X.K l ks2 ls2 dss2)->Same F F2->ls2[n]? =some ad->dss2[n]? =some ds->ds.length<=10000->E.nx (sd.set i<|odG X.prog X.w X.K l ks2 ls2 (dss2.set n<|ds++[d]))->
    tyV X.K "list" (.ref ad) H2/\(oP (wE X e) aGi) σ H2 λxs H3=>uS (.ref ad) xs H3 λ_ H4=>(lft X F E).nx σ H4:=λF2 H2 ks2 ls2 dss2 n ad ds S2 s2 hn hd hdl hE=>by
   have hs2:(sd.set i<|odG X.prog X.w X.K l ks2 ls2 dss2)[i]? =some (odG X.prog X.w X.K l ks2 ls2 dss2):=kA il;obtain⟨g1,g2,_,g4,g5⟩:=iD S2 hs2;obtain⟨ds',xs,e1,e2,e3⟩:=g4.get hn;refine⟨.inl ⟨rfl,xs,.of e2⟩,(h _ σ F2 H2 S2).imp λv H3 ⟨F3,S3,s3,q3⟩=> ?_⟩;obtain⟨f1,f2,_,f4,f5⟩:=iD S3 hs2;obtain⟨ds3,xs3,u1,u2,u3⟩:=f4.get hn;rw[hd] at u1;cases u1;have W:=S3.wrG (es:=ds++[d]) (ys:=xs3++[v]) hs2 hn (u3.app<|.one q3);rw[jS] at W;exact⟨ad,xs3,v,rfl,rfl,u2,by rw[u3.len] ;exact eX hdl,_,F3,W,s2.trans s3,hE⟩
  refine⟨.ref l,h1,⟨l,o,rfl,h3,td.2.2.choose_spec.2.choose_spec.choose_spec.1⟩,(hb σ F H S).imp λv1 H1 ⟨F1,S1,s1,q1⟩=>((sX (ds:=[]) aK (cP _):PEd X sd (.List [] p5) (.own [])) σ F1 H1 S1).imp λv2 H2 ⟨F2,S2,s2,q2⟩=> ?_⟩;obtain⟨g1,g2,⟨o2,g3,nc2,hk2,td2⟩,g4,g5⟩:=iD S2 hs;simp only[ResOk,Rep] at q1;obtain⟨ad,ys,rfl,ha,rl⟩:=q1;rw[oM rl] at ha;obtain⟨a,xs,rfl,fa,ha2,rl2,na⟩:=q2;have xn:xs=[]:=gY (by rw[rl2.len];rfl);subst xn;have zl:(ks.zip<|ls.map V.ref).length=dss.length:=by rw[jQ,aC,<-hk2,pG,hk2,g4.len]
  refine⟨F2,l,ad,k,.ref a,o2,ks.zip<|ls.map V.ref,rfl,rfl,S2.sub,g3,s2 _ _ ha,hu,td2,by rw[zl];have:=eX hl;omega,λz hz=> ?_,λhz o' nc' td'=> ?_⟩
  ·obtain⟨n,e1,e2⟩:=zC hz;rw[aW] at e2;obtain⟨an,e3,rfl⟩:=eY.mp e2;obtain⟨ds,xs,d1,d2,d3⟩:=g4.get e3;have S2':StF X.K X.B₀ F2 H2 σ (sd.set i<|odG X.prog X.w X.K l ks ls dss):=by rw[aEW hs];exact S2
   exact fin F2 H2 ks ls dss n an ds S2' (s1.trans s2) e3 d1 (hl2 ds<|bA d1)<|hE1 n ds e1 d1
  ·have S3:=S2.newG hs fa ha2 na nc' td';have hE:=hE2 (aEu (by rw[aC];exact hk2) hz) a;have en:(dss++[[]]).set dss.length ([]++[d])=dss++[[d]]:=by simp
   exact fin F2 _ (ks++[k]) (ls++[a]) (dss++[[]]) dss.length a [] S3 (s1.trans s2) (by rw[<-g4.len];simp) (by simp) (cP _) (by rw[en];exact hE))
theorem aGU(i:Nat){x:Str}{p:Pos}{as:List BE}{G:V->Hp->Hp->Prop}{G':V->List BE->Hp->Hp->Prop}(hs:sd[i]? =some (.ox as G))(hx:PE X (.Name x p) (iT i))(hG:∀v F H,G v F H->G' v as F H)(hE:E.rt (.ox G')):PSd1 X sd (.Return (some<|.Name x p) pos) E:=.mk λσ F H S=>
 (tG hx).to (by
  obtain⟨o,h1,v,h2,h3,h4⟩:=S.slots.get hs
  exact⟨v,by rw[h1,h2],.ox G',⟨F,S.base,S.sub,S.smp,as,wY S.nd hs,λl hl=>⟨(h3 l hl).1,(h3 l hl).2,by simp[cA]⟩,λF' H' s k=>hG _ _ _ (h4 F' H' s k)⟩,hE⟩)
theorem aFO(i:Nat){x:Str}{p:Pos}(hN:X.N.Nodup)(hi:X.N[i]? =some x)(hx:Loc X.env.scope x)(h:PEd X sd e (goR X.prog X.w X.K ks dss))(hE:E.nx (sd.set i (odF X.prog X.w X.K ks<|dss.map D.lst)))(hs:Ab e (some<|.Name x p) pos.line X.env=pure false:=by rfl)
  (hf:X.fn x=true\/X.env.scope.names.lookup x=some .local:=by first|exact .inl rfl|exact .inr rfl|assumption):PSd1 X sd (.Assign [.Name x p] e pos) E:=.mk λσ F H S=>
 (qM hN hi hx eK hs hf).to ((h σ F H S).imp fun v H' ⟨F',S',s',as,nd,q,g⟩=>by
  obtain⟨l,ls,rfl,rfl,⟨o,g1,nc,hk,td⟩,g2⟩:=g F' H' (Same.refl _) λ_ _ _ z=>z
  obtain⟨S2,s2⟩:=S'.inN (λa ha=>(q a ha).1) λa ha=>(q a ha).2.2
  have r2:RepL X.K (inF F' H' (l::ls)) (dss.map D.lst) (ls.map V.ref):=aEb (g2.mono2 s2 fun a ha ob e=>by
   rw[aDM<|aF _ ha]
   exact e)
  have f1:(inF F' H' (l::ls)) l=some (exO l o):=by rw[aDM aJ];exact g1
  refine⟨_,_,S2.setX (as:=[]) i (v:=.ref l) ⟨.ref l,rfl,λa ha=>(nomatch ha),λF2 H2 s3 _=>⟨l,o,ls.map V.ref,rfl,s3 _ _ f1,r2.mono s3,by rw[aC,hk,g2.len],(td.mono s2).mono s3⟩⟩ cR λa ha=>(nomatch ha),s'.trans s2,hE⟩)
theorem aHA(i:Nat){x:Str}{p:Pos}{n:Nat}(hu:X.A.units+1<AS)(hs:sd[i]? =some (odF X.prog X.w X.K ks ds))(hx:PE X (.Name x p) (iT i))(hb:PEd X sd b (.val (.tup<|k.map kD)))(hn:ks.Nodup)(hk:ks[n]? =some k)(hd:ds[n]? =some d)(hsl:aOg b):PEd X sd (.Subscript (.Name x p) b pos) (.val d):=.mk λσ F H S pins s I=>by
 obtain⟨ov,h1,v0,h2,_,h4⟩:=S.slots.get hs;obtain⟨l,o0,xs0,rfl,_⟩:=h4 F H (Same.refl _) λ_ _ _ q=>q
 subst h2;refine aDV xU.lookup hsl<|thn (hx pins s σ H (λv H1=>v=.ref l/\H1=H) I ⟨.ref l,h1,rfl,rfl⟩) λu s1 ⟨y,H1,I1,ry,e1,e2⟩=> ?_;subst e1 e2;obtain rfl:u=Value.ref l:=ry;refine thn (hb σ F H1 S pins s1 I1) λiv s2 ⟨y,H2,I2,ry,F2,S2,sF,q2⟩=> ?_
 obtain⟨ov,j1,v1,j2,_,j4⟩:=S2.slots.get hs;obtain⟨l',o,xs,el,g3,g4,g5,z,hm,ts,kt,es,ep,t1,t2,t3,t4⟩:=j4 F2 H2 (Same.refl _) λ_ _ _ q=>q
 subst j2 el;rw[h1] at j1;cases j1;simp only[ResOk,Rep] at q2;obtain⟨ad,ys,rfl,ha,rl⟩:=q2;rw[oM rl] at ha;obtain rfl:iv=Value.ref ad:=ry;have ho:s2.heap.get? l=some o:=(I2.hok l _<|S2.sub _ _ g3).1;have ktH:KT H2 (ks.zip xs) ts:=kt.keeps λb ys e=>S2.sub _ _ e
 have dd:s2.heap.DictOfH (Ah<|eI X.prog X.w) l ts:=⟨o,es,ep,ho,t1,t2,t3,KT.all I2.hok ktH,t4⟩;obtain⟨v,hv,rv⟩:=g4.get hd;obtain⟨w',hw,rw'⟩:=RelO.some_of (v:=v) (o:=(atKey ts k).map (·.2)) (by rw[<-aDS hn hk hv];exact ktH.val k);obtain⟨pr,hp,hp2⟩:=eY.mp hw;refine⟨dd.typeIs,wpAny_getItem_heap (Ae hu) (mM I2.hok<|S2.sub _ _ ha) dd hp ?_⟩;rw[hp2];exact⟨v,H2,I2.tok _,rw',F2,S2,sF,rv⟩
noncomputable def xI(p:Int×Int)(ws:List Int):Nat:=(uE (2^p.1.toNat) ws).toNat
theorem aDO{p:Int×Int}(hp:p∈bY){ws:List Int}(G:Fil p ws):uE (2^p.1.toNat) ws=(xI p ws:Int)/\xI p ws<(cB p).length/\(cB p).getD (xI p ws) []=ws:=by have h:=aIt<|aMj p hp;obtain⟨a,b,c⟩:=aNh h G.len G.wd;refine⟨by unfold xI;omega, ?_,c⟩;show _<(iB _ _).length;rw[h.len];exact b
theorem aIK{p:Int×Int}(hp:p∈bY)(hi:i<(cB p).length):xI p ((cB p).getD i [])=i:=by
 have h:=aIt<|aMj p hp;have hi':i<2^(p.1.toNat*p.2.toNat):=by rw[<-h.len];exact hi
 have:=(h.at_ i hi').2.2.1;unfold xI;show(uE (2^p.1.toNat)<|(iB (2^p.1.toNat) p.2.toNat).getD i []).toNat=i;rw[this];exact dI i
theorem aIE{p:Int×Int}(hp:p∈bY){L:List SK}(S:StkOk p L){row:List Nat}(h:∀t∈row,t<L.length):yQ p (tabQ p L row):=⟨aHM p L row,aHC hp S h⟩
def aOH(A:BF)(s:BD)(x y:BC)(b:Bool):Prop:=∀ (prog:AE) (w:AM) (E:BC->BD->Prop) (Q:BC->BD->Prop),Q (.bool b) s->AK (AH prog w) A (richCompare .Lt x y) Q E s
inductive aGh(A:BF)(s:BD)(fin:Bool):List (BC×BC)->Bool->Prop
 |nil:aGh A s fin [] fin
 |eq {x y:BC}{r:List (BC×BC)}{b:Bool}:SeqAt.EqAt A.in1 s x y true->aGh A s fin r b->aGh A s fin ((x,y)::r) b
 |lt {x y:BC}{r:List (BC×BC)}{b:Bool}:SeqAt.EqAt A.in1 s x y false->aOH A.in1 s x y b->aGh A s fin ((x,y)::r) b
section
open PySem.SeqAt
open PySem.AutoSeq1 (wpAny_loadPart')
open PySem.MeetsSeq PySem.MeetsSeq2 PySem.MeetsSeq3
theorem aAc(l b:BE)(items items2:Array BC)(n n2:Nat)(dd dd2:Option BE)(sl sl2:Array (Option BC))(res:Bool):
  Meets (Builtin.«tuple.__lt__» ⟨[.ref l,.ref b],[]⟩)
   (fun A R s=>s.heap.get? l=some {cls:= .type "tuple",dict:=dd,data:= .seq items n,slots:=sl}∧s.heap.get? b=some {cls:= .type "tuple",dict:=dd2,data:= .seq items2 n2,slots:=sl2}∧
    aGh A s (decide (items.size<items2.size)) (items.toList.zip items2.toList) res/\R (.ok (.ret (.bool res))) s):=
 .of_wp λprog w A R s h=>by
  obtain⟨hp,g,d,tk,os⟩:=s;obtain⟨hl,hb,hx,h⟩:=h;have f2:=AutoSeq1.sub_tuple_tuple
  wp_walk using wpAny_loadPart' hl,wpAny_loadPart' hb,wpAny_forIn_list _ (λrest b s'=>b.1=none/\s'=⟨hp,g,d,tk,os⟩/\aGh A ⟨hp,g,d,tk,os⟩ (decide<|items.size<items2.size) rest res) _
  case turn=>
   rintro⟨y,x⟩ rest b s' ⟨hb',rfl,hv⟩;cases hv with
   |eq he hr=>
    refine AA<|he prog w _ _ ?_
    wp_walk
    exact⟨rfl,rfl,hr⟩
   |lt he hlt=>
    refine AA<|he prog w _ _ ?_;have hri:=hlt prog w
    wp_walk using hri
    exact⟨_,rfl,by simpa using h⟩
  case fin=>
   rintro⟨b1,b2⟩ s' ⟨hb',rfl,hv⟩;simp only at hb';subst hb';cases hv
   wp_walk
   exact⟨_,rfl,by simpa[Builtin.Tuple.tupleCompareSizes] using h⟩
  case h=>exact⟨rfl,rfl,hx⟩
theorem aCT{A:BF}{s:BD}{l b:BE}{items items2:Array BC}{res:Bool}(hl:IsTup s.heap l items)(hb:IsTup s.heap b items2)(hx:aGh A s (decide<|items.size<items2.size) (items.toList.zip items2.toList) res)
  (hu:A.units<AS):aOH A s (.ref l) (.ref b) res:=λprog w E Q h=>by
 obtain⟨⟨cls,dd,data,sl⟩,ho,hc,n,hd⟩:=id hl;obtain⟨⟨cls2,dd2,data2,sl2⟩,ho2,hc2,n2,hd2⟩:=id hb;simp only at hc hd hc2 hd2;subst hc hd hc2 hd2
 exact richCompare_meets_room (op:= .Lt) ⟨_,ho,rfl⟩ ⟨_,ho2,rfl⟩ PySem.F.slot_tuple_lt PySem.F.entry_tuple_lt (PySem.F.args_tuple_lt_2 _ _) (aAc l b items items2 n n2 dd dd2 sl sl2 res)
  ⟨ho,ho2,hx,show Value.bool res≠Value.notImplemented/\Q (.bool res) s from⟨(λx=>nomatch x),h⟩⟩ hu
end
mutual
noncomputable def dlt:D->D->Bool
 |.int a,.int b=>decide<|a<b
 |.tup a,.tup b=>qF a b
 |_,_=>false
noncomputable def qF:List D->List D->Bool
 |[],[]=>false
 |[],_::_=>true
 |_::_,[]=>false
 |d::ds,e::es=>if deq d e=true then qF ds es else dlt d e
end
mutual
noncomputable def rH:D->D->Bool
 |.int _,.int _=>true
 |.tup a,.tup b=>xW a b
 |_,_=>false
noncomputable def xW:List D->List D->Bool
 |[],_=>true
 |_::_,[]=>true
 |d::ds,e::es=>rH d e&&xW ds es
end
mutual
theorem aIz(hok:HOk P w H s.heap):∀ (d:D) {d2:D}{v1 v2:V}{u1 u2:BC}{A:BF},rH d d2=true->pl d=true->pl d2=true->Rep K H d v1->Rep K H d2 v2->RelV v1 u1->RelV v2 u2->A.units+dep d<AS->aOH A s u1 u2 (dlt d d2)
 |.int a,d2,v1,v2,u1,u2,A,c,p1,p2,r1,r2,ru1,ru2,hu=>by
  cases d2 with
  |int b=>simp only[Rep] at r1 r2;subst r1 r2;obtain⟨t,rfl⟩:=ru1;obtain⟨t2,rfl⟩:=ru2;simp only[dlt];exact λprog w E Q h=>(PyProof.Rows.lt_int h:AK (AH prog w) A (AY .Lt (.int a t)<|.int b t2) Q E s)
  |_=>simp[rH] at c
 |.tup ds,d2,v1,v2,u1,u2,A,c,p1,p2,r1,r2,ru1,ru2,hu=>by
  cases d2 with
  |tup es=>
   obtain⟨a,xs,its,rfl,rfl,rl,rv,ht⟩:=jI hok r1 ru1;obtain⟨b,ys,jts,rfl,rfl,rl2,rv2,ht2⟩:=jI hok r2 ru2;simp only[dlt];have l1:its.length=ds.length:=by rw[<-rv.length,rl.len]
   have l2:jts.length=es.length:=by rw[<-rv2.length,rl2.len]
   simp only[pl] at p1 p2;simp only[dep] at hu;simp only[rH] at c;refine aCT ht ht2 ?_ (by omega);exact aDD hok ds c p1 p2 rl rl2 rv rv2 (by omega) (by simp[l1,l2])
  |_=>simp[rH] at c
 |.non,d2,_,_,_,_,_,c,_,_,_,_,_,_,_=>by cases d2<;>simp[rH] at c
 |.bl _,d2,_,_,_,_,_,c,_,_,_,_,_,_,_=>by cases d2<;>simp[rH] at c
 |.str _,d2,_,_,_,_,_,c,_,_,_,_,_,_,_=>by cases d2<;>simp[rH] at c
 |.lst _,d2,_,_,_,_,_,c,_,_,_,_,_,_,_=>by cases d2<;>simp[rH] at c
 |.dic,d2,_,_,_,_,_,c,_,_,_,_,_,_,_=>by cases d2<;>simp[rH] at c
 |.dki _ _,d2,_,_,_,_,_,c,_,_,_,_,_,_,_=>by cases d2<;>simp[rH] at c
 |.any _,d2,_,_,_,_,_,c,_,_,_,_,_,_,_=>by cases d2<;>simp[rH] at c
 |.scr _,d2,_,_,_,_,_,c,_,_,_,_,_,_,_=>by cases d2<;>simp[rH] at c
theorem aDD(hok:HOk P w H s.heap):∀ (ds:List D) {es:List D}{xs ys:List V}{its jts:List BC}{A:BF}{fin:Bool},xW ds es=true->plL ds=true->plL es=true->RepL K H ds xs->RepL K H es ys->Vals xs its->Vals ys jts->A.units+1+lI ds<AS->fin=decide (ds.length<es.length)->aGh A s fin (its.zip jts) (qF ds es)
 |[],es,xs,ys,its,jts,A,fin,c,p1,p2,r1,r2,v1,v2,hu,hf=>by
  simp only[RepL] at r1;subst r1;cases v1;subst hf;rw[List.zip_nil_left];cases es with
  |nil=>exact .nil
  |cons e es=>
   have:qF [] (e::es)=decide (([]:List D).length<(e::es).length):=by simp[qF]
   rw[this];exact .nil
 |d::ds,[],xs,ys,its,jts,A,fin,c,p1,p2,r1,r2,v1,v2,hu,hf=>by
  simp only[RepL] at r2;subst r2;cases v2;subst hf;rw[List.zip_nil_right];have:qF (d::ds) []=decide ((d::ds).length<([]:List D).length):=by simp[qF]
  rw[this];exact .nil
 |d::ds,e::es,xs,ys,its,jts,A,fin,c,p1,p2,r1,r2,v1,v2,hu,hf=>by
  obtain⟨x,xs,rfl,a1,r1⟩:=r1.uncons;obtain⟨y,ys,rfl,a2,r2⟩:=r2.uncons;simp only[plL,bP] at p1 p2;simp only[xW,bP] at c;simp only[lI] at hu;cases v1 with
  |cons q1 v1=>
   cases v2 with
   |cons q2 v2=>
    rw[dC];have he:=tF (A:=A.in1) hok d p1.1 p2.1 a1 a2 q1 q2 (by show A.units+1+dep d<AS;omega);simp only[qF]
    by_cases z:deq d e=true
    ·rw[if_pos z];rw[z] at he;exact .eq he (aDD hok ds c.2 p1.2 p2.2 r1 r2 v1 v2 (by omega)<|by rw[hf];simp)
    ·rw[if_neg z];rw[aJc.mpr z] at he;exact .lt he (aIz (A:=A.in1) hok d c.1 p1.1 p2.1 a1 a2 q1 q2<|by show A.units+1+dep d<AS;omega)
end
section
variable {prog:AE}{w:AM}{A:BF}{E:BC->BD->Prop}{s:BD}
open HT
end
theorem aKK(d:D)(ds:List D)(p1:pl d=true)(p2:plL ds=true)(hu:X.A.units+1+lI ds<AS):OpR X (AY .In) (λx y H Q=>Rep X.K H (.tup ds) y/\Rep X.K H d x/\Q (.bl<|ds.any λz=>deq z d) H):=by
 intro pins s σ H x y v u Q I rx ry h;obtain⟨hl,hd,k⟩:=h;obtain⟨a,xs,its,rfl,rfl,rl,rv,ht⟩:=jI I.hok hl ry
 have hat:∀ (j:Nat) (w:BC),its[j]? =some w->∃z v,ds[j]? =some z/\xs[j]? =some v/\Rep X.K H z v/\RelV v w:=λj w hw=>by
  have hj:j<its.length:=(aE.mp hw).1;have hx:j<xs.length:=by rw[Vals.length rv];exact hj
  have hd:j<ds.length:=by rw[<-rl.len];exact hx
  obtain⟨v,hv,rz⟩:=rl.get (i:=j) (d:=ds[j]) (by simp[hd])
  exact ⟨ds[j],v,by simp [hd],hv,rz,by
   have:=rv.get hv;obtain⟨w',hw',r⟩:=this;rw[hw] at hw';cases hw'
   exact r⟩
 have dc:=λw:BC=>Classical.propDecidable (∃ (j:Nat) (z:D),its[j]? =some w/\ds[j]? =some z/\deq z d=true)
 refine SeqAt.in_tupleAt (λw=> @decide _<|dc w) ht (λw hw=> ?_) ⟨.bl _,H,I,rfl, ?_⟩
 ·by_cases q:∃ (j:Nat) (z:D),its[j]? =some w/\ds[j]? =some z/\deq z d=true
  ·obtain⟨j,z,e1,e2,e3⟩:=q;obtain⟨z',v,f1,f2,f3,f4⟩:=hat j w e1;rw[e2] at f1;cases f1;have: @decide _ (dc w)=true:=by rw[decide_eq_true_eq];exact⟨j,z,e1,e2,e3⟩
   rw[this,<-e3];exact tF I.hok z (qZ p2 e2) p1 f3 hd f4 rx (by have:=oR e2;show X.A.units+1+dep z<AS;omega)
  ·have hw':w∈its:=by simpa using hw
   obtain⟨j,hj,rfl⟩:=fA hw';obtain⟨z,v,f1,f2,f3,f4⟩:=hat j its[j] (by simp[hj])
   have e3:deq z d=false:=by
    cases h:deq z d with
    |false=>rfl
    |true=>exact(q ⟨j,z,by simp[hj],f1,h⟩).elim
   have: @decide _ (dc its[j])=false:=by rw[decide_eq_false_iff_not];exact q
   rw[this,<-e3];exact tF I.hok z (qZ p2 f1) p1 f3 hd f4 rx (by have:=oR f1;show X.A.units+1+dep z<AS;omega)
 ·have e:its.toArray.any (λw=> @decide _<|dc w)=ds.any λz=>deq z d:=by
   rw[iE,aLu,iW,iW]
   constructor
   ·rintro⟨w,hw,q⟩;rw[decide_eq_true_eq] at q;obtain⟨j,z,e1,e2,e3⟩:=q;exact⟨z,bA e2,e3⟩
   ·rintro⟨z,hz,e3⟩;obtain⟨j,hj,rfl⟩:=fA hz;have hi:j<its.length:=by rw[<-Vals.length rv,rl.len];exact hj
    exact⟨its[j],iV hi,by rw[decide_eq_true_eq];exact⟨j,ds[j],by simp[hi],by simp[hj],e3⟩⟩
  rw[e];exact k
theorem aGF(ha:PEd X sd a (.val d))(hb:PEd X sd b (.val<|.tup ds))(p1:pl d=true)(p2:plL ds=true)(hu:X.A.units+1+lI ds<AS)(hk:AU .In b=false:=by with_unfolding_all rfl):PTd X sd (.Compare a [.In] [b] pos) (ds.any λz=>deq z d):=
 kM (aKK d ds p1 p2 hu) ha hb trivial hk λσ F H x u Q S q1 q2 k=>⟨Rep.mono S.sub q2,Rep.mono S.sub q1,k F H S<|Same.refl _⟩
noncomputable def kY(ws:List Int):List Key:=ws.map Sum.inl
theorem aQh(ws:List Int):D.tup ((kY ws).map kD)=bS ws:=by unfold kY bS;rw[aU];rfl
theorem aIw{a b:List Int}(h:kY a=kY b):a=b:=by have:=congrArg (List.map λk:Key=>match k with | .inl i=>i | .inr _=>(0:Int)) h;unfold kY at this;rw[aU,aU] at this;have e:((λk:Key=>match k with | .inl i=>i | .inr _=>(0:Int)) ∘ Sum.inl)=id:=rfl;rw[e,lB,lB] at this;exact this
noncomputable def oU(ks:List (List Int))(w:List Int):List (List Int):=if w∈ks then ks else ks++[w]
noncomputable def jJ(W:List (List Int)):List (List Int):=W.foldl oU []
theorem aFl(W:List (List Int))(w:List Int):jJ (W++[w])=oU (jJ W) w:=by unfold jJ;rw[fO];rfl
theorem aKP{ks:List (List Int)}(nd:ks.Nodup)(w:List Int):(oU ks w).Nodup/\∀k,k∈oU ks w↔k∈ks\/k=w:=by
 unfold oU
 split
 ·rename_i h;exact⟨nd,λk=>⟨.inl,λq=>q.elim id λe=>e▸h⟩⟩
 ·rename_i h;refine⟨bH.mpr ⟨nd,by simp,λa ha b hb e=>h<|aI.mp hb▸e▸ha⟩,λk=> ?_⟩;rw[aS,aI]
theorem vR:∀ (W ks:List (List Int)),ks.Nodup->(W.foldl oU ks).Nodup/\∀k,k∈W.foldl oU ks↔k∈ks\/k∈W
 |[],ks,nd=>⟨nd,λk=>by simp⟩
 |w::W,ks,nd=>by obtain⟨n1,m1⟩:=aKP nd w;obtain⟨n2,m2⟩:=vR W (oU ks w) n1;refine⟨n2,λk=> ?_⟩;show k∈W.foldl oU (oU ks w)↔_;rw[m2 k,m1 k,bD,or_assoc]
theorem wR(W:List (List Int)):(jJ W).Nodup:=(vR W [] cR).1
theorem aBC{W:List (List Int)}{k:List Int}:k∈jJ W↔k∈W:=by have:=(vR W [] cR).2 k;unfold jJ;rw[this];simp
theorem aGB(W:List (List Int)):(jJ W).length<=W.length:=by
 have:∀ (W ks:List (List Int)),(W.foldl oU ks).length<=ks.length+W.length:=λW=>by
  induction W with
  |nil=>intro ks;exact aN _
  |cons w W ih=>
   intro ks;refine cF (ih<|oU ks w) ?_
   have:(oU ks w).length<=ks.length+1:=by
    unfold oU
    split
    ·omega
    ·rw[aH];exact aN _
   rw[bF];omega
 have h:=this W [];rw[gH,pH] at h;exact h
noncomputable def uD(h:List Int->List Int)(A:List (List Int))(k:List Int):List (List Int):=A.filter λg=>decide<|h g=k
noncomputable def oB(h:List Int->List Int)(A:List (List Int))(ks:List (List Int)):List (List D):=ks.map λk=>(uD h A k).map bS
theorem rO(h:List Int->List Int)(A:List (List Int))(f k:List Int):uD h (A++[f]) k=uD h A k++if h f=k then[f] else[]:=by
 unfold uD;rw[sP]
 by_cases e:h f=k
 ·simp[e]
 ·simp[e]
theorem aGQ{h:List Int->List Int}{A:List (List Int)}{k:List Int}(hn:∀g∈A,h g≠k):uD h A k=[]:=by unfold uD;rw[List.filter_eq_nil_iff];exact λg hg=>by simp[hn g hg]
theorem aJK{h:List Int->List Int}{A ks:List (List Int)}{f:List Int}{n:Nat}(nd:ks.Nodup)(hk:ks[n]? =some (h f))(hd:(oB h A ks)[n]? =some ds):(oB h A ks).set n (ds++[bS f])=oB h (A++[f]) ks:=by
 have hd':ds=(uD h A<|h f).map bS:=by unfold oB at hd;rw[aW,hk] at hd;exact(bZ.inj hd).symm
 subst hd';refine nD λm=> ?_
 have hn:n<ks.length:=(aE.mp hk).1;have ek:ks[n]=h f:=(aE.mp hk).2
 by_cases e:m=n
 ·subst e;rw[kA<|by unfold oB;rw[aC];exact hn];unfold oB;rw[aW,hk,vA,rO,if_pos rfl,aX];rfl
 ·rw[lA<|Ne.symm e];unfold oB;rw[aW,aW];cases q:ks[m]? with
  |none=>rfl
  |some k=>
   have hm:m<ks.length:=(aE.mp q).1;have eq:ks[m]=k:=(aE.mp q).2;have ne:¬ h f=k:=λz=>e ((kP (h₀:=hm) (h₁:=hn) nd).mp<|by rw[eq,ek,z])
   rw[vA,vA,rO,if_neg ne,bN]
theorem aKW{h:List Int->List Int}{A ks:List (List Int)}{f:List Int}(hn:h f∉ks)(hA:∀g∈A,h g∈ks):oB h A ks++[[bS f]]=oB h (A++[f]) (ks++[h f]):=by
 unfold oB;rw[aX];congr 1
 ·refine cK λk hk=> ?_
  rw[rO,if_neg (λz:h f=k=>hn<|z▸hk),bN]
 ·rw[aZ,eO,rO,if_pos rfl,aGQ (λg hg (e:h g=h f)=>hn<|e▸hA g hg)];rfl
def aPZ(P:AE)(w:AM)(K:aA):List D->R->Prop:=λds r=>∃ (p:Int×Int) (h:List Int->List Int),p∈bY/\ds=[cC p,.lst<|((cB p).map h).map bS]/\r=goR P w K ((jJ<|(cB p).map h).map kY) (oB h (cB p) (jJ<|(cB p).map h))
def aIB:List D->R->Prop:=λds r=>∃ (p:Int×Int) (bs:List Nat) (T:List (List Int)),p∈bY/\bs.length<=100/\(∀b∈bs,b<p.2.toNat)/\yQ p T/\ds=[.lst<|bM bs,.tup<|T.map bS]/\r=.own ((T.map<|wdQ bs).map bS)
def aPW:List D->R->Prop:=λds r=>∃ (row:List Nat) (pl mn:Nat),1<=mn/\pl+mn<=row.length/\ds=[.tup<|bM row,.int (pl:Int),.int (mn:Int)]/\r=.val (.bl true)
noncomputable def wnQ(p:Int×Int)(L:List SK)(row:List Nat)(pl mn:Nat)(bs:List Nat)(f:List Int):Option (List<|List Int):=if f∈tabQ p L (row.take pl) then some (uD (λg=>wdQ bs<|hZ p L (row.drop<|pl+mn) g) (cB p) (wdQ bs<|hZ p L (row.drop pl) f)) else none
noncomputable def waQ(p:Int×Int)(L:List SK)(row:List Nat)(pl mn:Nat)(bs:List Nat):List (Option (List<|List Int)):=(cB p).map<|wnQ p L row pl mn bs
def aOb:List D->R->Prop:=λds r=>∃ (p:Int×Int) (L:List SK) (row:List Nat) (pl mn:Nat) (o:Option (List Nat)),p∈bY/\StkOk p L/\(∀t∈row,t<L.length)/\row.length<=100/\1<=mn/\pl+mn<=row.length/\aLv p o/\ds=[cC p,.lst<|L.map skD,.tup<|bM row,.int (pl:Int),.int (mn:Int),lkD o]/\r=.own ((waQ p L row pl mn<|bxQ p.2.toNat o).map wsD)
theorem aCb(p:Int×Int)(L:List SK)(a b:List Nat)(ws:List Int):hZ p L (a++b) ws=hZ p L b (hZ p L a ws):=by unfold hZ;rw[fO]
theorem vT(row:List Nat)(pl mn:Nat):row.drop pl=(row.drop pl).take mn++row.drop (pl+mn):=by rw[<-zT];exact(fC mn _).symm
theorem aNL{p:Int×Int}(hp:p∈bY){L:List SK}(S:StkOk p L){row:List Nat}(hrow:∀t∈row,t<L.length)(pl mn:Nat)(bs:List Nat){f g:List Int}(G:Fil p f)(Gg:Fil p g):g∈uD (λg=>wdQ bs<|hZ p L (row.drop<|pl+mn) g) (cB p) (wdQ bs<|hZ p L (row.drop pl) f)↔wdQ bs (hZ p L (row.drop<|pl+mn) g)=wdQ bs (hZ p L (row.drop<|pl+mn)<|hZ p L ((row.drop pl).take mn) f):=by
 unfold uD;have e:hZ p L (row.drop pl) f=hZ p L (row.drop<|pl+mn) (hZ p L ((row.drop pl).take mn) f):=by rw[<-aCb,<-vT]
 rw[gF,e]
 constructor
 ·exact λh=>of_decide_eq_true h.2
 ·exact λh=>⟨uT Gg.len Gg.wd,decide_eq_true h⟩
theorem aPr{p:Int×Int}(hp:p∈bY){L:List SK}(S:StkOk p L){row:List Nat}(hrow:∀t∈row,t<L.length)(pl mn:Nat)(bs:List Nat):aBo p (waQ p L row pl mn bs):=by
 refine⟨by unfold waQ;rw[aC],λo ho M hM=> ?_⟩;obtain⟨f,hf,rfl⟩:=aP.mp ho;have G:=lU hp hf;unfold wnQ at hM
 split at hM
 ·cases hM;have f9:(cB p).length<=64:=lD hp;have Gm:=oW S ((row.drop pl).take mn) f (λt ht=>hrow t (eP<|dW ht)) G;exact⟨List.length_pos_of_mem<|(aNL hp S hrow pl mn bs G Gm).mpr rfl,cF (kO _ _)<|by omega,λws hw=>lU hp (gF.mp hw).1⟩
 ·cases hM
theorem aGY{ks:List (List Int)}(h:ks.Nodup):(ks.map kY).Nodup:=List.Pairwise.map kY (λa b q e=>q<|aIw e) h
noncomputable def enF(F:List Int->D):D->D
 |.tup [_,g]=>F<|kS g
 |_=>.non
theorem aKt(p:Int×Int)(F:List Int->D):(lX<|(cB p).map bS).map (enF F)=(cB p).map F:=by
 unfold lX;rw[aU,aC];refine uY (by simp) λm h1 h2=> ?_
 have hm:m<(cB p).length:=by simpa using h2
 simp only[eQ,aHW,Function.comp];have:((cB p).map bS).getD m .non=bS (cB p)[m]:=by simp[cG,hm]
 rw[this];show F (kS<|bS _)=_;rw[iK]
theorem aFE(row:List Nat)(k:Nat):(bM row).take k=bM (row.take k):=by unfold bM;rw[iG]
theorem zG(row:List Nat)(k:Nat):(bM row).drop k=bM (row.drop k):=by unfold bM;rw[jM]
theorem aBS(a:List Nat):(bM a).length=a.length:=by unfold bM;rw[aC]
noncomputable def zK(h:BG)(a:BE):BG:=h.update a λo=>{o with data:=.freed}
noncomputable def oY(h:BG)(S:List BE):BG:=S.foldl zK h
theorem aAQ(h:BG){a b:BE}(ne:b≠a):(zK h a).get? b=h.get? b:=cU _ _<|Ne.symm ne
theorem aCt(h:BG)(a:BE):(zK h a).get? a=none:=by
 cases h;simp only[zK,Heap.update,Heap.get?,aDe,if_true]
 split
 ·rfl
 ·rename_i hx;generalize hq:lS _ _=q at hx ⊢;cases q with
  |none=>rfl
  |some o=>obtain⟨o',h1,h2⟩:=eY.mp hq;exact(hx _ _ _<|by rw[<-h2]).elim
theorem lO:∀ {S:List BE}{h:BG}{a:BE},a∉S->(oY h S).get? a=h.get? a
 |[],_,_,_=>rfl
 |b::S,h,a,hn=>by show(oY (zK h b) S).get? a=_;rw[lO λz=>hn<|aF _ z,aAQ h (λz:a=b=>hn<|z▸aJ)]
theorem kI:∀ {S:List BE}{h:BG}{a:BE},a∈S->(oY h S).get? a=none
 |b::S,h,a,hm=>by
  show(oY (zK h b) S).get? a=none
  by_cases hs:a∈S
  ·exact kI hs
  ·have e:a=b:=(bD.mp hm).resolve_right hs;subst e;rw[lO hs,aCt]
theorem sK{S:List BE}{h:BG}{a:BE}{o:BH}(q:(oY h S).get? a=some o):a∉S/\h.get? a=some o:=by
 have hn:a∉S:=λz=>by rw[kI z] at q;cases q
 exact⟨hn,by rw[lO hn] at q;exact q⟩
theorem pP{h base base':BG}:∀ {l:List Env},h.FunFrames base l->(∀b∈l.filterMap (·.frame),base'.get? b=none)->h.FunFrames base' l
 |[],_,_=>trivial
 |env::rest,hl,hb=>by
  obtain⟨hk,⟨L,o,hf,hn,ho,hd⟩,hr⟩:=hl;have e:(env::rest).filterMap (·.frame)=L::rest.filterMap (·.frame):=by rw[jD,hf]
  rw[e] at hb;exact⟨hk,⟨L,o,hf,hb L aJ,ho,hd⟩,pP hr λb hm=>hb b<|aF _ hm⟩
theorem oN{h:BG}{a:BE}{o:HO}(x:ObjOk P w H h a o):∃ob,h.get? a=some ob:=by
 cases o with
 |lst xs=>obtain⟨_,_,_,_,e⟩:=x;exact⟨_,e⟩
 |tup xs=>obtain⟨_,_,_,ob,e,_⟩:=x;exact⟨_,e⟩
 |dK kvs=>obtain⟨_,_,_,_,o,_,_,e,_⟩:=x;exact⟨_,e⟩
 |dT kvs=>obtain⟨_,_,_,_,o,_,_,e,_⟩:=x;exact⟨_,e⟩
 |set S n=>obtain⟨o,_,_,_,e,_⟩:=x;exact⟨_,e⟩
 |ins C dx fs=>obtain⟨_,_,_,e,_⟩:=x;exact⟨_,e⟩
 |own y=>obtain⟨_,e⟩:=x;exact⟨_,e⟩
 |xd fs=>obtain⟨_,⟨_,_,_,e,_⟩,_⟩:=x;exact⟨_,e⟩
 |rng lo hi=>obtain⟨_,_,_,e⟩:=x;exact⟨_,e⟩
 |frz ob u=>obtain⟨e,_⟩:=x;exact⟨_,e⟩
 |tbl ps=>exact⟨_,(show h.get? a=some _ from x)⟩
 |met f y=>exact⟨_,(show h.get? a=some _ from x)⟩
 |ext φ=>obtain⟨_,⟨_,e⟩,_⟩:=x;exact⟨_,e⟩
structure Exc(h0 h:BG)(H:Hp)(a T:BE)(cls:BC):Prop where
 free:H a=none
 new:h0.get? a=none
 freeT:H T=none
 newT:h0.get? T=none
 obj:∃oe vs oT ts a0,h.get? a=some oe/\(oe.cls=cls/\vs[0]? =some a0)/\oe.data=.fields vs/\vs[1]? =some (.ref T)/\T≠a/\h.get? T=some oT/\oT.data=.fields ts/\ts[3]? =some .none
noncomputable def CX1(P:AE)(w:AM)(cls:BC):CXT:=λouter H s E e s'=>∃a T H',e=.ref a/\s'.os=s.os/\AllBare s'.gens/\Un (frs outer) [] H H' s.heap s'.heap/\HOk P w H' s'.heap/\Exc s.heap s'.heap H' a T cls/\E (.ref a) (some a) H'
variable {h':BG}{a T:BE}{cls a0:BC}{S:List BE}{E:XK}
theorem aEm(I:Inv X pins σ H s)(hex:X.ex=[])(hst:X.stack=X.env::X.outer/\X.env.frame=some X.env.locals)(hS:∀b∈S,H b=none/\X.s₀.heap.get? b=none)(ha:a∈S)(L:Heap.LeftW (oY s.heap<|frs X.stack++S) X.stack a cls a0 s.heap h')(hE:E (.ref a) (some a) H):
  CX1 X.prog X.w cls X.outer X.H₀ X.s₀ E (.ref a) {s with heap:=h'}:=by
 obtain⟨k1,k2,⟨oe,vs,T,oT,ts,he,hc,hd,h1,hnT,hTe,hT,hdT,h3⟩,k4⟩:=L
 have fr:frs X.stack=X.env.locals::frs X.outer:=by unfold frs;rw[hst.1,jD,hst.2]
 have out:∀b o,X.s₀.heap.get? b=some o->b∉frs X.outer->b∉frs X.stack++S:=λb o q hb hm=>by
  rcases aS.mp hm with hm|hm
  ·rw[fr] at hm
   rcases bD.mp hm with e|hm
   ·have:=I.ok.above;have lt:=aR q;rw[e] at lt;exact absurd lt<|pF.mpr this
   ·exact hb hm
  ·rw[(hS b hm).2] at q;cases q
 have stay:∀b o,b∉frs X.stack++S->s.heap.get? b=some o->h'.get? b=some o:=λb o hb q=>k1 b o (by rw[lO hb];exact q)
 have nex:∀b,b∉X.ex:=λb hb=>by rw[hex] at hb;cases hb
 have slot:∀b o,X.s₀.heap.get? b=some o->X.H₀ b=none->b∈frs X.outer->∃sl,h'.get? b=some {o with slots:=sl}:=λb o q n hb=>by obtain⟨sl,q1⟩:=I.base.slot b o q n hb<|nex b;obtain⟨_,o',q2,nf⟩:=I.ok.funs.mem hb;rw[q] at q2;cases q2;obtain⟨sl2,q3⟩:=k4 b _ q1 nf;exact⟨sl2,q3⟩
 have tr:∀b u,H b=some u->b∉frs X.stack++S:=λb u e hm=>by
  rcases aS.mp hm with hm|hm
  ·rw[I.env0.frf b hm] at e;cases e
  ·rw[(hS b hm).1] at e;cases e
 have Tn:s.heap.get? T=none\/T∈S:=by
  by_cases hm:T∈frs X.stack++S
  ·rcases aS.mp hm with hm|hm
   ·obtain⟨_,o,q,nf⟩:=k2.mem hm;rw[hT] at q;cases q;exact(nf ts hdT).elim
   ·exact .inr hm
  ·rw[lO hm] at hnT;exact .inl hnT
 refine⟨a,T,H,rfl,I.os,I.bare,⟨λb o q n hb _=>stay b o (out b o q hb) (I.base.keep b o q n hb<|nex b),λb o q n hb _=>slot b o q n hb,λb o q n _=>I.base.free b o q n<|nex b,λb o q _=> ?_,I.base.tups,I.base.frzs,I.base.tbls⟩,λb u e=> ?_,⟨(hS a ha).1,(hS a ha).2, ?_, ?_,oe,vs,oT,ts,a0,he,hc,hd,h1,hTe,hT,hdT,h3⟩,hE⟩
 ·by_cases hb:b∈frs X.outer
  ·obtain⟨sl,q2⟩:=slot b o q (I.ok.frf b hb) hb;exact⟨_,q2⟩
  ·obtain⟨o1,q1⟩:=I.base.there b o q<|nex b;exact⟨o1,stay b o1 (out b o q hb) q1⟩
 ·refine(I.hok b u e).stay (λc v hc q=>stay c v ?_ q) (λ_ q=>q) λ_ _ q=>q
  rcases hc with z|z
  ·rw[z];exact tr b u e
  ·exact tr c _ z
 ·rcases Tn with q|q
  ·cases g:H T with
   |none=>rfl
   |some u=>obtain⟨ob,q2⟩:=oN<|I.hok T u g;rw[q] at q2;cases q2
  ·exact(hS T q).1
 ·rcases Tn with q|q
  ·cases g:X.s₀.heap.get? T with
   |none=>rfl
   |some o=>obtain⟨o1,q1⟩:=I.base.there T o g<|nex T;rw[q] at q1;cases q1
  ·exact(hS T q).2
theorem aEP{args:List BC}{Ex:BC->BD->Prop}(I:Inv X pins σ H s)(hex:X.ex=[])(hst:X.stack=X.env::X.outer/\X.env.frame=some X.env.locals)(m:Heap.MadeExcOf s.heap h' a cls args)(hE:E (.ref a) (some a) H):
  AK (AH X.prog X.w) X.A (leaving X.env<|.ref a) (λ_ s''=>CX1 X.prog X.w cls X.outer X.H₀ X.s₀ E (.ref a) s'') Ex {s with heap:=h'}:=by
 obtain⟨t,he,ht,_⟩:=m.there;have I':Inv X pins σ H {s with heap:=h'}:=I.kept (t':=s.toks) m.keeps
 have Ha:H a=none:=by
  cases g:H a with
  |none=>rfl
  |some u=>obtain⟨ob,q⟩:=oN<|I.hok a u g;rw[m.new] at q;cases q
 have sa:X.s₀.heap.get? a=none:=by
  cases g:X.s₀.heap.get? a with
  |none=>rfl
  |some o=>obtain⟨o1,q1⟩:=I.base.there a o g (λhb=>by rw[hex] at hb;cases hb);rw[m.new] at q1;cases q1
 have hS:∀b∈[a],H b=none/\X.s₀.heap.get? b=none:=λb hb=>by rw[aI.mp hb];exact⟨Ha,sa⟩
 have fu:Heap.FunFrames h' (oY h'<|frs X.stack++[a]) X.stack:=pP I'.env0.funs λb hb=>kI<|bO _ hb
 have fm:=I'.ok.frames;rw[hst.1] at fm;have fu2:=fu;rw[hst.1] at fu2;refine wpAny_leaving_firstW (base:=oY h'<|frs X.stack++[a]) fm (by rw[hst.1];exact fu2) hst.2 he (λb o q=>(sK q).2) (kI (aM _<|cD a)) rfl rfl rfl λh'' L=> ?_
 rw[<-hst.1] at L;exact aEm I' hex hst hS (cD a) L hE
theorem wF{Ex:BC->BD->Prop}(I:Inv X pins σ H s)(hex:X.ex=[])(hst:X.stack=X.env::X.outer/\X.env.frame=some X.env.locals)(x:Exc X.s₀.heap s.heap H a T cls)(hE:E (.ref a) (some a) H):
  AK (AH X.prog X.w) X.A (leaving X.env<|.ref a) (λ_ s''=>CX1 X.prog X.w cls X.outer X.H₀ X.s₀ E (.ref a) s'') Ex s:=by
 obtain⟨f1,n1,HT,nT,oe,vs,oT,ts,a0,he,hc,hd,h1,hTe,hT,hdT,h3⟩:=x
 have hS:∀b∈[a,T],H b=none/\X.s₀.heap.get? b=none:=λb hb=>by
  simp only[bD,fE,or_false] at hb
  rcases hb with rfl|rfl
  ·exact⟨f1,n1⟩
  ·exact⟨HT,nT⟩
 have fu:Heap.FunFrames s.heap (oY s.heap<|frs X.stack++[a,T]) X.stack:=pP I.env0.funs λb hb=>kI<|bO _ hb
 have fm:=I.ok.frames;rw[hst.1] at fm;have fu2:=fu;rw[hst.1] at fu2;have ca:(oY s.heap<|frs X.stack++[a,T]).get? a=none:=kI (aM _<|by simp);have cT:(oY s.heap<|frs X.stack++[a,T]).get? T=none:=kI (aM _<|by simp);refine wpAny_leaving_nextW (base:=oY s.heap<|frs X.stack++[a,T]) (cls:=cls) (a0:=a0) fm (by rw[hst.1];exact fu2) hst.2 ⟨oe,vs,T,oT,ts,he,hc,hd,h1,cT,hTe,hT,hdT,h3⟩ (λb o q=>(sK q).2) ca λh'' L=> ?_
 rw[<-hst.1] at L;exact aEm I hex hst hS (by simp) L hE
end DL
namespace DL
open PySem PySem.Spec PySem.Calls PySem.W PyProof.Rows Builtin Builtin.Getset_descriptor Builtin.ObjectAttr
end DL
namespace DL
open PySem PySem.Spec PyProof.Rows L2
noncomputable def aOz:List BC:=[.type "ValueError",.type "Exception",.type "BaseException",.type "object"]
theorem aFy{K:aA}{h:BG}{C:BE}{bmB:List BC}{newId:String}(X:K.In h)(q:mQ K C bmB newId=true):
  ∃bm N nm q bs hdct sn sub ab col dd k0 k1 k2 k3 k5 mN,h.get? C=some (excClassObj nm q C N bs bm hdct sn sub ab col dd k0 k1 k2 k3 k5 newId)/\h.Ns N mN/\mN "__init__"=none/\OwnTail h bmB bm:=by
 unfold mQ at q
 split at q
 ·rename_i dd cd sl ho
  split at q
  ·rename_i C' bm k0 k1 k2 k3 n k5 hm hs;simp only[bP,beq_iff_eq,tX] at q;obtain⟨⟨⟨⟨⟨rfl,rfl⟩,hdel⟩,ht⟩,hok⟩,hni⟩:=q;obtain⟨nm,bs,mro,ns,qn,hd,sn,sub,ab,col,del⟩:=cd;dsimp only at hm hdel hok hni;subst hm hdel
   have hsl:sl= #[k0,k1,k2,k3,some<|.builtin n,k5]:=by obtain⟨l⟩:=sl;simp only at hs;rw[hs]
   subst hsl;exact⟨bm,ns,nm,qn,bs,hd,sn,sub,ab,col,dd,k0,k1,k2,k3,k5,_,X _ _ ho,.of_isNs<|PySem.W.isNs_of_in X hok,PySem.W.nsMap_none_of_in X hok hni,PySem.W.tail_of_in X ht⟩
  ·cases q
 ·cases q
def Takes(X:Cx)(cls:BC)(sd:List Slot):Prop:=∀ (pins:List (BE×BH)) (σ:St) (F H:Hp) (s:BD) (a T:BE),Inv X pins σ H s->StF X.K X.B₀ F H σ sd->Exc X.s₀.heap s.heap H a T cls->(∀p∈X.pn++pins,p.1≠a/\p.1≠T)->X.xe (.ref a) s
def vU(X:Cx)(cls:BC)(sd:List Slot):Prop:=∀ (pins:List (BE×BH)) (σ:St) (F H:Hp) (s:BD) (h':BG) (a:BE) (args:List BC),Inv X pins σ H s->StF X.K X.B₀ F H σ sd->Heap.MadeExcOf s.heap h' a cls args->X.xe (.ref a) {s with heap:=h'}
variable {P:AE}{w:AM}{K:aA}{mg:Str->Option BC}{base:BG}{N:List Str}{qual:Str}{scope:Scope}{f:BE}{cdv:BC}{A:BF}{outer:List Env}{s:BD}{H:Hp}{E:XK}{cls:BC}{sd:List Slot}
theorem sR(hE:∀a H',Same H H'->Smp H'->E (.ref a) (some a) H'):Takes (iF (CX1 P w cls) P w K mg base N qual scope f cdv A outer s H E) cls sd:=λpins σ F H' s' a T I S x _=>wF (X:=iF (CX1 P w cls) P w K mg base N qual scope f cdv A outer s H E) (E:=E) I rfl ⟨rfl,rfl⟩ x<|hE a H' (λb o e=>S.sub _ _<|S.base _ _ e) S.smp
theorem aCG(hE:∀a H',Same H H'->Smp H'->E (.ref a) (some a) H'):vU (iF (CX1 P w cls) P w K mg base N qual scope f cdv A outer s H E) cls sd:=λpins σ F H' s' h' a args I S m=>aEP (X:=iF (CX1 P w cls) P w K mg base N qual scope f cdv A outer s H E) (E:=E) I rfl ⟨rfl,rfl⟩ m<|hE a H' (λb o e=>S.sub _ _<|S.base _ _ e) S.smp
variable {X:Cx}{e a b c:Expr}{es:List Expr}{pos:Pos}{d:D}{ds:List D}{E:iA}
theorem aFs{x:Str}{np cpos:Pos}{C:BE}(hg:Gl X x)(hm:X.mg x=some (.ref C))(hx:mQ X.K C aOz "ValueError.__new__"=true)(ht:vU X (.ref C) sd)(he:PAd X sd (e::es) (ds.map R.val))(hl:ds.length<=10000)
  (hc:X.calm=true:=by rfl) (hdb:(x==("__debug__":Str))=false:=by decide) (hst:AB (e::es) X.env=(false,eval e X.env)::AB es X.env:=by rfl) (hpl:(AX cpos<|AB es X.env).any (·.1)=false:=by rfl):
  PSd1 X sd (.Raise (some<|.Call (.Name x np) (e::es) [] cpos) none pos) E:=.mk λσ F H S pins s I=>by
 obtain⟨bm,Nn,nm,q,bs,hdct,sn,sub,ab,col,dd,k0,k1,k2,k3,k5,mN,hC,hN,hni,T⟩:=aFy (h:=X.base) I.ok.mod.kin hx
 refine wpAny_Raise_call_subT (C:=C) (nm:=nm) (q:=q) (N:=Nn) (bs:=bs) (bm:=bm) (hdct:=hdct) (sn:=sn) (sub:=sub) (ab:=ab) (col:=col) (dd:=dd) (k0:=k0) (k1:=k1) (k2:=k2) (k3:=k3) (k5:=k5) (bmB:=aOz)
  xQ (mN:=mN) (T.hasType xQ.hasBase) (I.ok.hd hc) (by rw[hst];show(false||(AX cpos<|AB es X.env).any (·.1))=false;rw[hpl];rfl) hni (lG I hg hm ⟨rfl, ?_⟩ hdb)
 have hA:=he σ F H S cpos pins s I;rw[hst] at hA ⊢;refine Calls.evalArgs_plain<|Aa hA (λus s2 ⟨vs,H2,I2,r2,F2,S2,s2',q2⟩=> ?_) λ_ _ y=>y
 have lv:us.length<=AL:=by rw[<-r2.length,q2.vals.len];exact dE<|eX hl
 exact⟨rfl,lv,I2.bk _ _ hC,hN.keeps I2.bk,T.keeps I2.bk,λh' e m=>ht pins σ F2 H2 s2 h' e us I2 S2 m⟩
structure PEx(X:Cx)(sd:List Slot)(e:Expr):Prop where
 run:∀ (σ:St) (F H:Hp),StF X.K X.B₀ F H σ sd->wE X e σ H (λ_ _=>False)
theorem oS(i:Nat){x:Str}{p:Pos}(hN:X.N.Nodup)(hi:X.N[i]? =some x)(hx:Loc X.env.scope x)(h:PEx X sd e)(hs:Ab e (some<|.Name x p) pos.line X.env=pure false:=by rfl)
  (hf:X.fn x=true\/X.env.scope.names.lookup x=some .local:=by first|exact .inl rfl|exact .inr rfl|assumption):PSd1 X sd (.Assign [.Name x p] e pos) E:=.mk λσ F H S=>
 (qM hN hi hx eK hs hf).to ((h.run σ F H S).imp λ_ _ z=>z.elim)
theorem aBX(h:PEx X sd e):PSd1 X sd (.Return (some e) pos) E:=.mk λσ F H S=>(tG eK).to<|(h.run σ F H S).imp λ_ _ z=>z.elim
noncomputable def spX(K:aA)(n:Nat)(C:List D->Prop):Sp:=λvs H _ E=>vs.length=n/\Smp H/\∃ds,RepL K H ds vs/\C ds/\∀a H',Same H H'->Smp H'->E (.ref a) (some a) H'
structure gJ(P:AE)(w:AM)(K:aA)(mg:Str->Option BC)(base:BG)(x:Str)(k n:Nat)(C:List D->Prop)(cls:BC)(dvs:List V)(dws:List BC):Prop where
 ex:∃ (f:BE) (fd:AN) (ps:List Str),mg x=some (.ref f)/\cO K (.ref f)=true/\Binds K fd ps dws/\Vals dvs dws/\FnOk P w K mg base (CX1 P w cls) k f fd ps (spX K n C)
theorem qV{CX:CXT}{k:Nat}{fd:AN}{ps:List Str}{sp:Sp}{dvs:List V}{dws:List BC}{Ex:XK}{pins:List (BE×BH)}{σ:St}{Q:VK}{us:List BC}{vs:List V}(F:FnOk X.prog X.w X.K X.mg X.base CX k f fd ps sp)(hr:Room k X.A)(hb:Binds X.K fd ps dws)(hd:Vals dvs dws)
  (I:Inv X pins σ H s) (r:Vals vs us) (h:sp (vs++dvs) H Q Ex) (hx:∀e s',CX X.stack H s Ex e s'->X.xe e s'):AK (AH X.prog X.w) X.A (call (.ref f) us) (EP X pins σ Q) X.xe s:=by
 have r2:Vals (vs++dvs) (us++dws):=r.append hd;have hl:(us++dws).length=ps.length:=by rw[<-r2.length];exact F.len _ _ _ _ h
 refine wpAny_call<|Ap (F.run X.A X.stack s H ⟨us,[]⟩ (us++dws) (vs++dvs) Q Ex hr I.env0 (hb s us I.kIn hl) r2 h) λr s' hq=> ?_;cases r with
 |error e=>exact hx e s' hq
 |ok fl=>
  cases fl with
  |ret u=>exact I.after hq
  |next=>exact False.elim hq
  |brk=>exact False.elim hq
  |cont=>exact False.elim hq
theorem aKC{pins:List (BE×BH)}{σ:St}{F:Hp}{s':BD}{e:BC}(hex:X.ex=[])(I:Inv X pins σ H s)(S:StF X.K X.B₀ F H σ sd)(h:CX1 X.prog X.w cls X.stack H s (λ_ _ H'=>Same H H'/\Smp H') e s'):
  ∃a T H',e=.ref a/\Inv X pins σ H' s'/\StF X.K X.B₀ F H' σ sd/\Exc X.s₀.heap s'.heap H' a T cls/\∀p∈X.pn++pins,p.1≠a/\p.1≠T:=by
 obtain⟨a,T,H',rfl,os,bare,un,hok,x,sH,smH⟩:=h;have I2:Inv X pins σ H' s':=I.call' os un hok bare (λb z=>absurd z<|by simp)
 have fr:∀b,s.heap.get? b=none->X.s₀.heap.get? b=none:=λb q=>by
  cases g:X.s₀.heap.get? b with
  |none=>rfl
  |some o=>obtain⟨o1,q1⟩:=I.base.there b o g (λhb=>by rw[hex] at hb;cases hb);rw[q] at q1;cases q1
 have nw:∀b,s.heap.get? b=none->∀p∈X.pn++pins,p.1≠b:=λb q p hp z=>by have:=(I.pin p hp).1;rw[z,q] at this;cases this
 exact⟨a,T,H',rfl,I2,⟨S.base,S.sub.trans sH,smH,S.slots.mono (Same.refl _) λl hl=>⟨(S.slots.owns hl).1,λob e=>sH _ _ e⟩,S.nd⟩,⟨x.free,fr a x.new,x.freeT,fr T x.newT,x.obj⟩,λp hp=>⟨nw a x.new p hp,nw T x.newT p hp⟩⟩
theorem aEf{x:Str}{p:Pos}{k n:Nat}{C:List D->Prop}{dvs:List V}{dws:List BC}{dds:List D}(G:gJ X.prog X.w X.K X.mg X.base x k n C cls dvs dws)(hex:X.ex=[])(hr:Room k X.A)(hg:Gl X x)(ha:PAd X sd (e::es) (ds.map R.val))(hdv:∀H,RepL X.K H dds dvs)(hc:C (ds++dds))(hn:ds.length+dds.length=n)(ht:Takes X cls sd)
  (hdb:(x==("__debug__":Str))=false:=by decide) (he:AB (e::es) X.env=(false,eval e X.env)::AB es X.env:=by rfl) (hpl:(AX pos<|AB es X.env).any (·.1)=false:=by rfl):
  PEx X sd (.Call (.Name x p) (e::es) [] pos):=⟨fun σ F H S pins s I=>by
 obtain⟨f,fd,ps,hm,hk,bd,hd,G⟩:=G.ex;refine AQ<|lG I hg hm ?_ hdb;refine eM (h₀:=X.base) I.ok.mod.kin hk (thn (ha σ F H S pos pins s I) λus s1 ⟨vs,H1,I1,r,F1,S1,s1',q⟩=>⟨I1.kIn, ?_⟩) he hpl;have rl:RepL X.K H1 (ds++dds) (vs++dvs):=(q.vals.mono S1.sub).app<|hdv H1;refine qV (Q:=λ_ _=>False) (Ex:=λ_ _ H'=>Same H1 H'/\Smp H') G hr bd hd I1 r ⟨by rw[rl.len,aH];exact hn,S1.smp,ds++dds,rl,hc,λa H' q1 q2=>⟨q1,q2⟩⟩ λe s' hcx=> ?_
 obtain⟨a,T,H',rfl,I2,S2,x2,pn⟩:=aKC hex I1 S1 hcx
 exact ht pins σ F1 H' s' a T I2 S2 x2 pn⟩
variable {x:Str}{st:BI}{fd:AN}{ps:List Str}{k:Nat}{C:List D->Prop}
theorem aPM{oc:BC}{od:Option BE}{osl:Array (Option BC)}{dV kV doc pm ct:BC}{an:Option BE}(lk:K.lookup f=some ⟨oc,od,.func<|cE x qual (eA st) (cN st) (aO st) dV kV doc pm an cdv ct,osl⟩)(hcd:eG K cdv qual=true)(S:gO N ps (aO st))
  (body:∀ (A:BF) (outer:List Env) (s:BD) (H:Hp) (E:XK),Room k (A.deeper (Ai qual (aO st) s.heap.objs.size f cdv))→(∀a H',Same H H'→Smp H'→E (.ref a) (some a) H')→∀ds,ds.length=ps.length→C ds→
   PSd (iF (CX1 P w cls) P w K mg base N qual (aO st) f cdv A outer s H E) (init N.length ds) (cN st) {nx:=λ_=>False,rt:=λ_=>False}):
  FnOk P w K mg base (CX1 P w cls) (k+1) f (cE x qual (eA st) (cN st) (aO st) dV kV doc pm an cdv ct) ps (spX K ps.length C):=by
 refine aGq lk hcd S (λvs H Q E h=>h.1) λA outer s H vs Q E hr h=> ?_
 obtain⟨hl,sm,ds,rl,c,q⟩:=h;have hds:ds.length=ps.length:=by rw[<-rl.len];exact hl
 refine⟨_,pss_w, ?_⟩;have hlen:N.length-vs.length=N.length-ds.length:=by rw[rl.len]
 have S0:StF K H H H (L2.start N vs) (init N.length ds):=by
  refine⟨Same.refl _,Same.refl _,sm, ?_, ?_⟩
  ·unfold L2.start init;rw[hlen];exact jG (m:=0) rl
  ·unfold init;rw[jH];exact cR
 exact(body A outer s H E hr q ds hds c (L2.start N vs) H H S0).imp (λ_ _ ⟨_,_,_,_,z⟩=>z.elim) (λ_ _ ⟨_,_,z⟩=>z.elim) (λ_ _ ⟨_,_,_,_,z⟩=>z.elim) λ_ _ ⟨_,_,_,_,z⟩=>z.elim
theorem aLq(F:Fun K x qual st f fd)(S:gO N ps (aO st))(hm:mg x=some (.ref f))(hb:∀ (kV doc pm:BC) (an:Option BE) (cdv ct:BC) (us:List BC),us.length=ps.length->bindArgs (cE x qual (eA st) (cN st) (aO st) .none kV doc pm an cdv ct) ⟨us,[]⟩=pure (ps.zip us))
  (body:∀ (cdv:BC) (A:BF) (outer:List Env) (s:BD) (H:Hp) (E:XK),Room k (A.deeper (Ai qual (aO st) s.heap.objs.size f cdv))→(∀a H',Same H H'→Smp H'→E (.ref a) (some a) H')→∀ds,ds.length=ps.length→C ds→
   PSd (iF (CX1 P w cls) P w K mg base N qual (aO st) f cdv A outer s H E) (init N.length ds) (cN st) {nx:=λ_=>False,rt:=λ_=>False}):gJ P w K mg base x (k+1) ps.length C cls [] []:=by
 have hbd:=F.binds hb;obtain⟨oc,od,kV,doc,pm,an,cdv,ct,osl,rfl,lk,hcd⟩:=F.ex;exact⟨f,_,ps,hm,F.kp,hbd,.nil,aPM lk hcd S<|body cdv⟩
variable {pins:List (BE×BH)}{σ:St}{F:Hp}{h':BG}{S:List BE}
theorem vW{h:BG}{c:BE}{v:Option BC}(k:h.UpToSlots h')(z:h.IsCell c v):h'.IsCell c v:=by
 obtain⟨o,ho,hd⟩:=z;obtain⟨sl,q⟩:=k c o ho λvs e=>by rw[hd] at e;cases e
 exact⟨_,q,hd⟩
theorem aEx(I:Inv X pins σ H s)(hS:∀b∈S,H b=none/\X.s₀.heap.get? b=none/\∀p∈X.pn++pins,p.1≠b)(k1:Heap.StaysIn (oY s.heap<|frs X.stack++S) h')(k4:s.heap.UpToSlots h'):Inv X pins σ H {s with heap:=h'}:=by
 have stay:∀b o,b∉frs X.stack++S->s.heap.get? b=some o->h'.get? b=some o:=λb o hb q=>k1 b o (by rw[lO hb];exact q)
 have out:∀b o,X.s₀.heap.get? b=some o->b∉X.fs->b∉frs X.stack++S:=λb o q hb hm=>by
  rcases aS.mp hm with hm|hm
  ·rcases bD.mp (I.stkSub b hm) with e|hm
   ·have lt:=aR q;rw[e] at lt;exact absurd lt<|pF.mpr I.ok.above
   ·exact hb hm
  ·rw[(hS b hm).2.1] at q;cases q
 have slot:∀b o,X.s₀.heap.get? b=some o->X.H₀ b=none->b∈X.fs->b∉X.ex->∃sl,h'.get? b=some {o with slots:=sl}:=λb o q n hb hx=>by obtain⟨sl,q1⟩:=I.base.slot b o q n hb hx;obtain⟨_,o',q2,nf⟩:=I.ok.funs.mem hb;rw[q] at q2;cases q2;obtain⟨sl2,q3⟩:=k4 b _ q1 nf;exact⟨sl2,q3⟩
 have tr:∀b u,H b=some u->b∉frs X.stack++S:=λb u e hm=>by
  rcases aS.mp hm with hm|hm
  ·rw[I.env0.frf b hm] at e;cases e
  ·rw[(hS b hm).1] at e;cases e
 obtain⟨m,hn,hl⟩:=id I.loc;refine⟨I.ok,I.os,I.bare,⟨λb o q n hb hx=>stay b o (out b o q hb)<|I.base.keep b o q n hb hx,slot,I.base.free,λb o q hx=> ?_,I.base.tups,I.base.frzs,I.base.tbls⟩,⟨m,k4.ns hn,λi x v e1 e2 e3=> ?_⟩,λx c e=> ?_,I.free,I.freeC,λp hp=> ?_,λb u e=> ?_,I.len⟩
 ·by_cases hb:b∈X.fs
  ·obtain⟨sl,q2⟩:=slot b o q (I.ok.frf b hb) hb hx;exact⟨_,q2⟩
  ·obtain⟨o1,q1⟩:=I.base.there b o q hx;exact⟨o1,stay b o1 (out b o q hb) q1⟩
 ·obtain⟨u,r,q⟩:=hl i x v e1 e2 e3;refine⟨u,r, ?_⟩
  rcases q with q|⟨k,c,e,z⟩
  ·exact .inl q
  ·exact .inr ⟨k,c,e,vW k4 z⟩
 ·obtain⟨v,z⟩:=I.cell x c e;exact⟨v,vW k4 z⟩
 ·obtain⟨e,n,ne,nf,d⟩:=I.pin p hp;refine⟨stay p.1 p.2 (λhm=> ?_) e,n,ne,nf,d⟩
  rcases aS.mp hm with hm|hm
  ·rcases bD.mp (I.stkSub _ hm) with z|z
   ·exact ne z
   ·exact nf z
  ·exact(hS _ hm).2.2 p hp rfl
 ·refine(I.hok b u e).stay (λc v hc q=>stay c v ?_ q) (λ_ q=>q) λ_ _ q=>q
  rcases hc with z|z
  ·rw[z];exact tr b u e
  ·exact tr c _ z
theorem aNj{ξ:BC->BD->Prop}{pn:List (BE×BH)}(I:Inv X pins σ H s)(S:StF X.K X.H₀ F H σ sd)(hpn:pn=X.pn++pins):Inv {X with H₀:=F,B₀:=F,hB:=λ_ _ e _=>e,xe:=ξ,pn:=pn} [] σ H s:=by
 have n0:∀b,F b=none->X.H₀ b=none:=λb n=>by
  cases q:X.H₀ b with
  |none=>rfl
  |some u=>rw[S.base _ _ q] at n;cases n
 have fn:∀b,H b=none->F b=none:=λb n=>S.sub.free n
 subst hpn
 refine ⟨⟨I.ok.mod,I.ok.kind,I.ok.glob,I.ok.blt,I.ok.above,I.ok.inj,I.ok.has,I.ok.cab,I.ok.hd,I.ok.frames,I.ok.stk,I.ok.exf,fun b o e=>⟨(I.ok.bs b o e).1,fn b (I.bs b o e).2⟩,I.ok.bsz,I.ok.noex,I.ok.exfs,I.ok.funs,fun b hb=> ?_⟩,I.os,I.bare,
  ⟨λb o q n hb hx=>I.base.keep b o q (n0 b n) hb hx,λb o q n hb hx=>I.base.slot b o q (n0 b n) hb hx,λb o q n hx=>I.base.free b o q (n0 b n) hx,I.base.there,λb xs e=>S.sub _ _ e,λb o u e=>S.sub _ _ e,λb ps e=>⟨#[],by rw[S.sub _ _ e];simp⟩⟩,I.loc,I.cell,I.free,I.freeC,λp hp=> ?_,I.hok,I.len⟩
 ·obtain⟨_,o,q,_⟩:=I.ok.funs.mem hb;exact fn b<|I.base.free b o q (I.ok.frf b hb) λhx=>I.ok.exfs b hx hb
 ·rw[bN] at hp;exact I.pin p hp
theorem aNz{ξ:BC->BD->Prop}{pn:List (BE×BH)}{pins':List (BE×BH)}{σ':St}{H':Hp}{s':BD}(I0:Inv X pins σ H s)(S:StF X.K X.H₀ F H σ sd)(hpn:pn=X.pn++pins)(I:Inv {X with H₀:=F,B₀:=F,hB:=λ_ _ e _=>e,xe:=ξ,pn:=pn} pins' σ' H' s'):Inv X pins σ' H' s':=by
 subst hpn;have nf:∀b o,X.s₀.heap.get? b=some o->X.H₀ b=none->b∉X.ex->F b=none:=λb o q n hx=>S.sub.free<|I0.base.free b o q n hx
 refine⟨I0.ok,I.os,I.bare,⟨λb o q n hb hx=>I.base.keep b o q (nf b o q n hx) hb hx,λb o q n hb hx=>I.base.slot b o q (nf b o q n hx) hb hx,λb o q n hx=>I.base.free b o q (nf b o q n hx) hx,I.base.there,λb xs e=>I.base.tups b xs<|S.base _ _ e,λb o u e=>I.base.frzs b o u<|S.base _ _ e,λb ps e=>I.base.tbls b ps<|S.base _ _ e⟩,I.loc,I.cell,I.free,I.freeC,λp hp=>I.pin p<|bO _ hp,I.hok,I.len⟩
variable {a T:BE}{M:Model}{Ex:BC->BD->Prop}
structure aLz(X:Cx)(pins:List (BE×BH))(σ:St)(H:Hp)(s:BD)(a T:BE)(cls fl:BC):Prop where
 inv:Inv X pins σ H s
 fa:H a=none/\X.s₀.heap.get? a=none/\∀p∈X.pn++pins,p.1≠a
 fT:H T=none/\X.s₀.heap.get? T=none/\∀p∈X.pn++pins,p.1≠T
 obj:∃oe vs oT ts a0,s.heap.get? a=some oe/\(oe.cls=cls/\vs[0]? =some a0)/\oe.data=.fields vs/\vs[1]? =some (.ref T)/\T≠a/\s.heap.get? T=some oT/\oT.data=.fields ts/\ts[3]? =some fl
theorem aBp(h:aLz X pins σ H s a T cls fl):∀b∈[a,T],H b=none/\X.s₀.heap.get? b=none/\∀p∈X.pn++pins,p.1≠b:=λb hb=>by
 simp only[bD,fE,or_false] at hb
 rcases hb with rfl|rfl
 ·exact h.fa
 ·exact h.fT
theorem aFI{Q:Unit->BD->Prop}(hst:X.stack=X.env::X.outer/\X.env.frame=some X.env.locals)(hfr:A.frames=some X.stack)(hex:X.ex=[])(h:aLz X pins σ H s a T cls .none)(k:∀h' T',aLz X pins σ H {s with heap:=h'} a T' cls (rawInt X.env.locals)->Q () {s with heap:=h'}):
  AK M A (noteFrame (.ref a) X.env) Q Ex s:=by
 have hS:=aBp h;obtain⟨oe,vs,oT,ts,a0,he,hc,hd,h1,hTe,hT,hdT,h3⟩:=h.obj;have I:=h.inv;have fu:Heap.FunFrames s.heap (oY s.heap<|frs X.stack++[a,T]) X.stack:=pP I.env0.funs λb hb=>kI<|bO _ hb
 have fm:=hfr;rw[hst.1] at fm;have fu2:=fu;rw[hst.1] at fu2;have ca:(oY s.heap<|frs X.stack++[a,T]).get? a=none:=kI (aM _<|by simp);have cT:(oY s.heap<|frs X.stack++[a,T]).get? T=none:=kI (aM _<|by simp);refine wpAny_noteFrame_onW (base:=oY s.heap<|frs X.stack++[a,T]) (cls:=cls) (a0:=a0) fm (by rw[hst.1];exact fu2) hst.2 ⟨oe,vs,T,oT,ts,he,hc,hd,h1,cT,hTe,hT,hdT,h3⟩ (λb o q=>(sK q).2) ca λh' L=> ?_
 rw[<-hst.1] at L;obtain⟨k1,k2,⟨oe',vs',T',oT',ts',he',hc',hd',h1',hnT',hTe',hT',hdT',h3'⟩,k4⟩:=L;have I2:=aEx I hS k1 k4
 have Tn:s.heap.get? T'=none\/T'∈[a,T]:=by
  by_cases hm:T'∈frs X.stack++[a,T]
  ·rcases aS.mp hm with hm|hm
   ·obtain⟨_,o,q,nf⟩:=k2.mem hm;rw[hT'] at q;cases q;exact(nf ts' hdT').elim
   ·exact .inr hm
  ·rw[lO hm] at hnT';exact .inl hnT'
 refine k h' T' ⟨I2,h.fa, ?_,oe',vs',oT',ts',a0,he',hc',hd',h1',hTe',hT',hdT',h3'⟩
 rcases Tn with q|q
 ·refine⟨?_, ?_,λp hp z=> ?_⟩
  ·cases g:H T' with
   |none=>rfl
   |some u=>obtain⟨ob,q2⟩:=oN<|I.hok T' u g;rw[q] at q2;cases q2
  ·cases g:X.s₀.heap.get? T' with
   |none=>rfl
   |some o=>obtain⟨o1,q1⟩:=I.base.there T' o g (λhb=>by rw[hex] at hb;cases hb);rw[q] at q1;cases q1
  ·have:=(I.pin p hp).1;rw[z,q] at this;cases this
 ·exact hS T' q
theorem tW{fl:BC}{fr:Option BE}{Q:Unit->BD->Prop}(hst:X.stack=X.env::X.outer/\X.env.frame=some X.env.locals)(h:aLz X pins σ H s a T cls fl)(k:∀h',aLz X pins σ H {s with heap:=h'} a T cls (fr.elim Value.none λf=>rawInt f)->Q () {s with heap:=h'}):
  AK M A (setFlight (.ref a) fr) Q Ex s:=by
 have hS:=aBp h;obtain⟨oe,vs,oT,ts,a0,he,hc,hd,h1,hTe,hT,hdT,h3⟩:=h.obj;have I:=h.inv;have hsz3:3<ts.size:=(Array.getElem?_eq_some_iff.mp h3).1
 have other:∀b,b≠T->(s.heap.update T (Obj.mapFields (·.setIfInBounds 3 (fr.elim Value.none λf=>rawInt f)))).get? b=s.heap.get? b:=
  λb hb=>cU _ _<|Ne.symm hb
 have noRecord:∀b o,s.heap.get? b=some o->(∀vs,o.data≠ .fields vs)->b≠T:=λb o hb hnf q=>by rw[q,hT] at hb;injection hb with hb;subst hb;exact hnf ts hdT
 unfold setFlight;refine AA<|wpAny_field he hd h1 ?_;rw[if_pos (show(Value.ref T !=Value.none)=true from by simp)];refine wpAny_setField hT hdT hsz3<|k _ ⟨aEx I hS (λb o q=> ?_) λb o q nf=>⟨o.slots,(other b<|noRecord b o q nf).trans q⟩,h.fa,h.fT,oe,vs,_,_,a0,(other a<|Ne.symm hTe).trans he,hc,hd,h1,hTe,gA _ hT (Obj.isFreed_of_fields<|Obj.data_mapFields hdT _),Obj.data_mapFields hdT _,by simp[hsz3]⟩;obtain⟨q1,q2⟩:=sK q;exact(other b λz=>q1 (aM _<|by simp[z])).trans q2
noncomputable def shF(v1 v2:V)(m:BE):List (Str×V):=mU "made" (.ref m) (mU "stock" v2<|mU "size" v1 [])
theorem nsm1:¬ ("size":Str)="made":=by decide+kernel
theorem nsm2:¬ ("stock":Str)="made":=by decide+kernel
theorem nsm3:¬ ("size":Str)="stock":=by decide+kernel
theorem aGZ(v1 v2:V)(m:BE):(shF v1 v2 m).lookup ("size":Str)=some v1:=by unfold shF;rw[fH,if_neg nsm1,fH,if_neg nsm3,fH,if_pos rfl]
theorem aFv(v1 v2:V)(m:BE):(shF v1 v2 m).lookup ("stock":Str)=some v2:=by unfold shF;rw[fH,if_neg nsm2,fH,if_pos rfl]
theorem aHm{x m:BE}{a b e c:HO}:upd (upd (upd (upd H x a) x b) m e) x c=upd (upd H m e) x c:=by
 funext z;unfold upd
 by_cases h1:z=x
 ·simp[h1]
 ·by_cases h2:z=m
  ·simp[h1,h2]
  ·simp[h1,h2]
structure oX(K:aA)(mg:Str->Option BC)(C:BE):Prop where
 cl:Cls K C
 nZ:NoAttr K C "size"
 nS:NoAttr K C "stock"
 nM:NoAttr K C "made"
 mgC:mg "Shelf"=some (.ref C)
theorem Inv.reB{H':Hp}(I:Inv X pins σ H s)(hn:∀b,H b=none->H' b=none)(h0:Same X.B₀ H')(ok:HOk X.prog X.w H' s.heap):Inv X pins σ H' s:=by
 refine⟨I.ok,I.os,I.bare,⟨I.base.keep,I.base.slot,λb u e n hx=>hn b<|I.base.free b u e n hx,I.base.there,λb xs e=>h0 _ _<|X.hB _ _ e trivial,λb u xs e=>h0 _ _<|X.hB _ _ e trivial,λb ps e=>⟨#[], ?_⟩⟩,I.loc,I.cell,hn _ I.free,λx c e=>hn _<|I.freeC x c e,λp hp=> ?_,ok,I.len⟩
 ·rw[h0 _ _<|X.hB _ _ e trivial];simp
 ·obtain⟨e,n,r⟩:=I.pin p hp;exact⟨e,hn _ n,r⟩
def ShD(K:aA)(C:BE)(fs:List (Str×D))(m:BE):V->Hp->Prop:=λv F=>∃ (x dx:BE) (od:BH) (mA:Str->Option BC),v=.ref x/\F x=some (exO x<|cH C dx)/\F dx=some (exO dx od)/\dx≠x/\(∀h:BG,h.get? dx=some od->h.Ns1 dx mA)/\(∀f d,fs.lookup f=some d->∃y u,mA f=some u/\RelV y u/\Rep K F d y)/\mA "made"=some (.ref m)/\mA "book_up_to"=none
theorem ShD.mono{C m:BE}{fs:List (Str×D)}{v:V}{F':Hp}(h:ShD K C fs m v F)(s:Same F F'):ShD K C fs m v F':=by obtain⟨x,dx,od,mA,e,h1,h2,ne,n,q,r⟩:=h;exact⟨x,dx,od,mA,e,s _ _ h1,s _ _ h2,ne,n,λf d hf=>let ⟨y,u,a,b,c⟩:=q f d hf;⟨y,u,a,b,c.mono s⟩,r⟩
def mdO(K:aA)(m:BE)(ks:List Key)(ds:List D)(F H:Hp):Prop:=∃xs,H m=some (.dK<|ks.zip xs)/\ks.length=ds.length/\RepL K F ds xs
noncomputable def shX(K:aA)(C:BE)(fs:List (Str×D))(x m:BE)(ks:List Key)(ds:List D):Slot:=.ox [m] λv F H=>v=.ref x/\ShD K C fs m v F/\mdO K m ks ds F H
variable {a:Expr}{p pa:Pos}{ks:List Key}{fs:List (Str×D)}{C m q0:BE}{y f:Str}{j:Nat}
theorem aDj(S:StF X.K X.B₀ F H σ sd)(hj:sd[j]? =some (shX X.K C fs q0 m ks ds)):∃v,σ[j]? =some (some v)/\F m=none/\v=.ref q0/\ShD X.K C fs m v F/\mdO X.K m ks ds F H:=by
 obtain⟨o,h1,v,h2,q,g⟩:=S.slots.get hj;obtain⟨g0,g1,g2⟩:=g F H (Same.refl _) λl hl ob e=>e
 exact⟨v,by rw[h1,h2],(q m<|by simp).1,g0,g1,g2⟩
theorem uW(j:Nat)(hj:sd[j]? =some (shX X.K C fs q0 m ks ds))(hy:PE X (.Name y p) (iT j))(hc:Cls X.K C)(hn:NoAttr X.K C f)(hf:fs.lookup f=some d)(hb:Af (.Name y p) f X.env (eval (.Name y p) X.env)=eval (.Name y p) X.env:=by rfl):
  PEd X sd (.Attribute (.Name y p) f pos) (.val d):=.mk λσ F H S pins s I=>by
 obtain⟨v,h1,_,_,⟨x,dx,od,mA,rfl,e1,e2,ne,ns,q,_⟩,_⟩:=aDj S hj;obtain⟨y0,u0,hm,ru,rp⟩:=q f d hf;refine aAC hb<|thn (hy pins s σ H (λv' H'=>v'=.ref x/\H'=H) I ⟨.ref x,h1,rfl,rfl⟩) λu s1 ⟨v',H',I1,r1,ev,eH⟩=> ?_;subst ev eH;cases(show u=Value.ref x from r1);have g1:s1.heap.get? x=some (cH C dx):=(I1.hok x _<|S.sub _ _ e1).1;have g2:s1.heap.get? dx=some od:=(I1.hok dx _<|S.sub _ _ e2).1;exact aAK I1.kIn ⟨g1,ns _ g2,ne⟩ (hc.get f) hc.hd hn hm (tO ru) ⟨y0,H',I1.tok _,ru,F,S,Same.refl _,rp⟩
theorem aAm(S:StF X.K X.B₀ F H σ sd)(hj:sd[j]? =some (shX X.K C fs q0 m ks ds))(hy:PE X (.Name y p) (iT j))(hc:Cls X.K C)(hn:NoAttr X.K C "made")(hb:Af (.Name y p) "made" X.env (eval (.Name y p) X.env)=eval (.Name y p) X.env:=by rfl):
  wE X (.Attribute (.Name y p) "made" pa) σ H λv H'=>v=.ref m/\H'=H:=λpins s I=>by
 obtain⟨v,h1,_,_,⟨x,dx,od,mA,rfl,e1,e2,ne,ns,_,hm,_⟩,_⟩:=aDj S hj;refine aAC hb<|thn (hy pins s σ H (λv' H'=>v'=.ref x/\H'=H) I ⟨.ref x,h1,rfl,rfl⟩) λu s1 ⟨v',H',I1,r1,ev,eH⟩=> ?_;subst ev eH;cases(show u=Value.ref x from r1);have g1:s1.heap.get? x=some (cH C dx):=(I1.hok x _<|S.sub _ _ e1).1;have g2:s1.heap.get? dx=some od:=(I1.hok dx _<|S.sub _ _ e2).1;exact aAK I1.kIn ⟨g1,ns _ g2,ne⟩ (hc.get "made") hc.hd hn hm (tO (v:=.ref m) rfl) ⟨.ref m,H',I1.tok _,rfl,rfl,rfl⟩
theorem wV{n:Nat}{k:Int}(j:Nat)(hu:X.A.units+1<AS)(hj:sd[j]? =some (shX X.K C fs q0 m ks ds))(hy:PE X (.Name y p) (iT j))(hc:Cls X.K C)(hn:NoAttr X.K C "made")(hb:PEd X sd b (.val<|.int k))(nd:ks.Nodup)(hk:ks[n]? =some (.inl k))(hd:ds[n]? =some d)(hs:aOg b)(hab:Af (.Name y p) "made" X.env (eval (.Name y p) X.env)=eval (.Name y p) X.env:=by rfl):
  PEd X sd (.Subscript (.Attribute (.Name y p) "made" pa) b pos) (.val d):=.mk λσ F H S=>
 (aJP hu eK eK hs).to ((aAm S hj hy hc hn hab).imp fun v H1 ⟨e1,e2⟩=>by
  subst e1 e2;refine(hb σ F H1 S).imp λu H2 ⟨F2,S2,s2,q2⟩=> ?_
  simp only[ResOk,Rep] at q2;subst q2;obtain⟨_,_,_,_,_,xs,q,ln,rl⟩:=aDj S2 hj;obtain⟨w,hw,rw'⟩:=rl.get hd;have g:aLH H2 m (kV<|.inl k) (iX (ks.zip xs)<|.inl k):=.inl ⟨_,.inl k,.inl q,rfl,rfl⟩;rw[aAO nd hk hw] at g
  exact⟨m,w,rfl,g,F2,S2,s2,rw'⟩)
theorem aAX{k:Int}{p2:Pos}(j:Nat)(hu:X.A.units+1<AS)(hj:sd[j]? =some (shX X.K C fs q0 m ks ds))(hy:PE X (.Name y p) (iT j))(hc:Cls X.K C)(hn:NoAttr X.K C "made")(h:PEd X sd e (.val d))(hb:PEd X sd b (.val<|.int k))(hk:(.inl k:Key)∉ks)(hl:ds.length<=10000)(hE:E.nx (sd.set j (shX X.K C fs q0 m (ks++[.inl k])<|ds++[d])))
  (hab:Af (.Name y p) "made" X.env (eval (.Name y p) X.env)=eval (.Name y p) X.env:=by rfl) (hsw:Ab e (some<|.Subscript (.Attribute (.Name y p) "made" pa) b p2) pos.line X.env=pure false:=by rfl):
  PSd1 X sd (.Assign [.Subscript (.Attribute (.Name y p) "made" pa) b p2] e pos) E:=.mk λσ F H S=>
 (aKB hu eK eK eK hsw).to ((h σ F H S).imp fun v H1 ⟨F1,S1,s1,q1⟩=>by
  refine(aAm S1 hj hy hc hn hab).imp λv2 H2 ⟨e1,e2⟩=> ?_
  subst e1 e2;refine(hb σ F1 H2 S1).imp λu H3 ⟨F2,S2,s2,q2⟩=> ?_
  simp only[ResOk,Rep] at q2;subst q2;obtain⟨w,hw,fm,ew,sh,xs,q,ln,rl⟩:=aDj S2 hj;have lz:ks.length=xs.length:=by rw[ln,rl.len]
  have vn:iX (ks.zip xs) (.inl k)=none:=pU hk λ_ z=>z
  refine⟨m,_,rfl,DPut.k (k:=.inl k) q (by rw[jQ,<-lz,pG,ln];exact eX hl), ?_⟩;rw[rY v vn,<-aHJ lz];refine⟨_,F2,S2.reX (z':=shX X.K C fs q0 m (ks++[.inl k])<|ds++[d]) hj hw (λc o hc' e=>by rw[aV (λz=>hc'<|by rw[z];simp[shX,fK])];exact e) (λc o e=> ?_) ⟨w,rfl,λl hl=> ?_,λF' H' sF kp=>⟨ew,sh.mono sF,xs++[v],kp m (by simp) _ bK,by rw[aH,aH,ln];rfl,(rl.app (.one<|Rep.mono s2 q1)).mono sF⟩⟩ (by simp[shX,fK]) (λl hl=>.inl<|by simpa[shX,fK] using hl),s1.trans s2,hE⟩
  ·by_cases z:c=m
   ·subst z;rw[bK] at e;cases e;trivial
   ·rw[aV z] at e;exact S2.smp _ _ e
  ·rw[aI.mp hl]
   exact⟨fm,_,bK,trivial⟩)
noncomputable def VP:R->Prop
 |.val _=>True
 |.pr _ _=>True
 |_=>False
theorem ResOk.chg{H':Hp}{sd':List Slot}{r:R}{v:V}(hr:VP r)(h:ResOk K F H sd r v)(s:Same H H')(ho:∀l∈cA sd',l∈cA sd\/H l=none):ResOk K F H' sd' r v:=by
 cases r with
 |val d=>exact h
 |pr d ls=>
  obtain⟨t,l,xs,y,e,f,g,n,q,rl,no⟩:=h;refine⟨t,l,xs,y,e,f,g,n,s _ _ q,rl,λhl=> ?_⟩
  rcases ho l hl with z|z
  ·exact no z
  ·rw[q] at z;cases z
 |_=>exact hr.elim
variable (Z:Lent K)
noncomputable def aOw(n:Nat)(C:Z.α->List D->R->Prop):Sp:=λvs H Q _=>vs.length=n/\∃ (v:V) (us:List V) (F:Hp) (a:Z.α) (ds:List D) (r:R),vs=v::us/\Same F H/\(∀b,b∉Z.own a->H b=F b)/\Smp H/\dR K F H (Z.sl a) (some v)/\(Z.own a).Nodup/\RepL K F ds us/\C a ds r/\VP r/\
 ∀v' H',(∃F',Same F F'/\Same F' H'/\Smp H'/\dR K F' H' (Z.sl a) (some v)/\ResOk K F' H' [Z.sl a] r v')->Q v' H'
noncomputable def spMR(n:Nat)(C:Z.α->List D->R->Prop):Sp:=λvs H Q _=>vs.length=n/\Smp H/\∃ (v:V) (us:List V) (F:Hp) (a:Z.α) (ds:List D) (r:R),vs=v::us/\Same F H/\dR K F H (Z.sl a) (some v)/\(Z.own a).Nodup/\RepL K F ds us/\C a ds r/\VP r/\
 ∀v' F' H',Same F F'->Same F' H'->Smp H'->dR K F' H' (Z.sl a) (some v)->(∀sd,(∀b∈cA sd,b∈Z.own a\/(∃o,H b=some o)/\F b=none)->ResOk K F' H' sd r v')->(∀b o,b∉Z.own a->H b=some o->H' b=some o)->(∀b o,b∉Z.own a->H b=some o->F b=none->F' b=none/\b∉Z.own a)->Q v' H'
def vlC(C:Z.α->List D->D->Prop):Z.α->List D->R->Prop:=λa ds r=>∃d,r=.val d/\C a ds d
noncomputable def aLw(n:Nat)(C:Z.α->List D->D->Prop):Sp:=aOw Z n<|vlC Z C
noncomputable def aOn(n:Nat)(C:Z.α->List D->D->Prop):Sp:=λvs H Q _=>vs.length=n/\Smp H/\∃ (v:V) (us:List V) (F:Hp) (a:Z.α) (ds:List D) (d:D),vs=v::us/\Same F H/\dR K F H (Z.sl a) (some v)/\(Z.own a).Nodup/\RepL K F ds us/\C a ds d/\
 ∀v' F' H',Same F F'->Same F' H'->Smp H'->dR K F' H' (Z.sl a) (some v)->Rep K F' d v'->(∀b o,b∉Z.own a->H b=some o->H' b=some o)->(∀b o,b∉Z.own a->H b=some o->F b=none->F' b=none/\b∉Z.own a)->Q v' H'
noncomputable def rtV(a:Z.α)(d:D):R:=.ox λv as F H=>as=Z.own a/\Rep K F d v/\Z.G a (.ref<|Z.ad a) F H
noncomputable def rtR(a:Z.α):R->R
 |.pr d ls=>.ox λv as F H=>∃t l xs y,as=Z.own a++[l]/\v=.ref t/\F t=some (.tup [y,.ref l])/\Rep K F d y/\H l=some (.lst xs)/\RepL K F ls xs/\∀F2 H2,Same F F2->(∀b∈Z.own a,∀ob,H b=some ob->H2 b=some ob)->Z.G a (.ref<|Z.ad a) F2 H2
 |.val d=>rtV Z a d
 |r=>r
theorem FnOk.framedR{Z:Lent K}{n:Nat}{f:BE}{C:Z.α->List D->R->Prop}(G:FnOk P w K mg base CX0 k f fd ps (aOw Z n C)):FnOk P w K mg base CX0 k f fd ps (spMR Z n C):=by
 have res:∀ {F H:Hp}{a:Z.α}{v:V},Same F H->dR K F H (Z.sl a) (some v)->Same F (kR (Z.own a) F H)/\Same (kR (Z.own a) F H) H/\dR K F (kR (Z.own a) F H) (Z.sl a) (some v):=λ{F H a v} sF so=>by
  obtain⟨v',ev,ow,gg⟩:=so;refine⟨λb o e=> ?_,λb o e=> ?_,v',ev,λb hb=>⟨(ow b hb).1, ?_⟩,λF' H' s k=>gg F' H' s λb hb ob e=>k b hb ob<|by rw[lF hb];exact e⟩
  ·by_cases h:b∈Z.own a
   ·rw[(ow b h).1] at e;cases e
   ·rw[gQ h];exact e
  ·by_cases h:b∈Z.own a
   ·rw[lF h] at e;exact e
   ·rw[gQ h] at e;exact sF b o e
  ·rw[lF hb];exact(ow b hb).2
 refine⟨λvs H Q E h=> ?_,λA outer s H args us vs Q E hr e0 hb rv h=> ?_⟩
 ·obtain⟨hl,sm,v,us,F,a,ds,d,e,sF,so,nd,rl,c,vp,_⟩:=h;obtain⟨q1,q2,q3⟩:=res sF so;exact G.len vs (kR (Z.own a) F H) (λ_ _=>True) E ⟨hl,v,us,F,a,ds,d,e,q1,λb hb=>gQ hb,sm.sub q2,q3,nd,rl,c,vp,λ_ _ _=>trivial⟩
 ·obtain⟨hl,sm,v,us',F,a,ds,d,ev,sF,so,nd,rl,c,vp,q⟩:=h;obtain⟨q1,sU,q3⟩:=res sF so;obtain⟨_,_,ow,_⟩:=id so;have nU:∀b,b∉Z.own a->F b=none->kR (Z.own a) F H b=none:=λb hbl n=>by rw[gQ hbl];exact n
  have e1:Env0 P w K mg base A outer s (kR (Z.own a) F H):=⟨e0.frames,e0.mod,λb o e=>⟨(e0.bs b o e).1,sU.free (e0.bs b o e).2⟩,e0.bsz,e0.funs,λb hb=>sU.free<|e0.frf b hb,λb o e=>(e0.hok b o<|sU b o e).smp (sm b o<|sU b o e),e0.bare⟩;refine Ap (G.run A outer s (kR (Z.own a) F H) args us vs (λv3 F3=>∃F',Same F F'/\Same F' F3/\Smp F3/\dR K F' F3 (Z.sl a) (some v)/\ResOk K F' F3 [Z.sl a] d v3) E hr e1 hb rv ⟨hl,v,us',F,a,ds,d,ev,q1,λb hb=>gQ hb,sm.sub sU,q3,nd,rl,c,vp,λv' H' z=>z⟩) λrr s' hrr=> ?_
  cases rr with
  |error e=>exact hrr
  |ok flw=>
   cases flw with
   |ret u=>
    obtain⟨v3,F3,ho,ha,un,hk,ru,F2,s1,s2,sm3,so3,rp3⟩:=hrr
    have keepF:∀b o,b∉Z.own a->H b=some o->F b=none->F3 b=none:=λb o hbl e n=>by
     have lt:=e0.hok.lt e;cases g:s.heap.get? b with
     |none=>
      exfalso;have ob:=e0.hok b o e;have z:=sm b o e;cases o with
      |lst xs=>obtain⟨_,_,_,_,g'⟩:=ob;rw[g] at g';cases g'
      |tup xs=>obtain⟨_,_,_,oo,g',_⟩:=ob;rw[g] at g';cases g'
      |dK kvs=>obtain⟨_,_,_,_,oo,_,_,g',_⟩:=ob;rw[g] at g';cases g'
      |frz o2 u2=>obtain⟨g',_⟩:=ob;rw[g] at g';cases g'
      |ext φ=>obtain⟨_,⟨oo,g'⟩,_⟩:=ob;rw[g] at g';cases g'
      |_=>exact z
     |some ob=>exact un.free b ob g (nU b hbl n)<|by simp
    have keepO:∀b o,b∉Z.own a->H b=some o->F b=none->∀ob,s.heap.get? b=some ob->s'.heap.get? b=some ob:=λb o hbl e n ob g=>un.keep b ob g (nU b hbl n) (λhb=>by have:=e0.frf b hb;rw[e] at this;cases this)<|by simp
    have sH:∀b o,b∉Z.own a->H b=some o->fS (Z.own a) F3 H b=some o:=λb o hbl e=>by
     cases g:F b with
     |none=>rw[gE hbl<|keepF b o hbl e g];exact e
     |some o'=>have:=sF b o' g;rw[e] at this;cases this;exact fN _ _ (s2 _ _<|s1 _ _ g)
    have nl:∀ {b:BE}{o:HO},H b=some o->¬ Wr b o->b∉Z.own a:=λe no z=>by obtain⟨_,ob,g,wr⟩:=ow _ z;rw[e] at g;cases g;exact no wr
    have nn:∀ {b:BE},H b=none->b∉Z.own a:=λe z=>by obtain⟨_,ob,g,_⟩:=ow _ z;rw[e] at g;cases g
    have smM:Smp (fS (Z.own a) F3 H):=λb o e=>by
     by_cases hbl:b∈Z.own a
     ·unfold fS at e;rw[if_pos hbl] at e;exact sm3 _ o e
     ·cases g:F3 b with
      |some o'=>have:=fN (as:=Z.own a) (H:=H) b o' g;rw[e] at this;cases this;exact sm3 b o g
      |none=>rw[gE hbl g] at e;exact sm b o e
    have soM:dR K F2 (fS (Z.own a) F3 H) (Z.sl a) (some v):=by obtain⟨v',ev,ow3,gg⟩:=so3;refine⟨v',ev,λb hb=>⟨(ow3 b hb).1, ?_⟩,λF' H' s k=>gg F' H' s λb hb ob e=>k b hb ob<|fN _ _ e⟩;obtain⟨_,ob,g,wr⟩:=ow3 b hb;exact⟨ob,fN _ _ g,wr⟩
    refine⟨v3,fS (Z.own a) F3 H,ho,ha,⟨λb o g n hb hx=>un.keep b o g (sU.free n) hb hx,λb o g n hb hx=>un.slot b o g (sU.free n) hb hx,λb o g n hx=> ?_,un.there,λb xs e=>sH _ _ (nl e λz=>z) e,λb o u e=>sH _ _ (nl e λz=>z) e,λb ps e=>⟨#[],by rw[sH _ _ (nl e λz=>z) e];simp⟩⟩,λb o e=> ?_,ru, ?_⟩
    ·rw[gE (nn n)<|un.free b o g (sU.free n) hx];exact n
    ·have z:=smM b o e
     by_cases hbl:b∈Z.own a
     ·have e':F3 b=some o:=by unfold fS at e;rw[if_pos hbl] at e;exact e
      exact(hk b o e').smp z
     ·cases g:F3 b with
      |some o'=>have:=fN (as:=Z.own a) (H:=H) b o' g;rw[e] at this;cases this;exact(hk b o g).smp z
      |none=>
       rw[gE hbl g] at e
       have n:F b=none:=by
        cases g2:F b with
        |none=>rfl
        |some o2=>rw[s2 _ _<|s1 _ _ g2] at g;cases g
       have st:=(e0.hok b o e).smp (F:=λ_=>none) z
       have:ObjOk P w (fun _=>none) s'.heap b o:=st.stay (fun b2 u hb2 gg=>by
        rcases hb2 with rfl|hb2
        ·exact keepO _ o hbl e n u gg
        ·cases hb2) (λb2 hb2=>nomatch hb2) λb2 xs hb2=>nomatch hb2
       exact this.smp z
    ·refine q v3 F2 (fS (Z.own a) F3 H) s1 (s2.trans fN) smM soM (λsd hsd=>rp3.chg vp fN λb hb=>(hsd b hb).elim (λz=>.inl<|by simpa[cA,fK,Lent.sl] using z) λz=>if hbl:b∈Z.own a then .inl (by simpa[cA,fK,Lent.sl] using hbl) else .inr (let ⟨o,e⟩:=z.1;keepF b o hbl e z.2)) sH λb o hbl e n=> ?_
     have n3:=keepF b o hbl e n;refine⟨s2.free n3,λhb=> ?_⟩;obtain⟨_,_,ow3,_⟩:=so3;obtain⟨_,ob,g,_⟩:=ow3 b hb;rw[n3] at g;cases g
   |_=>exact hrr
theorem FnOk.weak{f:BE}{S1 S2:Sp}(G:FnOk P w K mg base CX0 k f fd ps S1)(h:∀vs H Q E,S2 vs H Q E->S1 vs H Q E):FnOk P w K mg base CX0 k f fd ps S2:=⟨λvs H Q E z=>G.len vs H Q E<|h _ _ _ _ z,λA outer s H args us vs Q E hr e0 hb rv z=>G.run A outer s H args us vs Q E hr e0 hb rv<|h _ _ _ _ z⟩
theorem FnOk.framedV{Z:Lent K}{n:Nat}{f:BE}{C:Z.α->List D->D->Prop}(G:FnOk P w K mg base CX0 k f fd ps (aLw Z n C)):FnOk P w K mg base CX0 k f fd ps (aOn Z n C):=FnOk.weak (FnOk.framedR G) λvs H Q E h=>by obtain⟨hl,sm,v,us,F,a,ds,d,ev,sF,so,nd,rl,c,q⟩:=h;exact⟨hl,sm,v,us,F,a,ds,.val d,ev,sF,so,nd,rl,⟨d,rfl,c⟩,trivial,λv' F' H' s1 s2 sm' so' res kp kf=>q v' F' H' s1 s2 sm' so' (res [] λb hb=>by cases hb) kp kf⟩
theorem aNP{Z:Lent K}{f:BE}{C:Z.α->List D->R->Prop}(F:Fun K x qual st f fd)(S:gO N ps (aO st))
  (body:∀ (cdv:BC) (A:BF) (outer:List Env) (s:BD) (H:Hp) (E:XK) (B:Hp) (hB:∀b o,H b=some o→mS o→B b=some o),Room k (A.deeper (Ai qual (aO st) s.heap.objs.size f cdv))→∀a ds r,ds.length+1=ps.length→C a ds r→
   PSd (reB (iF CX0 P w K mg base N qual (aO st) f cdv A outer s H E).nox B hB) (jV Z N.length a ds) (cN st) {nx:=λ_=>False,rt:=λr'=>r'=rtR Z a r})
  (hw:∀ (a:Z.α) (v:V) (F H:Hp) (b:BE) (o:HO),Z.G a v F H->b∈Z.own a->H b=some o->¬ mS o):FnOk P w K mg base CX0 (k+1) f fd ps (aOw Z ps.length C):=by
 refine F.ok S (λvs H Q E h=>h.1) λcdv A outer s H vs Q E hr h=> ?_
 obtain⟨hl,v,us,F0,a,ds,d,rfl,sF,hH,sm,so,nd,rl,c,vp,q⟩:=h;have hds:ds.length+1=ps.length:=by rw[<-rl.len];exact hl
 have hB:∀b o,H b=some o->mS o->F0 b=some o:=λb o e no=>by
  by_cases hbl:b∈Z.own a
  ·obtain⟨_,_,_,gg⟩:=so;exact absurd no<|hw a _ F0 H b o (gg F0 H (Same.refl _) λ_ _ _ e=>e) hbl e
  ·rw[<-hH b hbl];exact e
 refine⟨_,pss_w,aAG (B:=F0) (hb:=hB) ?_⟩;have hlen:N.length-(us.length+1)=N.length-(ds.length+1):=by rw[rl.len]
 have S0:StF K F0 F0 H (L2.start N (v::us)) (jV Z N.length a ds):=by
  refine⟨Same.refl _,sF,sm, ?_, ?_⟩
  ·unfold L2.start jV;show SlotsOk K F0 _ (_::_) (some v::(us.map some++bG (N.length-(us.length+1)) none));rw[hlen];exact⟨_,_,rfl,so,jG (m:=0) rl⟩
  ·unfold jV;rw[lQ,jH,bN];exact nd
 refine(body cdv A outer s _ E F0 hB hr a ds d hds c (L2.start N (v::us)) F0 _ S0).imp (λ_ _ ⟨_,_,_,_,z⟩=>z.elim) ?_ (λ_ _ ⟨_,_,_,_,z⟩=>z) λ_ _ ⟨_,_,_,_,z⟩=>z
 rintro v' H' ⟨r',ro,e⟩;have e:r'=rtR Z a d:=e;subst e;obtain⟨v0,ev,_,g0⟩:=so;cases ev;have e0:=Z.hv<|g0 F0 H (Same.refl _) λ_ _ _ e=>e;cases d with
 |val d=>
  obtain⟨F',b1,b2,b3,as,nd',ow,gg⟩:=ro;obtain⟨e1,e2,e3⟩:=gg F' H' (Same.refl _) λ_ _ _ e=>e
  subst e1;refine q v' H' ⟨F',b1,b2,b3,⟨v,rfl,λl hl=>⟨(ow l hl).1,(ow l hl).2.1⟩,λF2 H2 s2 k2=> ?_⟩,e2⟩;rw[e0];exact(gg F2 H2 s2 k2).2.2
 |pr d ls=>
  obtain⟨F',b1,b2,b3,as,nd',ow,gg⟩:=ro;obtain⟨t,l,xs,y,e1,e2,e3,e4,e5,e6,e7⟩:=gg F' H' (Same.refl _) λ_ _ _ e=>e
  subst e1;have nl:l∉Z.own a:=λz=>(bH.mp nd').2.2 l z l (by simp) rfl
  refine q v' H' ⟨F',b1,b2,b3,⟨v,rfl,λl hl=>⟨(ow l<|bO _ hl).1,(ow l<|bO _ hl).2.1⟩,λF2 H2 s2 k2=> ?_⟩,t,l,xs,y,e2,e3,e4,(ow l<|by simp).1,e5,e6,by simpa[cA,fK,Lent.sl] using nl⟩;rw[e0];exact e7 F2 H2 s2 k2
 |_=>exact vp.elim
theorem aDG{Z:Lent K}{f:BE}{C:Z.α->List D->D->Prop}(F:Fun K x qual st f fd)(S:gO N ps (aO st))
  (body:∀ (cdv:BC) (A:BF) (outer:List Env) (s:BD) (H:Hp) (E:XK) (B:Hp) (hB:∀b o,H b=some o→mS o→B b=some o),Room k (A.deeper (Ai qual (aO st) s.heap.objs.size f cdv))→∀a ds d,ds.length+1=ps.length→C a ds d→
   PSd (reB (iF CX0 P w K mg base N qual (aO st) f cdv A outer s H E).nox B hB) (jV Z N.length a ds) (cN st) {nx:=λ_=>False,rt:=λr=>r=rtV Z a d})
  (hw:∀ (a:Z.α) (v:V) (F H:Hp) (b:BE) (o:HO),Z.G a v F H→b∈Z.own a→H b=some o→¬ mS o):FnOk P w K mg base CX0 (k+1) f fd ps (aLw Z ps.length C):=aNP (C:=vlC Z C) F S (fun cdv A outer s H E B hB hr a ds r hl c=>by
 obtain⟨d,rfl,c⟩:=c
 exact body cdv A outer s H E B hB hr a ds d hl c) hw
noncomputable def shL(K:aA)(C:BE)(fs:List (Str×D))(J:List Key->List D->Prop):Lent K where
 α:=BE×BE
 ad a:=a.1
 own a:=[a.2]
 G a v F H:=v=.ref a.1/\ShD K C fs a.2 v F/\∃ks ds,J ks ds/\mdO K a.2 ks ds F H
 hv h:=h.1
variable {J:List Key->List D->Prop}{sts:List BI}
theorem zB(i:Nat){a:BE×BE}(hs:sd[i]? =some ((shL X.K C fs J).sl a))(h:∀ks ds,J ks ds->PSd X (sd.set i<|shX X.K C fs a.1 a.2 ks ds) sts E):PSd X sd sts E:=.mk λσ F H S=>by
 obtain⟨o,h1,v,h2,q,g⟩:=S.slots.get hs;obtain⟨ev,g1,ks,ds,hj,xs,q1,q2,q3⟩:=g F H (Same.refl _) λ_ _ _ e=>e
 have S2:StF X.K X.B₀ F H σ (sd.set i<|shX X.K C fs a.1 a.2 ks ds):=S.reX (z':=shX X.K C fs a.1 a.2 ks ds) hs h1 (λ_ _ _ e=>e) S.smp ⟨v,h2,q,λF' H' sF k=>⟨ev,g1.mono sF,xs,k _ (by simp) _ q1,q2,q3.mono sF⟩⟩ (by simp[shX,fK]) (λl hl=>.inl<|by simpa[shX,fK,Lent.sl,shL] using hl);exact h ks ds hj σ F H S2
theorem rP{Z:Lent X.K}{a:Z.α}(i:Nat)(hs:sd[i]? =some (Z.sl a))(h:PEd X sd e (.val d))(hE:E.rt (rtV Z a d)):PSd1 X sd (.Return (some e) pos) E:=.mk λσ F H S=>
 (tG eK).to ((h σ F H S).imp fun v H1 ⟨F1,S1,s1,q1⟩=>by
  obtain⟨o,h1,v0,h2,ow,gg⟩:=S1.slots.get hs;have ev:=Z.hv<|gg F1 H1 (Same.refl _) λ_ _ _ e=>e;subst ev
  exact⟨rtV Z a d,⟨F1,S1.base,S1.sub,S1.smp,Z.own a,gN S1.nd hs,λl hl=>⟨(ow l hl).1,(ow l hl).2,by simp[cA]⟩,λF' H' sF k=>⟨rfl,Rep.mono sF q1,gg F' H' sF k⟩⟩,hE⟩)
theorem aCk{a:BE×BE}(i:Nat)(hs:sd[i]? =some (shX X.K C fs a.1 a.2 ks ds))(hJ:J ks ds)(h:PEd X sd e (.val d))(hE:E.rt (rtV (shL X.K C fs J) a d)):PSd1 X sd (.Return (some e) pos) E:=.mk λσ F H S=>
 (tG eK).to ((h σ F H S).imp fun v H1 ⟨F1,S1,s1,q1⟩=>by
  obtain⟨o,h1,v0,h2,ow,gg⟩:=S1.slots.get hs
  exact ⟨rtV (shL X.K C fs J) a d,⟨F1,S1.base,S1.sub,S1.smp,[a.2],gN S1.nd hs,fun l hl=>⟨(ow l hl).1,(ow l hl).2,by simp [cA]⟩,fun F' H' sF k=>⟨rfl,Rep.mono sF q1,by
   obtain⟨g0,g1,g2⟩:=gg F' H' sF k;subst g0
   exact⟨rfl,g1,ks,ds,hJ,g2⟩⟩⟩,hE⟩)
theorem mD{a:BE×BE}(j:Nat)(hj:sd[j]? =some ((shL X.K C fs J).sl a))(hy:PE X (.Name y p) (iT j))(hc:Cls X.K C)(hn:NoAttr X.K C f)(hf:fs.lookup f=some d)(hb:Af (.Name y p) f X.env (eval (.Name y p) X.env)=eval (.Name y p) X.env:=by rfl):
  PEd X sd (.Attribute (.Name y p) f pos) (.val d):=.mk λσ F H S pins s I=>by
 obtain⟨o,h1,v,h2,_,gg⟩:=S.slots.get hj;obtain⟨_,⟨x,dx,od,mA,rfl,e1,e2,ne,ns,q,_⟩,_⟩:=gg F H (Same.refl _) λ_ _ _ e=>e
 obtain⟨y0,u0,hm,ru,rp⟩:=q f d hf;refine aAC hb<|thn (hy pins s σ H (λv' H'=>v'=.ref x/\H'=H) I ⟨.ref x,by rw[h1,h2],rfl,rfl⟩) λu s1 ⟨v',H',I1,r1,ev,eH⟩=> ?_;subst ev eH;cases(show u=Value.ref x from r1);have g1:s1.heap.get? x=some (cH C dx):=(I1.hok x _<|S.sub _ _ e1).1;have g2:s1.heap.get? dx=some od:=(I1.hok dx _<|S.sub _ _ e2).1;exact aAK I1.kIn ⟨g1,ns _ g2,ne⟩ (hc.get f) hc.hd hn hm (tO ru) ⟨y0,H',I1.tok _,ru,F,S,Same.refl _,rp⟩
theorem oV{k:Int}(j:Nat)(hu:X.A.units+1<AS)(hj:sd[j]? =some (shX X.K C fs q0 m ks ds))(hy:PE X (.Name y p) (iT j))(hc:Cls X.K C)(hn:NoAttr X.K C "made")(hb:PEd X sd b (.val<|.int k))(t:Bool)(ht:∀xs:List V,ks.length=xs.length->(iX (ks.zip xs)<|.inl k).isSome= !t)(hab:Af (.Name y p) "made" X.env (eval (.Name y p) X.env)=eval (.Name y p) X.env:=by rfl)(hbm:AU .NotIn (.Attribute (.Name y p) "made" pa)=false:=by rfl):
  PTd X sd (.Compare b [.NotIn] [.Attribute (.Name y p) "made" pa] pos) t:=.mk λσ F H S=>
 (aMC (aFt hu eK eK) hbm).to ((hb σ F H S).imp fun u H1 ⟨F1,S1,s1,q1⟩=>by
  simp only[ResOk,Rep] at q1;subst q1;refine(aAm S1 hj hy hc hn hab).imp λv H2 ⟨e1,e2⟩=> ?_
  subst e1 e2;obtain⟨_,_,_,_,_,xs,q,ln,rl⟩:=aDj S1 hj;refine⟨m,iX (ks.zip xs)<|.inl k,rfl,.inl ⟨_,.inl k,.inl q,rfl,rfl⟩, ?_⟩;rw[ht xs<|by rw[ln,rl.len]]
  exact⟨t,by simp,rfl,F1,S1,s1⟩)
structure kJ(P:AE)(w:AM)(K:aA)(Z:Lent K)(mg:Str->Option BC)(base:BG)(x:Str)(k n:Nat)(C:Z.α->List D->D->Prop):Prop where
 ex:∃ (f:BE) (fd:AN) (ps:List Str),mg x=some (.ref f)/\cO K (.ref f)=true/\Binds K fd ps []/\FnOk P w K mg base CX0 k f fd ps (aLw Z n C)
def aJm(K:aA)(C:BE)(m:Str)(x:BE)(F:Hp):Prop:=∃ (dx:BE) (od:BH) (mA:Str->Option BC),F x=some (exO x<|cH C dx)/\F dx=some (exO dx od)/\dx≠x/\(∀h:BG,h.get? dx=some od->h.Ns1 dx mA)/\mA m=none
variable {p2 apos:Pos}{Cl f:BE}{m g:Str}{n:Nat}
theorem aQg{Z:Lent X.K}{C:Z.α->List D->D->Prop}{a:Z.α}{v:V}{us:List V}{Q:VK}{E:XK}(i:Nat)(hs:sd[i]? =some (Z.sl a))(S:StF X.K X.B₀ F H σ sd)(hv:σ[i]? =some (some v))(rl:RepL X.K F ds us)(hc:C a ds d)(hn:ds.length+1=n)
  (q:∀v' F' H',StF X.K X.B₀ F' H' σ sd->Same F F'->Rep X.K F' d v'->Q v' H'):aOn Z n C (v::us) H Q E:=by
 obtain⟨o1,g1,so⟩:=S.slots.get hs
 have eo:o1=some v:=by rw[hv] at g1;exact(bZ.inj g1).symm
 subst eo;refine⟨by rw[bF,rl.len];exact hn,S.smp,v,us,F,a,ds,d,rfl,S.sub,so,gN S.nd hs,rl,hc,λv' F' H' s2 s3 sm so' rp kp kf=>q v' F' H' ?_ s2 rp⟩;have S2:=S.le<|gB sd i;have no:∀b,b∈cA (sd.set i .un)->b∉Z.own a:=λb hb z=>gR S.nd hs (show b∈fK (Z.sl a) from z) hb
 have S3:StF X.K X.B₀ F' H' σ (sd.set i .un):=⟨fun b o e=>s2 _ _ (S.base _ _ e),s3,sm,S2.slots.mono s2 fun b hb=>by
  obtain⟨n1,ob,e,_⟩:=S2.slots.owns hb
  exact⟨(kf b ob (no b hb) e n1).1,λxs e'=>kp b xs (no b hb) e'⟩,S2.nd⟩
 have S4:=S3.setT i so' (gN S.nd hs) λb hb hb2=>by obtain⟨n1,ob,e,_⟩:=S2.slots.owns hb2;exact(kf b ob (no b hb2) e n1).2 hb
 rw[jS,lR g1] at S4
 have es:sd.set i (Slot.ox (Z.own a)<|Z.G a)=sd:=by obtain⟨hi,e⟩:=aE.mp hs;rw[show Slot.ox (Z.own a) (Z.G a)=sd[i] from e.symm];exact pX hi
 rw[es] at S4;exact S4
theorem aGM{Z:Lent X.K}{C:Z.α->List D->D->Prop}{a:Z.α}(i:Nat)(hs:sd[i]? =some (Z.sl a))(hxi:PE X (.Name x p2) (iT i))(G:kJ X.prog X.w X.K Z X.mg X.base g k n C)(hr:Room k X.A)(hg:Gl X g)(ha:PAd X sd es (ds.map R.val))(hc:C a ds d)(hn:ds.length+1=n)
  (hdb:(g==("__debug__":Str))=false:=by decide) (he:AB (.Name x p2::es) X.env=(false,eval (.Name x p2) X.env)::AB es X.env:=by rfl) (hpl:(AX pos<|AB es X.env).any (·.1)=false:=by rfl):
  PEd X sd (.Call (.Name g p) (.Name x p2::es) [] pos) (.val d):=.mk λσ F H S=>by
 obtain⟨fa,fd,ps,hm,hkp,bd,G⟩:=G.ex;obtain⟨o0,h1,v,h2,_⟩:=S.slots.get hs;refine(rM (FnOk.framedV G) hr hg hm hkp bd .nil xJ (dA hxi oK he) hdb he hpl).to ⟨v,by rw[h1,h2],(ha σ F H S).imp λus H1 ⟨F1,S1,s1,q1⟩=> ?_⟩;show aOn Z n C (v::us++[]) H1 _ _;rw[bN];exact aQg i hs S1 (by rw[h1,h2]) q1.vals hc hn λv' F' H' S' s' r'=>⟨F',S',s1.trans s',r'⟩
theorem aGH{pl:Sem Bool}{Z:Lent X.K}{C:Z.α->List D->D->Prop}{a:Z.α}(i:Nat)(hs:sd[i]? =some (Z.sl a))(hxi:PE X (.Name x p2) (iT i))(hi:∀F H,Z.G a (.ref<|Z.ad a) F H->aJm X.K Cl m (Z.ad a) F)(c:Cls X.K Cl)(hm:aLG X.K Cl m f)(G:FnOk X.prog X.w X.K X.mg X.base CX0 k f fd ps (aLw Z n C))(hr:Room k X.A)(bd:Binds X.K fd ps [])(ha:PAd X sd (e::es) (ds.map R.val))(hc:C a ds d)(hn:ds.length+1=n)
  (hst:AB (e::es) X.env=(false,eval e X.env)::AB es X.env:=by rfl) (hpl:(AX pos<|AB es X.env).any (·.1)=false:=by rfl)
  (ht:eval (.Call (.Attribute (.Name x p2) m apos) (e::es) [] pos) X.env=(do
   let ov <-eval (.Name x p2) X.env
   standAt apos.atName
   let (f,first) <-holding [ov] (getMethod ov m pl)
   callWith pos f first (AX pos (AB (e::es) X.env)) (backToKw pos (keywordEach [] X.env))):=by rfl):
  PEd X sd (.Call (.Attribute (.Name x p2) m apos) (e::es) [] pos) (.val d):=.mk λσ F H S pins s I=>by
 obtain⟨o0,h1,v,h2,_,gg⟩:=S.slots.get hs;have g0:=gg F H (Same.refl _) λ_ _ _ e=>e
 have ev:=Z.hv g0;subst h2 ev;obtain⟨dx,od,mA,e1,e2,ne,ns,hmA⟩:=hi F H g0;refine aBa (pl:=pl) (thn (hxi pins s σ H (λv' H'=>v'=.ref (Z.ad a)/\H'=H) I ⟨.ref<|Z.ad a,h1,rfl,rfl⟩) λu s1 ⟨v',H',I1,r1,ev,eH⟩=> ?_) ht;subst ev eH;cases(show u=Value.ref (Z.ad a) from r1);have g1:s1.heap.get? (Z.ad a)=some (cH Cl dx):=(I1.hok _ _<|S.sub _ _ e1).1;have g2:s1.heap.get? dx=some od:=(I1.hok dx _<|S.sub _ _ e2).1;refine aBH I1.kIn ⟨g1,ns _ g2,ne⟩ (c.get m) hm.at_ hm.fn hmA ?_;refine eM (first:=[.ref<|Z.ad a]) (h₀:=X.base) I.ok.mod.kin hm.kp (thn ((oK:PA X (e::es) _) pos pins s1 σ H' _ I1<|ha σ F H' S) λus s2 ⟨vs,H2,I2,r,F1,S1,s1',q1⟩=>⟨I2.kIn, ?_⟩) hst hpl;refine aIM (us:=.ref (Z.ad a)::us) (vs:=.ref (Z.ad a)::vs) (FnOk.framedV G) hr bd .nil xJ I2 (.cons rfl r) ?_;rw[bN];exact aQg i hs S1 h1 q1.vals hc hn λv' F' H' S' s' r'=>⟨F',S',s1'.trans s',r'⟩
structure PSo(X:Cx)(sd:List Slot)(e:Expr)(Z:Lent X.K):Prop where
 run:∀ (σ:St) (F H:Hp),StF X.K X.B₀ F H σ sd->wE X e σ H λv H'=>∃F' a,StF X.K X.B₀ F' H' σ sd/\Same F F'/\dR X.K F' H' (Z.sl a) (some v)/\(Z.own a).Nodup/\∀l∈Z.own a,l∉cA sd
noncomputable def aGp:List Nat->TA
 |[]=>aGi
 |j::js=>oP (iT j)<|aGp js
theorem StF.layW{H₀:Hp}{p:BE}{o:HO}(S:StF K H₀ F H σ sd)(hp:H p=none)(ho:aOm o):StF K H₀ F (upd H p o) σ sd/\F p=none/\p∉cA sd:=by
 have fp:F p=none:=S.sub.free hp;refine⟨⟨S.base,λb u e=> ?_,λb u e=> ?_,S.slots.mono (Same.refl _) λl hl=> ?_,S.nd⟩,fp,λhl=> ?_⟩
 ·rw[aV<|cJ e fp];exact S.sub _ _ e
 ·by_cases h:b=p
  ·subst h;rw[bK] at e;cases e;exact ho
  ·rw[aV h] at e;exact S.smp _ _ e
 ·obtain⟨n,ys,q,_⟩:=S.slots.owns hl;have hne:l≠p:=cJ q hp;exact⟨n,λys e=>by rw[aV hne];exact e⟩
 ·obtain⟨n,ys,q,_⟩:=S.slots.owns hl;rw[hp] at q;cases q
theorem tP{K:aA}{H₀ F H:Hp}{σ:St}{sd:List Slot}(S:StF K H₀ F H σ sd):∀ {js:List Nat}{ds:List D},js.map (λj=>sd[j]?)=ds.map (λd=>some<|Slot.val d)->∃us,RepL K F ds us/\∀H1 Q,Q us H1->aGp js σ H1 Q
 |[],[],_=>⟨[],.nil,λ_ _ q=>q⟩
 |[],_::_,h=>by cases h
 |_::_,[],h=>by cases h
 |j::js,d::ds,h=>by obtain⟨h1,h2⟩:=aDf.inj h;obtain⟨us,r,q⟩:=tP S h2;obtain⟨o,g1,v,g2,rp⟩:=S.slots.get h1;exact⟨v::us,.cons rp r,λH1 Q qq=>⟨v,by rw[g1,g2],q H1 _ qq⟩⟩
theorem zN{e0:Expr}{Z:Lent X.K}{C:Z.α->List D->D->Prop}(js:List Nat)(h0:PSo X sd e0 Z)(G:kJ X.prog X.w X.K Z X.mg X.base g k n C)(hr:Room k X.A)(hg:Gl X g)(ha:PA X es (aGp js))(hj:js.map (λj=>sd[j]?)=ds.map λd=>some<|Slot.val d)(hc:∀a,C a ds d)(hn:ds.length+1=n)
  (hdb:(g==("__debug__":Str))=false:=by decide) (he:AB (e0::es) X.env=(false,eval e0 X.env)::AB es X.env:=by rfl) (hpl:(AX pos<|AB es X.env).any (·.1)=false:=by rfl):
  PEd X sd (.Call (.Name g p) (e0::es) [] pos) (.val d):=.mk λσ F H S=>by
 obtain⟨fa,fd,ps,hm,hkp,bd,G⟩:=G.ex;refine(rM (FnOk.framedV G) hr hg hm hkp bd .nil xJ (dA eK ha he) hdb he hpl).to<|(h0.run σ F H S).imp λv H1 ⟨F1,a,S1,s1,so,nd,no⟩=> ?_;obtain⟨us,rl,q⟩:=tP S1 hj;refine q H1 _ ?_;show aOn Z n C (v::us++[]) H1 _ _;rw[bN];refine⟨by rw[bF,rl.len];exact hn,S1.smp,v,us,F1,a,ds,d,rfl,S1.sub,so,nd,rl,hc a,λv' F' H' s2 s3 sm so' rp kp kf=>⟨F', ?_,s1.trans s2,rp⟩⟩
 exact ⟨fun b o e=>s2 _ _ (S1.base _ _ e),s3,sm,S1.slots.mono s2 fun b hb=>by
  obtain⟨n1,ob,e,_⟩:=S1.slots.owns hb
  exact⟨(kf b ob (λz=>no b z hb) e n1).1,λxs e'=>kp b xs (λz=>no b z hb) e'⟩,S1.nd⟩
theorem nsm4:¬ ("book_up_to":Str)="made":=by decide+kernel
theorem nsm5:¬ ("book_up_to":Str)="stock":=by decide+kernel
theorem nsm6:¬ ("book_up_to":Str)="size":=by decide+kernel
theorem aHN(v1 v2:V)(m:BE):(shF v1 v2 m).lookup ("made":Str)=some (.ref m):=by unfold shF;rw[fH,if_pos rfl]
theorem aGC(v1 v2:V)(m:BE):(shF v1 v2 m).lookup ("book_up_to":Str)=none:=by unfold shF;rw[fH,if_neg nsm4,fH,if_neg nsm5,fH,if_neg nsm6];rfl
noncomputable def xB(C:BE):Sp:=λvs H Q _=>∃ (x dx:BE) (v1 v2:V),vs=[.ref x,v1,v2]/\H x=some (.ins C dx [])/\∀m,H m=none->Q .non (upd (upd H m<|.dK []) x (.ins C dx<|shF v1 v2 m))
theorem rN{e1 e2:Expr}{d1 d2:D}(hJ:J [] [])(T:oX X.K X.mg C)(M:Mk X.K C f)(G:FnOk X.prog X.w X.K X.mg X.base CX0 1 f fd ["self","size","stock"] (xB C))(hb:Binds X.K fd ["self","size","stock"] [])(hr:Room 2 X.A)(hg:Gl X "Shelf")(ha:PAd X sd [e1,e2] [.val d1,.val d2])
  (he:AB (e1::[e2]) X.env=(false,eval e1 X.env)::AB [e2] X.env:=by rfl) (hpl:(AX pos<|AB [e2] X.env).any (·.1)=false:=by rfl):
  PSo X sd (.Call (.Name "Shelf" p) [e1,e2] [] pos) (shL X.K C [("size",d1),("stock",d2)] J):=⟨fun σ F H S pins s I=>by
 refine thn ((aLb M G hr hg T.mgC hb .nil xJ oK (by decide) he hpl) pins s σ H (λv H2=>∃ (x dx m:BE) (v1 v2:V) (F1 H1:Hp),v=.ref x/\StF X.K X.B₀ F1 H1 σ sd/\Same F F1/\Rep X.K F1 d1 v1/\Rep X.K F1 d2 v2/\H1 x=none/\H1 dx=none/\H1 m=none/\dx≠x/\m≠x/\m≠dx/\H2=upd (upd (upd (upd H1 dx<|.own x) x<|.ins C dx []) m<|HO.dK []) x (.ins C dx<|shF v1 v2 m)) I ?_) λu s1 ⟨v,H2,I2,r,x,dx,m,v1,v2,F1,H1,ev,S1,s1',q1,q2,n1,n2,n3,ne,ne2,ne3,eH⟩=> ?_
 ·refine(ha σ F H S).imp λvs H1 ⟨F1,S1,s1,q⟩=> ?_
  intro x dx n1 n2 ne
  obtain⟨v1,vs1,rfl,a1,t1⟩:∃v1 vs1,vs=v1::vs1/\ResOk X.K F1 H1 sd (.val d1) v1/\RsOk X.K F1 H1 sd [.val d2] vs1:=by
   cases q with
   |cons a b=>exact⟨_,_,rfl,a,b⟩
  obtain⟨v2,vs2,rfl,a2,t2⟩:∃v2 vs2,vs1=v2::vs2/\ResOk X.K F1 H1 sd (.val d2) v2/\RsOk X.K F1 H1 sd [] vs2:=by
   cases t1 with
   |cons a b=>exact⟨_,_,rfl,a,b⟩
  cases t2;refine⟨x,dx,v1,v2,rfl,bK,λm hm=>⟨rfl,x,dx,m,v1,v2,F1,H1,rfl,S1,s1,a1,a2,n1,n2, ?_,ne, ?_, ?_,rfl⟩⟩
  ·by_cases h1:m=x
   ·subst h1;rw[bK] at hm;cases hm
   ·by_cases h2:m=dx
    ·subst h2;rw[aV h1,bK] at hm;cases hm
    ·rw[aV h1,aV h2] at hm;exact hm
  ·intro h1;subst h1;rw[bK] at hm;cases hm
  ·intro h2;subst h2;rw[aV ne,bK] at hm;cases hm
 ·subst ev eH;obtain⟨mA,O,rel,_,_,_⟩:=aAL I2.hok bK;obtain⟨od,es,ep,ho,rest⟩:=id O.ns;have hx:=O.obj
  have keep:∀b o,H1 b=some o->(upd (upd (upd H1 m<|HO.dK []) x (exO x<|cH C dx)) dx<|exO dx od) b=some o:=λb o e=>by rw[aV<|cJ e n2,aV<|cJ e n1,aV<|cJ e n3];exact e
  have I3:Inv X pins σ (upd (upd (upd H1 m<|HO.dK []) x (exO x<|cH C dx)) dx<|exO dx od) s1:=by
   refine Inv.reB I2 (λb hb=> ?_) (λb o e=>keep b o (S1.sub _ _<|S1.base _ _ e)) λb o e=> ?_
   ·by_cases h1:b=x
    ·subst h1;rw[bK] at hb;cases hb
    ·by_cases h2:b=m
     ·subst h2;rw[aV h1,bK] at hb;cases hb
     ·by_cases h3:b=dx
      ·subst h3;rw[aV h1,aV h2,aV h1,bK] at hb;cases hb
      ·rw[aV h1,aV h2,aV h1,aV h3] at hb;rw[aV h3,aV h1,aV h2];exact hb
   ·by_cases h3:b=dx
    ·subst h3;rw[bK] at e;cases e;exact qL ho
    ·by_cases h1:b=x
     ·subst h1;rw[aV h3,bK] at e;cases e;exact qL hx
     ·by_cases h2:b=m
      ·subst h2;rw[aV h3,aV h1,bK] at e;cases e;exact(I2.hok b (HO.dK [])<|by rw[aV ne2,bK]).smp trivial
      ·rw[aV h3,aV h1,aV h2] at e;exact(I2.hok b o<|by rw[aV h1,aV h2,aV h1,aV h3];exact e).smp<|S1.smp _ _ e
  obtain⟨A1,fm,om⟩:=S1.layW (o:=HO.dK []) n3 trivial;obtain⟨A2,t2⟩:=A1.lay (p:=x) (o:=exO x<|cH C dx) (by rw[aV<|Ne.symm ne2];exact n1) trivial;obtain⟨A3,t3⟩:=A2.lay (p:=dx) (o:=exO dx od) (by rw[aV ne,aV<|Ne.symm ne3];exact n2) trivial;have tt:=t2.trans t3
  have hmade:mA "made"=some (.ref m):=by obtain⟨u1,hu,ru⟩:=RelO.some_of (v:=.ref m) (o:=mA "made") (by rw[<-aHN v1 v2 m];exact rel "made");rw[hu];exact congrArg some ru
  have sh:ShD X.K C [("size",d1),("stock",d2)] m (.ref x) (upd (upd F1 x (exO x<|cH C dx)) dx<|exO dx od):=by
   refine⟨x,dx,od,mA,rfl,by rw[aV<|Ne.symm ne,bK],bK,ne,λh hh=>⟨od,es,ep,hh,rest⟩,λg d hg=> ?_,hmade,RelO.none_of<|by rw[<-aGC v1 v2 m];exact rel "book_up_to"⟩
   by_cases g1:g="size"
   ·subst g1;have:d1=d:=bZ.inj hg;subst this;obtain⟨u1,hu,ru⟩:=RelO.some_of (v:=v1) (o:=mA "size") (by rw[<-aGZ v1 v2 m];exact rel "size");exact⟨v1,u1,hu,ru,q1.mono tt⟩
   ·by_cases g2:g="stock"
    ·subst g2;have:d2=d:=bZ.inj hg;subst this;obtain⟨u1,hu,ru⟩:=RelO.some_of (v:=v2) (o:=mA "stock") (by rw[<-aFv v1 v2 m];exact rel "stock");exact⟨v2,u1,hu,ru,q2.mono tt⟩
    ·have b1:(g==("size":Str))=false:=beq_eq_false_iff_ne.mpr g1;have b2:(g==("stock":Str))=false:=beq_eq_false_iff_ne.mpr g2;simp only[iR,b1,b2] at hg;cases hg
  have hH:upd (upd (upd H1 m<|HO.dK []) x (exO x<|cH C dx)) dx (exO dx od) m=some (.dK []):=by rw[aV ne3,aV ne2,bK]
  have hF:upd (upd F1 x (exO x<|cH C dx)) dx (exO dx od) m=none:=by rw[aV ne3,aV ne2];exact fm
  exact⟨.ref x,_,I3,r,_,(x,m),A3,s1'.trans tt,⟨.ref x,rfl,λl hl=>by rw[aI.mp hl];exact⟨hF,_,hH,trivial⟩,λF' H' sF kp=>⟨rfl,sh.mono sF,[],[],hJ,[],kp m (cD m) _ hH,rfl,.nil⟩⟩,bV.mpr ⟨by simp,cR⟩,λl hl=>by rw[aI.mp hl];exact om⟩⟩
variable {s':BD}{tg iter:Expr}{Old:BE->Prop}
structure ExcO(Old:BE->Prop)(h:BG)(H:Hp)(a T:BE)(cls:BC):Prop where
 free:H a=none
 new:¬ Old a
 freeT:H T=none
 newT:¬ Old T
 obj:∃oe vs oT ts a0,h.get? a=some oe/\(oe.cls=cls/\vs[0]? =some a0)/\oe.data=.fields vs/\vs[1]? =some (.ref T)/\T≠a/\h.get? T=some oT/\oT.data=.fields ts/\ts[3]? =some .none
def aIb(X:Cx)(Old:BE->Prop)(cls:BC)(sd:List Slot):Prop:=∀ (pins:List (BE×BH)) (σ:St) (F H:Hp) (s:BD) (a T:BE),Inv X pins σ H s->StF X.K X.B₀ F H σ sd->ExcO Old s.heap H a T cls->(∀p∈X.pn++pins,p.1≠a/\p.1≠T)->X.xe (.ref a) s
def aLZ(X:Cx)(Old:BE->Prop):Prop:=∀ (pins:List (BE×BH)) (σ:St) (H:Hp) (s:BD),Inv X pins σ H s->∀b,Old b->∃o,s.heap.get? b=some o
def Ent(X:Cx):BE->Prop:=λb=>∃o,X.s₀.heap.get? b=some o
theorem zH(hex:X.ex=[]):aLZ X (Ent X):=λpins σ H s I b ⟨o,g⟩=>I.base.there b o g λhb=>by rw[hex] at hb;cases hb
theorem Takes.o(h:Takes X cls sd):aIb X (Ent X) cls sd:=λpins σ F H s a T I S x hp=>
 h pins σ F H s a T I S ⟨x.free,by
  cases g:X.s₀.heap.get? a with
  |none=>rfl
  |some o=>exact(x.new ⟨o,g⟩).elim,x.freeT,by
  cases g:X.s₀.heap.get? T with
  |none=>rfl
  |some o=>exact(x.newT ⟨o,g⟩).elim,x.obj⟩ hp
theorem aCd{C:List D->Prop}{dvs:List V}{dws:List BC}{dds:List D}(G:gJ X.prog X.w X.K X.mg X.base x k n C cls dvs dws)(hh:aLZ X Old)(hr:Room k X.A)(hg:Gl X x)(ha:PAd X sd (e::es) (ds.map R.val))(hdv:∀H,RepL X.K H dds dvs)(hc:C (ds++dds))(hn:ds.length+dds.length=n)(ht:aIb X Old cls sd)
  (hdb:(x==("__debug__":Str))=false:=by decide) (he:AB (e::es) X.env=(false,eval e X.env)::AB es X.env:=by rfl) (hpl:(AX pos<|AB es X.env).any (·.1)=false:=by rfl):
  PEx X sd (.Call (.Name x p) (e::es) [] pos):=⟨fun σ F H S pins s I=>by
 obtain⟨f,fd,ps,hm,hk,bd,hd,G⟩:=G.ex;refine AQ<|lG I hg hm ?_ hdb;refine eM (h₀:=X.base) I.ok.mod.kin hk (thn (ha σ F H S pos pins s I) λus s1 ⟨vs,H1,I1,r,F1,S1,s1',q⟩=>⟨I1.kIn, ?_⟩) he hpl;have rl:RepL X.K H1 (ds++dds) (vs++dvs):=(q.vals.mono S1.sub).app<|hdv H1;refine qV (Q:=λ_ _=>False) (Ex:=λ_ _ H'=>Same H1 H'/\Smp H') G hr bd hd I1 r ⟨by rw[rl.len,aH];exact hn,S1.smp,ds++dds,rl,hc,λa H' q1 q2=>⟨q1,q2⟩⟩ λe s' hcx=> ?_
 obtain⟨a,T,H',rfl,os,bare,un,hok,x,sH,smH⟩:=hcx;have I2:Inv X pins σ H' s':=I1.call' os un hok bare (λb z=>absurd z<|by simp)
 have nO:∀b,s1.heap.get? b=none->¬ Old b:=λb q z=>by obtain⟨o,g⟩:=hh pins σ H1 s1 I1 b z;rw[q] at g;cases g
 have nw:∀b,s1.heap.get? b=none->∀p∈X.pn++pins,p.1≠b:=λb q p hp z=>by have:=(I1.pin p hp).1;rw[z,q] at this;cases this
 exact ht pins σ F1 H' s' a T I2 ⟨S1.base,S1.sub.trans sH,smH,S1.slots.mono (Same.refl _) λl hl=>⟨(S1.slots.owns hl).1,λob e=>sH _ _ e⟩,S1.nd⟩ ⟨x.free,nO a x.new,x.freeT,nO T x.newT,x.obj⟩ λp hp=>⟨nw a x.new p hp,nw T x.newT p hp⟩⟩
theorem aHT(h:PEx X sd e)(hs:swapsWithSole [tg] e pos.line X.env=pure false:=by rfl)(hw:swappedStores [tg] e X.env=pure none:=by rfl)(h1:(Ag [tg] X.env).map (·.2)=[assign tg X.env]:=by rfl):PSd1 X sd (.Assign [tg] e pos) E:=.mk λσ F H S=>(aIQ eK aOa hs hw h1).to<|(h.run σ F H S).imp λ_ _ z=>z.elim
theorem RepL.rep{K:aA}{H:Hp}{ds:List D}{xs:List V}(r:RepL K H ds xs):∀k:Nat,RepL K H (bG k ds).flatten (bG k xs).flatten
 |0=>.nil
 |k+1=>by rw[eC,eC,gI,gI];exact r.app<|RepL.rep r k
theorem aKs(ha:PEd X sd a (.bor ds))(hb:PEd X sd b (.val<|.int (k:Int)))(hk:k<=1000)(hz:ds.length*k<=1000):PEd X sd (.BinOp a .Mult b pos) (.own (bG k ds).flatten):=
 vO aNO ha hb trivial λσ F H v u Q S q1 q2 kk=>by simp only[ResOk,Rep] at q2;subst q2;obtain⟨l,xs,rfl,hl,rl,_⟩:=q1;refine⟨l,(k:Int),xs,rfl,rfl,hl,by omega,by omega,by rw[rl.len,dI,Aq];omega,λp hp=> ?_⟩;rw[dI];obtain⟨S2,fp,no⟩:=S.layO (xs:=(bG k xs).flatten) hp;exact kk _ F _ S2 (Same.refl _) ⟨p,_,rfl,fp,bK,rl.rep k,no⟩
variable {ix:Expr}{l:BE}{ls:List BE}{dss:List (List D)}{m:List Bool}
theorem aBO{body:List BI}{h₀:ExceptHandler}{hs:List ExceptHandler}(hb:PSd X sd body E)(hxe:X.xe=(λ_ _=>False):=by rfl):PSd1 X sd (.Try body (h₀::hs) [] [] pos) E:=.mk λσ F H S pins s I=>by
 have h:=hb σ F H S pins s I;rw[hxe] at h;refine wpAny_Try_except<|Aa h (λf s1 q=> ?_) λ_ _ z=>z.elim;cases f with
 |next=>obtain⟨σ',H',I',q⟩:=q;exact pss_nil pins s1 σ' H' (lft X F E) I' q
 |brk=>exact q
 |cont=>exact q
 |ret u=>exact q
theorem aLf{i:Nat}(ha:PEd X sd a (.val<|.tup ds))(hb:PEd X sd b (.val<|.int (i:Int)))(hc:PEd X sd c (.val<|.int (j:Int))):PEd X sd (.Subscript a (.Slice (some b) (some c) none p2) pos) (.val<|.tup ((ds.drop i).take<|j-i)):=by
 have e:DL.cutD ds (some (i:Int)) (some (j:Int))=(ds.drop i).take (j-i):=by
  unfold DL.cutD;rw[HT.sIx_nat,HT.sIx_nat]
  by_cases q:i<=ds.length
  ·rw[yF q,List.take_eq_take_iff];simp;omega
  ·rw[kB (show ds.length<=min i ds.length by omega),kB<|by omega];simp
 by_cases w:HT.sIx ds.length 0 (some (i:Int))=0/\HT.sIx ds.length ds.length (some (j:Int))=ds.length
 ·refine PEd.cast (aAN (ol:=some (i:Int)) (oh:=some (j:Int)) ha hb hc w) ?_;rw[<-e];unfold DL.cutD;rw[w.1,w.2];simp
 ·exact PEd.cast (xH (ol:=some (i:Int)) (oh:=some (j:Int)) ha hb hc w) (by rw[e])
noncomputable abbrev Ch:=Nat×Nat×List Nat
noncomputable def chD(c:Ch):D:=.tup [.int (c.1:Int),.int (c.2.1:Int),.tup<|bM c.2.2]
def iJ(L:List SK)(row:List Nat):Prop:=∀t∈row,t<L.length
def rV:List D->R->Prop:=λds r=>∃ (row:List Nat) (i m:Nat),ds=[.tup<|bM row,.int (i:Int),.int (m:Int)]/\r=.val (.tup (bM<|(row.drop i).take m))
theorem aMr{G K:Prop}(h:K->G)(k:K):G:=h k
section
variable {prog:AE}{w:AM}{κ:Type}[DecidableEq κ](knd:KeyKind prog w κ)
variable {knd}
variable {A:BF}{E:BC->BD->Prop}{s:BD}
end
structure HK(P:AE)(w:AM)(κ:Type)[DecidableEq κ] where
 kind:HeapKind P w κ
 rel:Hp->κ->BE->Prop
 mono:∀ {F F':Hp}{k:κ}{a:BE},Same F F'->rel F k a->rel F' k a
 ok:∀ {H:Hp}{h:BG}{k:κ}{a:BE},HOk P w H h->rel H k a->kind.is h k a
 room:∀ {A:BF},A.units+2<AS->kind.room A.in1
 dat:κ->D
 key:∀ {K:aA}{F:Hp}{k:κ}{v:V},Rep K F (dat k) v->∃a,v=.ref a/\rel F k a
 back:∀ {K:aA}{F:Hp}{k:κ}{a:BE},rel F k a->Rep K F (dat k) (.ref a)
theorem wJ{K:aA}{F:Hp}:∀k:List Key,RepL K F (k.map kD) (k.map kV)
 |[]=>.nil
 |a::k=>by refine .cons ?_ (wJ k);cases a<;>simp only[kD,kV,Rep]
noncomputable def tD(k:List Key):D:=.tup<|k.map kD
noncomputable def hkT(P:AE)(w:AM):HK P w (List Key) where
 kind:=Ah<|eI P w
 rel:=λF k a=>F a=some (.tup<|k.map kV)
 mono:=λs h=>s _ _ h
 ok:=λok h=>mM ok h
 room:=λhu=>Ae<|by omega
 dat:=tD
 key:=λr=>by simp only[tD,Rep] at r;obtain⟨a,ys,rfl,ha,rl⟩:=r;rw[oM rl] at ha;exact⟨a,rfl,ha⟩
 back:=λ{K F k a} h=>by simp only[tD,Rep];exact⟨a,_,rfl,h,wJ k⟩
section
variable {P:AE}{w:AM}{κ:Type}[DecidableEq κ](hk:HK P w κ)
abbrev KG(F:Hp):List (κ×V)->List (κ×BE×BC)->Prop:=Paired λp q=>p.1=q.1/\hk.rel F p.1 q.2.1/\RelV p.2 q.2.2
def TG(K:aA)(F:Hp)(l:BE)(o:BH)(ks:List κ)(ds:List D):Prop:=
 ks.length=ds.length/\ks.length<=AL/\(l==AZ)=false/\ks.Nodup/\∃ (vs:List V) (xs:List (κ×BE×BC)) (es:Array DictEntry) (ep:Nat),RepL K F ds vs/\KG hk F (ks.zip vs) xs/\o.ExactDict/\o.data=.dict es ep/\es.toList=xs.map (entryOfKey hk.kind)/\(xs.map (·.1)).Nodup
variable {hk}{K:aA}{F F' H:Hp}{l:BE}{o:BH}{ks:List κ}{ds:List D}
theorem KG.mono{kvs:List (κ×V)}{xs:List (κ×BE×BC)}(s:Same F F')(r:KG hk F kvs xs):KG hk F' kvs xs:=Paired.mapP r λ_ _ z=>⟨z.1,hk.mono s z.2.1,z.2.2⟩
theorem TG.mono(s:Same F F')(t:TG hk K F l o ks ds):TG hk K F' l o ks ds:=by obtain⟨h1,h2,h3,h4,vs,xs,es,ep,r,g,q⟩:=t;exact⟨h1,h2,h3,h4,vs,xs,es,ep,r.mono s,g.mono s,q⟩
theorem KG.all{h:BG}(ok:HOk P w H h){l:List (κ×V)}{m:List (κ×BE×BC)}(q:KG hk H l m):∀x∈m,hk.kind.is h x.1 x.2.1:=by
 induction q with
 |nil=>intro x hx;exact nomatch hx
 |@cons p q ps qs hq t ih=>
  intro x hx
  rcases bD.mp hx with e|hx
  ·subst e;exact hk.ok ok (by rw[<-hq.1];exact hq.2.1)
  ·exact ih x hx
theorem KG.val{kvs:List (κ×V)}{xs:List (κ×BE×BC)}(r:KG hk F kvs xs)(k:κ):RelO (iX kvs k) ((atKey xs k).map (·.2)):=by
 induction r with
 |nil=>exact True.intro
 |@cons p q ps qs h t ih=>
  obtain⟨h1,_,h2⟩:=h
  by_cases e:p.1=k
  ·have e':q.1=k:=h1.symm.trans e;have b:atKey (q::qs) k=some q.2:=by simp[atKey,gG,e']
   rw[jT e,b];exact h2
  ·have e':¬ q.1=k:=λz=>e (h1.trans z)
   have b:atKey (q::qs) k=atKey qs k:=by simp[atKey,gG,e']
   rw[gU e,b];exact ih
theorem KG.new{kvs:List (κ×V)}{xs:List (κ×BE×BC)}(r:KG hk F kvs xs){k:κ}(hn:iX kvs k=none){b:BE}{y:V}{u:BC}(hb:hk.rel F k b)(ry:RelV y u):KG hk F (kvs++[(k,y)]) (storedH xs k b u):=by
 have e:atKey xs k=none:=by
  have:=r.val k;rw[hn] at this;cases h:atKey xs k with
  |none=>rfl
  |some z=>rw[h] at this;cases this
 rw[storedH_new e];exact Paired.snoc r ⟨rfl,hb,ry⟩
theorem sZ{k:κ}:∀ {ks:List κ}{xs:List V},k∉ks->iX (ks.zip xs) k=none
 |[],_,_=>rfl
 |_::_,[],_=>rfl
 |j::js,x::xs,h=>by rw[dC,gU (p:=(j,x)) (k:=k) (λe=>h<|(show j=k from e)▸aJ)];exact sZ λz=>h<|aF _ z
theorem aEL:∀ {ks:List κ}{xs:List V}{n:Nat}{k:κ}{x:V},ks.Nodup->ks[n]? =some k->xs[n]? =some x->iX (ks.zip xs) k=some x
 |[],_,n,_,_,_,h,_=>by simp at h
 |_::_,[],n,_,_,_,_,h=>by simp at h
 |j::js,y::ys,0,k,x,nd,h1,h2=>by
  have e1:j=k:=by simpa using h1
  have e2:y=x:=by simpa using h2
  rw[dC,jT e1,e2]
 |j::js,y::ys,n+1,k,x,nd,h1,h2=>by
  obtain⟨nj,nd⟩:=bV.mp nd;have h1:js[n]? =some k:=by simpa using h1
  have h2:ys[n]? =some x:=by simpa using h2
  rw[dC,gU (p:=(j,y)) (k:=k) (λe=>nj<|(show j=k from e)▸bA h1)];exact aEL nd h1 h2
theorem aEO{k:κ}{ks:List κ}{xs:List V}(nd:ks.Nodup)(hl:ks.length=xs.length)(h:k∈ks):(iX (ks.zip xs) k).isSome=true:=by obtain⟨n,hn,rfl⟩:=fA h;rw[aEL (n:=n) (x:=xs[n]'(by omega)) nd (by simp[hn])<|by simp[show n<xs.length by omega]];rfl
theorem TG.dict{h:BG}(ok:HOk P w H h)(s:Same F H)(hl:H l=some (exO l o))(t:TG hk K F l o ks ds):∃ (vs:List V) (xs:List (κ×BE×BC)),RepL K F ds vs/\KG hk F (ks.zip vs) xs/\h.DictOfH hk.kind l xs/\xs.length<=AL/\(∀k,(atKey xs k).isSome=decide (k∈ks)):=by
 obtain⟨h1,h2,h3,h4,vs,xs,es,ep,r,g,q1,q2,q3,q4⟩:=t;have ho:h.get? l=some o:=(ok l _ hl).1;refine⟨vs,xs,r,g,⟨o,es,ep,ho,q1,q2,q3,KG.all ok<|g.mono s,q4⟩, ?_,λk=> ?_⟩
 ·rw[<-Paired.length g,jQ,r.len,<-h1,pG];exact h2
 ·have:=(g.val k).isSome_eq;rw[sQ] at this;rw[<-this]
  by_cases e:k∈ks
  ·rw[decide_eq_true e];exact aEO h4 (by rw[r.len,h1]) e
  ·rw[decide_eq_false e,sZ e];rfl
end
section
variable {P:AE}{w:AM}{κ:Type}[DecidableEq κ]
def GG(hk:HK P w κ)(K:aA)(l:BE)(ks:List κ)(ds:List D):V->Hp->Hp->Prop:=λv F H=>v=.ref l/\∃o,H l=some (exO l o)/\TG hk K F l o ks ds
noncomputable def oG(hk:HK P w κ)(K:aA)(l:BE)(ks:List κ)(ds:List D):Slot:=.ox [l]<|GG hk K l ks ds
variable {hk:HK P w κ}{K:aA}{H₀ F H:Hp}{σ:St}{sd:List Slot}{i:Nat}{l:BE}{ks:List κ}{ds:List D}{o:BH}
theorem TG.cell(t:TG hk K F l o ks ds):∀v,o.data≠ .cell v:=λv z=>by obtain⟨_,_,_,_,_,_,_,_,_,_,_,q,_⟩:=t;rw[q] at z;cases z
theorem zY(S:StF K H₀ F H σ sd)(hs:sd[i]? =some (oG hk K l ks ds)):σ[i]? =some (some<|.ref l)/\F l=none/\∃o,H l=some (exO l o)/\TG hk K F l o ks ds:=by
 obtain⟨o,h1,v,h2,h3,h4⟩:=S.slots.get hs;obtain⟨e,ob,a,b⟩:=h4 F H (Same.refl _) λ_ _ _ q=>q
 subst e h2;exact⟨h1,(h3 l<|cD l).1,ob,a,b⟩
theorem aMw(hF:F l=none)(h1:H l=some (exO l o))(t:TG hk K F l o ks ds):dR K F H (oG hk K l ks ds) (some<|.ref l):=
 ⟨.ref l,rfl,fun a ha=>by
  rw[aI.mp ha]
  exact⟨hF,_,h1,o,rfl,t.cell⟩,λF' H' s k=>⟨rfl,o,k l (cD l) _ h1,t.mono s⟩⟩
end
section
variable {X:Cx}{sd:List Slot}{e a b c tg iter:Expr}{es:List Expr}{pos:Pos}{d:D}{ds:List D}{κ:Type}[DecidableEq κ]{hk:HK X.prog X.w κ}{ks:List κ}{k:κ}{E:iA}{l:BE}
theorem aHU(hk:HK X.prog X.w κ)(i:Nat){x:Str}{p p2:Pos}(hN:X.N.Nodup)(hi:X.N[i]? =some x)(hx:Loc X.env.scope x)(hE:∀l,E.nx (sd.set i<|oG hk X.K l [] []))(hs:Ab (.Dict [] [] p2) (some<|.Name x p) pos.line X.env=pure false:=by rfl)
  (hf:X.fn x=true\/X.env.scope.names.lookup x=some .local:=by first|exact .inl rfl|exact .inr rfl|assumption):PSd1 X sd (.Assign [.Name x p] (.Dict [] [] p2) pos) E:=.mk λσ F H S=>
 (qM hN hi hx aBA hs hf).to λq hq hm=>by
  have fp:F q=none:=S.sub.free hq
  have no:q∉cA sd:=λhl=>by obtain⟨_,ob,h,_⟩:=S.slots.owns hl;rw[hq] at h;cases h
  have S1:StF X.K X.B₀ F (upd H q<|exO q aGu) σ sd:=by
   refine⟨S.base,λb u e=> ?_,nA S.smp q,S.slots.mono (Same.refl _) λl hl=> ?_,S.nd⟩
   ·rw[aV<|cJ e fp];exact S.sub _ _ e
   ·obtain⟨n,ys,y,_⟩:=S.slots.owns hl;have hne:l≠q:=cJ y hq;exact⟨n,λys e=>by rw[aV hne];exact e⟩
  refine⟨_,F,S1.setT i (aMw (hk:=hk) (K:=X.K) (ks:=[]) (ds:=[]) fp bK ⟨rfl,cP _,hm,cR,[],[], #[],0,.nil,.nil,⟨rfl,rfl,rfl⟩,rfl,rfl,cR⟩) (by simp) λa ha=> ?_,Same.refl _,hE q⟩;rw[aI.mp ha];exact no
theorem aGP(i:Nat){x:Str}{p p2:Pos}(hu:X.A.units+2<AS)(hs:sd[i]? =some (oG hk X.K l ks ds))(hx:PE X (.Name x p) (iT i))(h:PEd X sd e (.val d))(hb:PEd X sd b (.val<|hk.dat k))(hnk:k∉ks)(hl:ds.length<=10000)(hE:E.nx (sd.set i (oG hk X.K l (ks++[k])<|ds++[d])))
  (hsw:Ab e (some<|.Subscript (.Name x p) b p2) pos.line X.env=pure false:=by rfl):PSd1 X sd (.Assign [.Subscript (.Name x p) b p2] e pos) E:=.mk λσ F H S pins s I=>by
 refine wpAny_Assign_Subscript (thn (h σ F H S pins s I) λr s1 ⟨v,H1,I1,rv,F1,S1,sF1,q1⟩=> ?_) hsw;obtain⟨h1,_⟩:=zY S1 hs;refine thn (hx pins s1 σ H1 (λv H2=>v=.ref l/\H2=H1) I1 ⟨.ref l,h1,rfl,rfl⟩) λu s2 ⟨y,H2,I2,ry,e1,e2⟩=> ?_
 subst e1 e2;obtain rfl:u=Value.ref l:=ry;refine thn (hb σ F1 H2 S1 pins s2 I2) λiv s3 ⟨y,H3,I3,ry,F3,S3,sF3,q3⟩=> ?_
 obtain⟨g1,g2,o,g3,t⟩:=zY S3 hs;obtain⟨ad,rfl,ha⟩:=hk.key q3;obtain rfl:iv=Value.ref ad:=ry;obtain⟨vs,xs,r1,kg,dd,hz,hin⟩:=t.dict I3.hok S3.sub g3;obtain⟨t1,t2,t3,t4,_⟩:=t;refine wpAny_setItem_heap (hsz:=hz) (hk.room hu) (hk.ok I3.hok<|hk.mono S3.sub ha) dd λh' dd' hsm=> ?_
 obtain⟨q,es',ep',hq,u2,u3,u4,_,u5⟩:=dd';have I4:=pO (t':=s3.toks+hk.kind.draws k) I3 (ob:=exO l q) (by rw[g3];exact True.intro) hsm ⟨q,hq⟩<|qL hq;have lz:ks.length=vs.length:=by rw[t1,r1.len]
 have kg':=kg.new (sZ hnk) ha rv;rw[<-sT lz] at kg'
 have t':TG hk X.K F3 l q (ks++[k]) (ds++[d]):=⟨by rw [aH,aH,t1]; rfl,by
  rw[aH,t1];have:=eX hl;show ds.length+1<=AL
  omega,t3,bH.mpr ⟨t4,by simp,λa ha b hb e=>hnk (by rw[<-aI.mp hb,<-e];exact ha)⟩,vs++[v],_,es',ep',r1.app (.one (Rep.mono sF3 q1)),kg',u2,u3,u4,u5⟩
 refine⟨σ,_,I4,_,F3,S3.reT (z':=oG hk X.K l (ks++[k])<|ds++[d]) hs g1 (λb ob hb q=> ?_) (nA S3.smp l) (aMw g2 bK t') (show[l].Nodup by simp) λa ha=>.inl ha,sF1.trans sF3,hE⟩;rw[aV (show b≠l from λz=>hb<|z▸cD l)];exact q
structure PDc(X:Cx)(sd:List Slot)(e:Expr){κ:Type}[DecidableEq κ](hk:HK X.prog X.w κ)(ks:List κ)(ds:List D):Prop where
 get:∀ (σ:St) (F H:Hp),StF X.K X.B₀ F H σ sd->wE X e σ H λv H1=>∃F1 l,StF X.K X.B₀ F1 H1 σ sd/\Same F F1/\v=.ref l/\∀F2 H2,StF X.K X.B₀ F2 H2 σ sd->Same F1 F2->∃o,H2 l=some (exO l o)/\TG hk X.K F2 l o ks ds
theorem aKh(i:Nat){x:Str}{p:Pos}(hs:sd[i]? =some (oG hk X.K l ks ds))(hx:PE X (.Name x p) (iT i)):PDc X sd (.Name x p) hk ks ds:=⟨fun σ F H S=>hx.to (by
 obtain⟨h1,_⟩:=zY S hs
 exact⟨.ref l,h1,F,l,S,Same.refl _,rfl,λF2 H2 S2 _=>(zY S2 hs).2.2⟩)⟩
noncomputable def rIn(hk:HK X.prog X.w κ)(f:Bool->Bool):R2:=λx y H Q=>∃ (F:Hp) (ad l:BE) (o:BH) (k:κ) (ks:List κ) (ds:List D),x=.ref ad/\y=.ref l/\Same F H/\hk.rel F k ad/\H l=some (exO l o)/\TG hk X.K F l o ks ds/\X.A.units+2<AS/\Q (.bl<|f (decide<|k∈ks)) H
theorem aKZ:OpR X (AY .NotIn) (rIn hk (!·)):=by intro pins s σ H x y v u Q I rx ry h;obtain⟨F,ad,l,o,k,ks,ds,rfl,rfl,sF,ha,hl,t,hu,q⟩:=h;obtain rfl:v=Value.ref ad:=rx;obtain rfl:u=Value.ref l:=ry;obtain⟨vs,xs,_,_,dd,_,hin⟩:=t.dict I.hok sF hl;refine wpAny_notIn_heap (hk.room hu) (hk.ok I.hok<|hk.mono sF ha) t.2.2.1 dd ⟨.bl<|!decide (k∈ks),H,I.tok _, ?_,q⟩;show Value.bool _=Value.bool _;rw[hin]
theorem aHo(hu:X.A.units+2<AS)(ha:PEd X sd a (.val<|hk.dat k))(hb:PDc X sd b hk ks ds)(hm:AU .NotIn b=false:=by with_unfolding_all rfl):PTd X sd (.Compare a [.NotIn] [b] pos) (!decide (k∈ks)):=.mk λσ F H S=>
 (aAy (aKZ (hk:=hk)) eK eK hm).to ((ha σ F H S).imp fun v H1 ⟨F1,S1,s1,q1⟩=>(hb.get σ F1 H1 S1).imp fun u H2 ⟨F2,l,S2,s2,eu,g⟩=>by
  obtain⟨ad,rfl,hr⟩:=hk.key q1;obtain⟨o,g1,g2⟩:=g F2 H2 S2<|Same.refl _
  exact⟨F2,ad,l,o,k,ks,ds,rfl,eu,S2.sub,hk.mono s2 hr,g1,g2,hu,_,rfl,rfl,F2,S2,s1.trans s2⟩)
end
variable {prog:AE}{E:BC->BD->Prop}{d it:BE}{od:BH}{es:Array DictEntry}{ep i:Nat}
theorem sE(g:s.heap.get? d=some od)(c:od.ExactDict):s.TypeIs (.ref d) "dict":=⟨od,g,c.1⟩
theorem aHw{Q:BC->BD->Prop}(sm:(d==AZ)=false)(g:s.heap.get? d=some od)(c:od.ExactDict)(e:od.data=.dict es ep)
  (q:Q (.ref s.heap.objs.size) {s with heap:=s.heap.push {cls:=.type "dict_keyiterator",data:=.fields #[.ref d,.int 0 0,.int es.size 0,.int ep 0]}}):AK (AH prog w) A (pyIter<|.ref d) Q E s:=by
 have ty:=sE g c;refine wpAny_pyIter_slot ty F.slot_dict_iter (At F.slot_dict_iter ty F.entry_dict_iter (AA ?_)<|F.args_dict_iter_1 _);unfold Builtin.Dict.dictSlotNone;refine AA<|Aw ty (AC (a:=Value.ref d)<|AA (m:=Builtin.Dict.showsAll d) ?_);unfold Builtin.Dict.showsAll;rw[sm,if_neg bE];exact AC<|AA (An g e<|AA (wpAny_dictEpoch g e<|AA (AW<|AC ⟨_,rfl,"dict_keyiterator",_,⟨_,bL _ rfl,rfl⟩,F.slot_dict_keyiterator_next.lookup,q⟩)))
theorem aFd{Q:Option BC->BD->Prop}(ki:s.heap.IsKeyIter it d i es.size ep)(g:s.heap.get? d=some od)(e:od.data=.dict es ep)(hi:i<es.size)
  (q:∀h',h'.IsKeyIter it d (i+1) es.size ep->Heap.SameBut it s.heap h'->Q (some es[i].key) {s with heap:=h'}):AK (AH prog w) A (pyNext<|.ref it) Q E s:=by
 have ty:=ki.typeIs;obtain⟨o,g1,c1,f1⟩:=ki;unfold pyNext;refine AA (wpAny_attempt<|Am (name:=Str.ofString "__next__") ty F.slot_dict_keyiterator_next (At F.slot_dict_keyiterator_next ty F.entry_dict_keyiterator_next (AA<|AC (AA<|AA ?_))<|F.args_dict_keyiterator_next_1 _));refine AA (Al ty<|AC (AA<|wpAny_fieldsOf g1 f1 ?_));rw[if_neg<|by decide];show AK _ _ (ite ((Value.ref d==Value.none)=true) _ _) _ _ _;rw[if_neg (c:=(Value.ref d==Value.none)=true) λz=>by cases z];refine AA<|AC (AA<|An g e ?_);rw[if_neg<|by simp];refine AA<|AC (AA<|wpAny_dictEpoch g e ?_);rw[if_neg<|by simp];refine AC ?_;have ix:(if(i:Int)<0 then none else es[(i:Int).toNat]?)=some es[i]:=by rw[if_neg<|by omega,dI,Array.getElem?_eq_getElem hi]
 simp only[ix]
 have up:(s.heap.update it (Obj.mapFields (·.setIfInBounds 1 (rawInt<|(i:Int)+1)))).IsKeyIter it d (i+1) es.size ep:=
  ⟨_,gA _ g1 (Obj.isFreed_of_fields<|Obj.data_mapFields f1 _),(Obj.cls_mapFields ..).trans c1,by rw[Obj.data_mapFields f1];simp[rawInt]⟩
 refine AA<|AA (Al ty<|AC (AA<|wpAny_isOneOf_keyiter ty (AA<|wpAny_setField g1 f1 (show(0:Nat)+1<4 by decide) (AA<|AV ?_))));refine AA<|wpAny_isOneOf_keyiter up.typeIs ?_;exact AC<|AC ⟨_,rfl,AC (q _ up<|Heap.SameBut.update ..)⟩
theorem aHx{Q:Option BC->BD->Prop}{hp:BG}(hh:A.handled=none)(sb:Heap.ExtBut it s.heap hp)(q:∀h',Heap.ExtBut it s.heap h'->Q none {s with heap:=h'}):
  AK (AH prog w) A.in1 (newExc (.type "StopIteration") []>>=fun x=>(raiseNew x:Sem Fin)) (fun fin s'=>∃v,fin=Fin.done (Flow.ret v)∧AK (AH prog w) A (pure (some v)) Q E s') (fun e s'=>AK (AH prog w) A (do
   let b <-isInstance e (Value.type "StopIteration")
   if b=true then pure none else throw e) Q E s') {s with heap:=hp}:=by
 refine AA ?_;simp only[newExc,newTuple];refine AA (AW (AA (m:=firstArgMember _ _)<|wpAny_of_eq (a:=Value.none) (by first|rfl|(simp only[firstArgMember];rfl)) (AW ?_<|by size_fits))<|by size_fits);simp only[raiseNew];refine AA<|wpAny_handled ?_;rw[show A.in1.handled=none from hh];refine AA (AC<|wpAny_throw ?_);refine AA<|wpAny_isInstance (T:="StopIteration") (b:=true) ⟨_,bL _ rfl,rfl⟩ isSubtype_stop ?_;exact AC (q _<|(sb.push _).push _)
theorem aGy{Q:Option BC->BD->Prop}(hh:A.handled=none)(ki:s.heap.IsKeyIter it d i es.size ep)(g:s.heap.get? d=some od)(e:od.data=.dict es ep)(hi:es.size<=i)
  (q:∀h',Heap.ExtBut it s.heap h'->Q none {s with heap:=h'}):AK (AH prog w) A (pyNext<|.ref it) Q E s:=by
 have ty:=ki.typeIs;obtain⟨o,g1,c1,f1⟩:=ki;unfold pyNext;refine AA (wpAny_attempt<|Am (name:=Str.ofString "__next__") ty F.slot_dict_keyiterator_next (At F.slot_dict_keyiterator_next ty F.entry_dict_keyiterator_next (AA<|AC (AA<|AA ?_))<|F.args_dict_keyiterator_next_1 _));refine AA (Al ty<|AC (AA<|wpAny_fieldsOf g1 f1 ?_));rw[if_neg<|by decide];show AK _ _ (ite ((Value.ref d==Value.none)=true) _ _) _ _ _;rw[if_neg (c:=(Value.ref d==Value.none)=true) λz=>by cases z];refine AA<|AC (AA<|An g e ?_);rw[if_neg<|by simp];refine AA<|AC (AA<|wpAny_dictEpoch g e ?_);rw[if_neg<|by simp];refine AC ?_;have ix:(if(i:Int)<0 then none else es[(i:Int).toNat]?)=none:=by rw[if_neg<|by omega,dI,aCm hi]
 simp only[ix];refine AA<|AA (Al ty<|AC (AA<|wpAny_setField g1 f1 (show(0:Nat)<4 by decide) ?_));exact aHx hh (Heap.SameBut.update ..).extBut q
theorem aCC(sm:(d==AZ)=false):MeetsIn prog w (Builtin.«dict.__len__» ⟨[.ref d],[]⟩) (λ_ R s=>∃ (od:BH) (es:Array DictEntry) (ep:Nat),s.heap.get? d=some od/\od.ExactDict/\od.data=.dict es ep/\R (.ok (.ret<|.int es.size s.toks)) {s with toks:=s.toks+1}):=
 .of_wp λA R s ⟨od,es,ep,g,c,e,q⟩=>by refine AA (m:=Builtin.Dict.dictSlotNone "__len__" ⟨[.ref d],[]⟩) ?_;unfold Builtin.Dict.dictSlotNone;refine AA<|Aw (sE g c) (AC (a:=Value.ref d)<|AA (AC<|AA (m:=dictSize d) ?_));unfold dictSize;exact AA (An g e<|AC (AA<|wpAny_pendingCount_other sm (wpAny_ret_mkInt<|by rw[show((es.size:Nat):Int)+((0:Nat):Int)=(es.size:Int) from Int.add_zero _];exact q)))
theorem aFG{Q:BC->BD->Prop}(sm:(d==AZ)=false)(g:s.heap.get? d=some od)(c:od.ExactDict)(e:od.data=.dict es ep)(fit:es.size<=AL)(q:∀t t2,Q (.int es.size t) {s with toks:=t2}):AK (AH prog w) A (call (.builtin "len") [.ref d]) Q E s:=by
 have lim:AL=16777216:=Aq;have ty:=sE g c;refine Calls.call_function_entry kind_len plain_len entry_len (args_len1 _) ?_;refine AA (m:=oneArg "len" _) (AC<|AA (m:=callSpecial? (.ref d)<|Str.ofString "__len__") (Am (name:=Str.ofString "__len__") ty F.slot_dict_len<|call_meetsIn F.slot_dict_len ty F.entry_dict_len (F.args_dict_len_1 _) (aCC sm) ⟨od,es,ep,g,c,e, ?_⟩));refine AA (AV<|AC (AA<|wpAny_letGo ?_));refine wpAny_ite_split (λz=>by omega) λ_=>wpAny_ite_split (λz=>by omega) λ_=> ?_
 exact AA (wpAny_mkInt<|AC ⟨_,rfl,q _ _⟩)
section
variable {X:Cx}{sd:List Slot}{e:Expr}{pos:Pos}{d:D}{ds:List D}{κ:Type}[DecidableEq κ]{hk:HK X.prog X.w κ}{ks:List κ}
theorem aFC:mG X (.builtin "len") (λxs H Q=>∃ (l:BE) (o:BH) (es:Array DictEntry) (ep:Nat),xs=[.ref l]/\H l=some (exO l o)/\o.ExactDict/\o.data=.dict es ep/\(l==AZ)=false/\es.size<=AL/\Q (.int es.size) H):=by intro pins s σ H xs us Q I r h;obtain⟨l,o,es,ep,rfl,hl,c,e,sm,fit,q⟩:=h;obtain⟨u,rfl,rx⟩:=qI r;cases(show u=Value.ref l from rx);exact aFG sm (I.hok l _ hl).1 c e fit λt t2=>⟨.int es.size,H,I.tok _,⟨_,rfl⟩,q⟩
end
variable {H₀ F' H':Hp}{p:Int}{L:Int->List D}{kvs:List (Key×V)}
theorem InD.erase:∀ {as:List BE}{dss:List (List D)} (n:Nat),InD K F H as dss->InD K F H (as.eraseIdx n) (dss.eraseIdx n)
 |[],[],n,h=>by simp;exact h
 |[],_::_,_,h=>h.elim
 |_::_,[],_,h=>h.elim
 |a::as,ds::dss,0,h=>h.2
 |a::as,ds::dss,n+1,h=>⟨h.1,InD.erase n h.2⟩
theorem yY{α β:Type}(f:α->β):∀ (l:List α) (n:Nat),(l.map f).eraseIdx n=(l.eraseIdx n).map f
 |[],_=>by simp
 |_::_,0=>rfl
 |a::l,n+1=>by show f a::(l.map f).eraseIdx n=f a::(l.eraseIdx n).map f;rw[yY f l n]
namespace S45
variable {T:Type}[DecidableEq T](n:Nat)(pr:Nat->Int)(beh:Nat->T->T)(t0:T)
noncomputable abbrev Ent(T:Type):=Int×List Nat×T
noncomputable def tabQ(row:List Nat):T:=row.foldl (λt k=>beh k t) t0
noncomputable def prQ(row:List Nat):Int:=(row.map pr).sum
theorem tab_snoc(row:List Nat)(k:Nat):tabQ beh t0 (row++[k])=beh k (tabQ beh t0 row):=by unfold tabQ;rw[fO];rfl
theorem pr_snoc(row:List Nat)(k:Nat):prQ pr (row++[k])=prQ pr row+pr k:=by unfold prQ;rw[aX,aLK];simp
variable {n pr beh t0}
variable (n pr beh)
variable {n pr beh}
end S45
end DL
namespace DL
open PySem PySem.Spec PyProof.Rows L2
variable {p:Int×Int}{L:List SK}
noncomputable def jO(p:Int×Int)(q:SQ):List Nat:=(cB p).map λws=>xI p<|onQ p q ws
noncomputable def jC(other one:List Nat):List Nat:=one.map λi=>other.getD i 0
noncomputable def jP(p:Int×Int)(nb:List Nat):List (List Int):=nb.map λi=>(cB p).getD i []
noncomputable def yA(p:Int×Int)(L:List SK)(k:Nat)(t:List (List Int)):List (List Int):=t.map<|onQ p (L.getD k AO).1
noncomputable def prK(L:List SK)(k:Nat):Int:=(L.getD k AO).2
noncomputable def mvD(p:Int×Int)(s:SK):D:=.tup [.int s.2,.tup (bM<|jO p s.1)]
def NOk(p:Int×Int)(nb:List Nat):Prop:=nb.length=(cB p).length/\∀i∈nb,i<(cB p).length
theorem aKE(p:Int×Int)(q:SQ):(jO p q).length=(cB p).length:=by unfold jO;rw[aC]
theorem aIf(q:SQ){i:Nat}(hi:i<(cB p).length):(jO p q).getD i 0=xI p (onQ p q<|(cB p).getD i []):=by unfold jO;simp[cG,hi]
theorem aMp(hp:p∈bY){i:Nat}(hi:i<(cB p).length):Fil p ((cB p).getD i []):=lU hp<|getD_mem hi
theorem aNq(hp:p∈bY){q:SQ}(O:sD p q){i:Nat}(hi:i<(cB p).length):(jO p q).getD i 0<(cB p).length:=by rw[aIf q hi];exact(aDO hp (uU O<|aMp hp hi)).2.1
theorem aKU(hp:p∈bY){q:SQ}(O:sD p q){nb:List Nat}(h:NOk p nb):NOk p (jC (jO p q) nb):=by refine⟨by unfold jC;rw[aC];exact h.1,λi hi=> ?_⟩;obtain⟨j,hj,rfl⟩:=aP.mp hi;exact aNq hp O<|h.2 j hj
theorem aHh(hp:p∈bY){q:SQ}(O:sD p q){nb:List Nat}(h:NOk p nb):jP p (jC (jO p q) nb)=(jP p nb).map (onQ p q):=by
 unfold jP jC;rw[aU,aU];refine cK λi hi=> ?_
 show(cB p).getD ((jO p q).getD i 0) []=onQ p q ((cB p).getD i []);rw[aIf q<|h.2 i hi];exact(aDO hp<|uU O (aMp hp<|h.2 i hi)).2.2
theorem aGD(hp:p∈bY){a b:List Nat}(ha:NOk p a)(hb:NOk p b)(h:jP p a=jP p b):a=b:=by
 refine uY (ha.1.trans hb.1.symm) λi h1 h2=> ?_
 have e:(jP p a)[i]'(by unfold jP;rw[aC];exact h1)=(jP p b)[i]'(by unfold jP;rw[aC];exact h2):=by simp only[h]
 unfold jP at e;rw[eQ,eQ] at e;rw[<-aIK hp (ha.2 _<|iV h1),<-aIK hp (hb.2 _<|iV h2),e]
noncomputable def st0(p:Int×Int):List Nat:=bQ (cB p).length
theorem aML(p:Int×Int):NOk p (st0 p):=⟨by unfold st0;rw[fP],λi hi=>cX.mp hi⟩
theorem aEq(p:Int×Int):jP p (st0 p)=cB p:=by
 unfold jP st0;refine uY (by simp) λi h1 h2=> ?_
 rw[eQ,aHW];simp[cG,h2]
noncomputable def nrQ(p:Int×Int)(L:List SK)(row:List Nat):List Nat:=row.foldl (λnb k=>jC (jO p (L.getD k AO).1) nb)<|st0 p
theorem aAq(row:List Nat)(k:Nat):nrQ p L (row++[k])=jC (jO p (L.getD k AO).1) (nrQ p L row):=by unfold nrQ;rw[fO];rfl
theorem aDl(hp:p∈bY)(S:∀s∈L,sD p s.1):∀ {row:List Nat},iJ L row->NOk p (nrQ p L row)/\jP p (nrQ p L row)=S45.tabQ (yA p L) (cB p) row:=λ{row}=>by
 have g:∀ (row:List Nat) (nb:List Nat) (t:List (List Int)),NOk p nb->jP p nb=t->iJ L row->NOk p (row.foldl (λnb k=>jC (jO p (L.getD k AO).1) nb) nb)/\jP p (row.foldl (λnb k=>jC (jO p (L.getD k AO).1) nb) nb)=row.foldl (λt k=>yA p L k t) t:=λrow=>by
  induction row with
  |nil=>exact λnb t h1 h2 _=>⟨h1,h2⟩
  |cons k row ih=>
   intro nb t h1 h2 h3;have O:sD p (L.getD k AO).1:=S _ (DL.getD_mem<|h3 k aJ);refine ih _ _ (aKU hp O h1) ?_ λj hj=>h3 j<|aF _ hj
   rw[aHh hp O h1,h2];rfl
 exact λh=>g row (st0 p) (cB p) (aML p) (aEq p) h
open Classical in
noncomputable def wK(L:List SK)(d:D):SK:=if h:∃s,s∈L/\skD s=d then h.choose else AO
theorem wM(nd:(L.map λs=>sqD s.1).Nodup){s:SK}(h:s∈L):wK L (skD s)=s:=by
 have ex:∃z,z∈L/\skD z=skD s:=⟨s,h,rfl⟩;unfold wK;rw[dif_pos ex];obtain⟨h1,h2⟩:=ex.choose_spec;generalize ex.choose=z at h1 h2;obtain⟨i,hi,ez⟩:=fA h1;obtain⟨j,hj,es⟩:=fA h
 have e:sqD z.1=sqD s.1:=by
  have h2:D.tup [sqD z.1,.int z.2]=D.tup [sqD s.1,.int s.2]:=h2;injection h2 with h2
  exact(aDf.inj h2).1
 have:i=j:=(kP (i:=i) (j:=j) (h₀:=by rw[aC];exact hi) (h₁:=by rw[aC];exact hj) nd).mp (by rw[eQ,eQ,ez,es,e]);subst this;exact ez.symm.trans es
def aPU:List D->R->Prop:=λds r=>∃p q,p∈bY/\sD p q/\ds=[cC p,sqD q]/\r=.val (.tup (bM<|jO p q))
def aIq:List D->R->Prop:=λds r=>∃p L,p∈bY/\StkOk p L/\(L.map λs=>sqD s.1).Nodup/\ds=[cC p,.lst<|L.map skD]/\r=.own (L.map<|mvD p)
def aMx:List D->R->Prop:=λds r=>∃one other:List Nat,one.length<=100/\(∀i∈one,i<other.length)/\ds=[.tup<|bM one,.tup<|bM other]/\r=.val (.tup (bM<|jC other one))
def aIZ:List D->R->Prop:=λds r=>∃ (B:List (List Int)) (nb:List Nat),nb.length<=100/\(∀i∈nb,i<B.length)/\ds=[.lst<|B.map bS,.tup<|bM nb]/\r=.val (.tup<|(nb.map λi=>B.getD i []).map bS)
section
variable {X:Cx}{sd:List Slot}{a b:Expr}{pos:Pos}{ds:List D}{κ:Type}[DecidableEq κ]{hk:HK X.prog X.w κ}{ks:List κ}{k:κ}{kk:Bool}
theorem aHr(h:kk=true↔k∈ks):decide (k∈ks)=kk:=by
 cases kk with
 |true=>exact decide_eq_true<|h.mp rfl
 |false=>exact decide_eq_false λz=>by cases h.mpr z
theorem aHp(h:kk=true↔k∈ks)(hu:X.A.units+2<AS)(ha:PEd X sd a (.val<|hk.dat k))(hb:PDc X sd b hk ks ds)(hm:AU .NotIn b=false:=by with_unfolding_all rfl):PTd X sd (.Compare a [.NotIn] [b] pos) (!kk):=PTd.cast (aHo hu ha hb hm) (by rw[aHr h])
end
noncomputable abbrev Bk:=S45.Ent (List<|List Int)
noncomputable def enD(e:Bk):D:=.tup [.int e.1,.tup<|bM e.2.1,.tup<|e.2.2.map bS]
noncomputable def mK(nb:List Nat):List Key:=nb.map λ(i:Nat)=>(Sum.inl (i:Int):Key)
theorem aIg(nb:List Nat):tD (mK nb)=.tup (bM nb):=by unfold tD mK bM;rw[aU];rfl
theorem aBM:∀ {a b:List Nat},mK a=mK b->a=b
 |[],[],_=>rfl
 |[],_::_,h=>by cases h
 |_::_,[],h=>by cases h
 |x::a,y::b,h=>by
  have h:(Sum.inl (x:Int):Key)::mK a=(Sum.inl (y:Int):Key)::mK b:=h;injection h with h1 h2
  have:=Sum.inl.inj h1;rw[aBM h2];congr 1;omega
theorem aNs(L:List SK)(row:List Nat):uC (tY L row)=S45.prQ (prK L) row:=by
 unfold S45.prQ tY prK;generalize row.map (λt=>(L.getD t AO).2)=xs
 have g:∀n:Nat,uC (xs.take n)=(xs.take n).sum:=λn=>by
  induction n with
  |zero=>rfl
  |succ n ih=>
   by_cases h:n<xs.length
   ·rw[yW 0 h,aFq,ih,aLK];simp
   ·have e:xs.take (n+1)=xs.take n:=by rw[dZ<|by omega,dZ<|by omega]
    rw[e,ih]
 have:=g xs.length;rw[fW] at this;exact this
variable {prog:AE}{w:AM}{A:BF}{E:BC->BD->Prop}{s:BD}{r:BE}{n:Nat}{t u v:Tok}
theorem aAh{Q:List BC->BD->Prop}(hh:A.handled=none)(ir:IsRange s.heap r 0 (n:Int) 1 t u v)(hn:n<=10000)
  (q:∀ (h':BG) (tk:Nat) (acc:Array BC),(∀b o,s.heap.get? b=some o->h'.get? b=some o)->ItemsOf (λi v=>∃t,v=.int (0+i*1) t) acc n->Q acc.toList {s with heap:=h',toks:=tk}):AK (AH prog w) A (collect<|.ref r) Q E s:=by
 have sz:Builtin.Range.rangeSize 0 (n:Int) 1=(n:Int):=by
  rw[rangeSize_one]
  split<;>omega
 have fin:∀ (h':BG) (tk:Nat) (acc:Array BC) (c':Nat),(∀b o,s.heap.get? b=some o→h'.get? b=some o)→h'.get? s.heap.objs.size=some {cls:= .type "list",dict:=none,data:= .seq acc c',slots:= #[]}→ItemsOf (fun i v=>∃t,v= .int (0+i * 1) t) acc n→AK (AH prog w) A (do
   let o <-load s.heap.objs.size
   match o.data with
   |.seq xs _=>pure xs.toList
   |_=>unsupported "internal:collect") Q E {s with heap:=h',toks:=tk}:=λh' tk acc c' k1 k2 k3=>AA (wpAny_load k2 (AC (q h' tk acc k1 k3)))
 have new:(s.heap.push {cls:=.type "list",data:=.seq ([]:List BC).toArray}).get? s.heap.objs.size=some {cls:=.type "list",data:=.seq #[]}:=bL _ rfl;have main:=wpAny_extend_range (prog:=prog) (w:=w) (A:=A) (s:={s with heap:=s.heap.push {cls:=.type "list",data:=.seq ([]:List BC).toArray}}) (R:=λ(x:Result) (st:BD)=>∃ (h':BG) (tk:Nat) (acc:Array BC) (c':Nat),x=.ok (.ret<|.ref s.heap.objs.size)/\st={s with heap:=h',toks:=tk}/\(∀b o,s.heap.get? b=some o->h'.get? b=some o)/\h'.get? s.heap.objs.size=some {cls:=.type "list",dict:=none,data:=.seq acc c',slots:= #[]}/\ItemsOf (λi v=>∃t,v=.int (0+i*1) t) acc n) hh (aD _ ir) (small_one (by omega) (by omega) (by omega)<|by omega) sz (by omega) s.heap.objs.size (.ref s.heap.objs.size) 0 new λh' tk acc c' k1 k2 k3=>⟨h',tk,acc,c',rfl,rfl,λb o g=>k1 b o (bW<|aR g)<|aD _ g,k2,k3⟩
 unfold collect;refine AA (wpAny_runValue<|BB entry_proto_collect' ?_);rw[Around.under_plainId PySem.F.plain_proto_collect _];refine AA (m:=newList []) (AW<|AC ⟨plainId_quiet zX _,BB entry_list_iadd' ?_⟩);rw[Around.under_plainId zX _];refine Aa main (λz st x=> ?_) λz st x=> ?_
 ·cases z with
  |done f=>obtain⟨h',tk,acc,c',e,rfl,k1,k2,k3⟩:=x;cases e;exact fin h' tk acc c' k1 k2 k3
  |again c1=>refine⟨x.1,Ap x.2 λy st y2=> ?_⟩;obtain⟨h',tk,acc,c',rfl,rfl,k1,k2,k3⟩:=y2;exact fin h' tk acc c' k1 k2 k3
 ·obtain⟨_,_,_,_,e,_⟩:=x;cases e
theorem aAg(r:BE)(n:Nat)(t u v:Tok)(hn:n<=10000):Meets (Builtin.«tuple.__new__» ⟨[.type "tuple",.ref r],[]⟩) (λA R s=>A.handled=none/\IsRange s.heap r 0 (n:Int) 1 t u v/\∀ (h':BG) (tk:Nat) (acc:Array BC),(∀b o,s.heap.get? b=some o->h'.get? b=some o)->ItemsOf (λi v=>∃t,v=.int (0+i*1) t) acc n->R (.ok (.ret<|.ref h'.objs.size)) {s with heap:=h'.push {cls:=.type "tuple",data:=.seq acc},toks:=tk}):=
 .of_wp λprog w A R s h=>by
  obtain⟨hp,gn,dr,tk,os⟩:=s;obtain⟨hh,ir,q⟩:=h;have a1:=sub_tuple_self;have a2:=init_tuple_lookup;have a3:=madeHere_tuple;have ty:Shared.TypeIs ⟨hp,gn,dr,tk,os⟩ (.ref r) "range":=⟨_,ir,rfl⟩;have hh1:A.in1.handled=none:=hh
  wp_walk using AutoSeq1.wpAny_loadPart' ir,wpAny_typeOf ty,aAh (s:=⟨hp,gn,dr,tk,os⟩) hh1 ir hn
  intro h' tk' acc k1 k2;refine AA (m:=Builtin.Tuple.tupleExact acc.toList.toArray) ?_;unfold Builtin.Tuple.tupleExact;have e:acc.toList.toArray=acc:=by simp
  rw[e];exact AW (AC ⟨_,rfl,q h' tk' acc k1 k2⟩) (show acc.size<=AL by rw[k2.1];exact dE<|eX hn)
theorem yC{Q:BC->BD->Prop}(hh:A.handled=none)(ir:IsRange s.heap r 0 (n:Int) 1 t u v)(hn:n<=10000)
  (q:∀ (h':BG) (tk:Nat) (acc:Array BC),(∀b o,s.heap.get? b=some o->h'.get? b=some o)->ItemsOf (λi v=>∃t,v=.int (0+i*1) t) acc n->Q (.ref h'.objs.size) {s with heap:=h'.push {cls:=.type "tuple",data:=.seq acc},toks:=tk}):AK (AH prog w) A (call (.type "tuple") [.ref r]) Q E s:=
 callType_new F.called_tuple (by decide) (F.typeCall_tuple_1 _) (F.newCall_tuple_1 _) (λobj=>F.args_object_init_2 obj _) F.entry_tuple_new (aAg r n t u v hn) ⟨hh,ir,λh' tk acc k1 k2=>⟨⟨_,bL _ rfl,rfl⟩,q h' tk acc k1 k2⟩⟩
variable {X:Cx}{sd:List Slot}{e:Expr}{pos:Pos}
theorem tT{p p2 q2:Pos}(hg:Gl X "tuple")(hm:X.mg "tuple"=none)(hg2:Gl X "range")(hm2:X.mg "range"=none)(ha:PEd X sd e (.val<|.int (n:Int)))(h1:n<=10000)
  (hc:X.calm=true:=by rfl) (hst:AB [e] X.env=(false,eval e X.env)::AB [] X.env:=by rfl) (hst2:AB [.Call (.Name "range" p2) [e] [] q2] X.env=(false,eval (.Call (.Name "range" p2) [e] [] q2) X.env)::AB [] X.env:=by rfl):
  PEd X sd (.Call (.Name "tuple" p) [.Call (.Name "range" p2) [e] [] q2] [] pos) (.val<|.tup (bM<|bQ n)):=.mk λσ F H S pins s I=>by
 refine AQ (lP I hg hm PyProof.Rows.boot_tuple<|PyProof.Rows.callWith_type1 ?_ hst2 rfl);rw[hst2];refine Calls.spliced_cons (AQ<|lP I hg2 hm2 boot_range ?_);refine PyProof.Rows.callWith_type1 (thn ((dA (te:=wE X e) eK pa_nil hst) q2 pins s σ H (λus H1=>∃v F1,us=[v]/\StF X.K X.B₀ F1 H1 σ sd/\Same F F1/\ResOk X.K F1 H1 sd (.val<|.int (n:Int)) v) I<|(ha σ F H S).imp λv H1 ⟨F1,S1,s1,q1⟩=>⟨v,F1,rfl,S1,s1,q1⟩) λus s1 hus=> ?_) hst rfl;obtain⟨ws,H1,I1,rv,v,F1,rfl,S1,sF,q1⟩:=hus;obtain⟨u,rfl,ru⟩:=qI rv;simp only[ResOk,Rep] at q1;subst q1;obtain⟨t,rfl⟩:=ru;refine call_range_1<|Calls.spliced_nil ?_;refine yC (I1.ok.hd hc) (IsRange.new ..) h1 λh' tk acc kp it=> ?_
 have kp2:∀b o,s1.heap.get? b=some o->h'.get? b=some o:=λb o g=>kp b o<|aD _ g
 have le:s1.heap.objs.size<=h'.objs.size:=dE<|aR (kp s1.heap.objs.size _<|bL _ rfl);have hD:H1 h'.objs.size=none:=I1.hok.fresh le;have ln:acc.toList.length=n:=by rw[cS];exact it.1
 have vl:Vals ((bQ n).map λ(k:Nat)=>V.int (k:Int)) acc.toList:=by
  have g:∀ (l:List BC) (f:Nat->Int),(∀ (j:Nat) (v:BC),l[j]? =some v->∃t,v=.int (f j) t)->Vals ((bQ l.length).map λ(k:Nat)=>V.int<|f k) l:=λl=>by
   induction l with
   |nil=>intro f _;exact .nil
   |cons x l ih=>intro f h;obtain⟨t,e⟩:=h 0 x rfl;rw[bF,aDc,aZ,aU];exact .cons ⟨t,e⟩ (ih (λk=>f<|k+1) λj v hv=>h (j+1) v<|by simpa using hv)
  have:=g acc.toList (λk=>(k:Int)) λj v hv=>by obtain⟨t,e⟩:=it.2 j v (by rw[<-dL];exact hv);exact⟨t,by rw[e];congr 1;omega⟩
  rw[ln] at this;exact this
 have I3:Inv X pins σ (upd H1 h'.objs.size (.tup<|(bQ n).map λ(k:Nat)=>V.int (k:Int))) {s1 with heap:=h'.push {cls:=.type "tuple",data:=.seq acc},toks:=tk}:=
  I1.laid (λb o g=>aD _<|kp2 b o g) le ⟨by rw[aC,fP];exact dE<|eX h1,acc.toList,vl,by simpa using IsTupD.new h' acc⟩
 obtain⟨S4,s4⟩:=S1.lay (o:=.tup<|(bQ n).map λ(k:Nat)=>V.int (k:Int)) hD trivial;refine⟨.ref h'.objs.size,_,I3,rfl,_,S4,sF.trans s4, ?_⟩;simp only[ResOk,Rep];refine⟨_,_,rfl,bK, ?_⟩
 have gg:∀ks:List Nat,RepL X.K (upd F1 h'.objs.size (.tup<|(bQ n).map λ(k:Nat)=>V.int (k:Int))) (ks.map λ(k:Nat)=>D.int (k:Int)) (ks.map λ(k:Nat)=>V.int (k:Int)):=λks=>by
  induction ks with
  |nil=>exact .nil
  |cons k ks ih=>exact .cons (by simp only[Rep]) ih
 exact gg _
theorem aBq{α:Type}{f:α->D}{L:List α}{t:Nat}{d:D}(h:(L.map f)[t]? =some d):∃x,L[t]? =some x/\d=f x/\L.take (t+1)=L.take t++[x]:=by rw[aW] at h;obtain⟨x,h1,h2⟩:=eY.mp h;exact⟨x,h1,h2.symm,by rw[eF,h1];rfl⟩
namespace S45
end S45
theorem StkOk.pr(S:StkOk p L):∀k,k<L.length->1<=prK L k:=λk hk=>(S.st _<|DL.getD_mem (d:=(AO:SK)) hk).2.1
theorem aHj(hp:p∈bY)(S:StkOk p L){row:List Nat}(h:iJ L row):∀ws∈S45.tabQ (yA p L) (cB p) row,ws∈cB p:=λws hw=>by obtain⟨q1,q2⟩:=aDl hp (λs hs=>(S.st s hs).1) h;rw[<-q2] at hw;obtain⟨i,hi,rfl⟩:=aP.mp hw;exact DL.getD_mem<|q1.2 i hi
end DL
namespace L2
open PySem PySem.Spec PyProof.Rows
end L2
namespace DL
open PySem PySem.Spec PyProof.Rows L2
section
variable {prog:AE}{w:AM}{K:Type}[DecidableEq K]{knd:HeapKind prog w K}{A:BF}{E:BC->BD->Prop}{s:BD}
theorem aAf{d a:BE}{xs:List (K×BE×BC)}{k:K}{j:Nat}{p:BE×BC}{Q:Option DictEntry->BD->Prop}(hu:knd.room A)(hkey:knd.is s.heap k a)(hm:s.heap.DictOfH knd d xs)(hj:xs[j]? =some (k,p))
  (hQ:∀h',h'.DictOfH knd d (xs.eraseIdx j)->Heap.SameBut d s.heap h'->Q (some<|entryOfKey knd (k,p)) {s with heap:=h',toks:=s.toks+knd.draws k})
  (hsz:xs.length<=AL):
  AK (AH prog w) A (Builtin.Dict.takeOut d<|.ref a) Q E s:=by
 obtain⟨o,es,ep,ho,hc,hd,he,his,hn⟩:=hm;have hes:es.size<=AL:=by have e:=Av he;omega
 unfold Builtin.Dict.takeOut
 try with_reducible refine AV ?_
 refine AA<|knd.pyHash hu hkey ?_;refine AA<|wpAny_dictFind_heap (s:={s with toks:=s.toks+knd.draws k}) hu hkey ho hd he his hn (λno=>absurd hj<|no j p) λj' p' hj'=> ?_
 have ej:j'=j:=by obtain⟨i1,e1⟩:=aE.mp hj';obtain⟨i2,e2⟩:=aE.mp hj;refine(kP (i:=j') (j:=j) (h₀:=by rw[aC];exact i1) (h₁:=by rw[aC];exact i2) hn).mp ?_;rw[eQ,eQ,e1,e2]
 subst ej;rw[hj] at hj';cases hj';refine AA<|An (s:={s with toks:=s.toks+knd.draws k}) ho hd ?_;rw[entry_at he j',hj];refine AA (wpAny_updateDictKeys (hz:=hes) (s:={s with toks:=s.toks+knd.draws k}) ho hd<|AC (hQ _ ⟨_,_,ep+1,gA _ ho (Obj.isFreed_of_dict<|Obj.data_mapDictKeys hd _),hc.mapDictKeys _,Obj.data_mapDictKeys hd _, ?_,λx hx=> ?_, ?_⟩<|Heap.SameBut.update ..))
 ·have:(es.eraseIdxIfInBounds j').toList=es.toList.eraseIdx j':=by obtain⟨l⟩:=es;simp
  rw[this,he,yY]
 ·exact knd.keeps (his x<|jN hx) ho hd<|Heap.SameBut.update ..
 ·exact hn.sublist<|(pY _ _).map _
end
section
variable {prog:AE}{w:AM}{K:Type}[DecidableEq K](knd:HeapKind prog w K)(d a:BE)
theorem aCy:
  MeetsIn prog w (Builtin.«dict.pop» ⟨[.ref d, .ref a],[]⟩) (fun A R s=>knd.room A.in1∧∃k xs j p,knd.is s.heap k a∧s.heap.DictOfH knd d xs∧xs.length≤AL∧xs[j]? =some (k,p)∧
   ∀h',h'.DictOfH knd d (xs.eraseIdx j)->Heap.SameBut d s.heap h'->R (.ok (.ret p.2)) {s with heap:=h',toks:=s.toks+knd.draws k}):=
 .of_wp λA R s ⟨hu,k,xs,j,p,hkey,hm,hz,hj,h⟩=>by
  unfold Builtin.«dict.pop»;refine AA ?_;unfold Builtin.Dict.keyAndDefault;refine AA<|Aw hm.typeIs ?_;show AK _ _ (pure (d,Value.ref a,none)) _ _ s;refine AC ?_;have hp:(keyPart<|Value.ref a).isSome=false:=rfl;simp only[hp,bT,if_false];obtain⟨o,es,ep,ho,hc,hd,he,his,hn⟩:=id hm;refine AA<|An ho hd (AA<|AC ?_)
  have ne:es.isEmpty=false:=by have e:=Av he;have:=(aE.mp hj).1;rw[Array.isEmpty_eq_false_iff_exists_mem];exact⟨es[0],Array.getElem_mem<|by omega⟩
  simp only[ne,bT,if_false];refine AA<|aAf hu hkey hm hj (λh' hm' hs'=> ?_) hz;simp only[Option.isNone_some,bT,if_false];exact AA (wpAny_letGo<|AC ⟨_,rfl,h h' hm' hs'⟩)
end
variable {X:Cx}{sd:List Slot}{c:Expr}{es:List Expr}{pos cp p p2:Pos}{ds:List D}{E:iA}{k n:Nat}{f x:Str}
theorem aFi{Z:Lent X.K}{C:Z.α->List D->(Z.α->Prop)->Prop}{post:Z.α->Prop}{a:Z.α}(i:Nat)(hs:sd[i]? =some (Z.sl a))(hxi:PE X (.Name x p2) (iT i))(G:qY X.prog X.w X.K Z X.mg X.base f k n C)(hr:Room k X.A)(hg:Gl X f)(ha:PAd X sd es (ds.map R.val))(hc:C a ds post)(hp:∀a',post a'->Z.ad a'=Z.ad a)(hn:ds.length+1=n)(hE:∀a',post a'->E.nx (sd.set i<|Z.sl a'))
  (hdb:(f==("__debug__":Str))=false:=by decide) (he:AB (.Name x p2::es) X.env=(false,eval (.Name x p2) X.env)::AB es X.env:=by rfl) (hpl:(AX cp<|AB es X.env).any (·.1)=false:=by rfl)
  (hsw:Ab (.Call (.Name f p) (.Name x p2::es) [] cp) none pos.line X.env=pure false:=by rfl):PSd1 X sd (.Expr (.Call (.Name f p) (.Name x p2::es) [] cp) pos) E:=.mk λσ F H S=>by
 obtain⟨fa,fd,ps,hm,hkp,bd,G⟩:=G.ex;obtain⟨o0,h1,v,h2,_⟩:=S.slots.get hs;refine(uO (rM (FnOk.framedL G) hr hg hm hkp bd .nil xJ (dA hxi oK he) hdb he hpl) hsw).to ⟨v,by rw[h1,h2],(ha σ F H S).imp λus H1 ⟨F1,S1,s1,q1⟩=> ?_⟩;have rl:=q1.vals;obtain⟨o1,g1,so⟩:=S1.slots.get hs
 have eo:o1=some v:=by rw[h1,h2] at g1;exact(bZ.inj g1).symm
 subst eo;refine⟨by rw[bN,bF,rl.len];exact hn,S1.smp,v,us,F1,a,ds,post,by rw[bN],S1.sub,so,gN S1.nd hs,rl,hc,hp,λF' H' a' pa s2 s3 sm so' nd kp kf=> ?_⟩;have S2:=S1.le<|gB sd i;have no:∀b,b∈cA (sd.set i .un)->b∉Z.own a:=λb hb z=>gR S1.nd hs (show b∈fK (Z.sl a) from z) hb
 have S3:StF X.K X.B₀ F' H' σ (sd.set i .un):=⟨fun b o e=>s2 _ _ (S1.base _ _ e),s3,sm,S2.slots.mono s2 fun b hb=>by
  obtain⟨n1,ob,e,_⟩:=S2.slots.owns hb
  exact⟨(kf b ob (no b hb) e n1).1,λxs e'=>kp b xs (no b hb) e'⟩,S2.nd⟩
 have S4:=S3.setT i so' nd λb hb hb2=>by obtain⟨n1,ob,e,_⟩:=S2.slots.owns hb2;exact(kf b ob (no b hb2) e n1).2 hb
 rw[jS,lR g1] at S4;exact⟨_,F',S4,s1.trans s2,hE a' pa⟩
theorem aFP{body:List BI}(W:Nat->List Slot->Prop)(h0:∃m sd0,Le sd sd0/\W m sd0)
  (hb:∀m sdm,W m sdm->∃t:Bool,PTd X sdm c t/\(t=false->E.nx sdm)/\(t=true->PSd X sdm body {E with nx:=λsd'=>∃m' sd2,m'<m/\Le sd' sd2/\W m' sd2,ct:=λsd'=>∃m' sd2,m'<m/\Le sd' sd2/\W m' sd2,bk:=E.nx}))
  (hp:PassesOwn (AH X.prog X.w) X.A X.env X.xe:=by exact PassesOwn.never):PSd1 X sd (.While c body [] pos) E:=.mk λσ F H S=>
 (aHL hp aHY pss_w).to (by
  obtain⟨m0,sd0,le0,q0⟩:=h0;refine⟨λm σ' H'=>∃sdm F',StF X.K X.B₀ F' H' σ' sdm/\Same F F'/\W m sdm,⟨m0,sd0,F,S.le le0,Same.refl _,q0⟩, ?_⟩;rintro m σ' H' ⟨sdm,F',S',s',qm⟩;obtain⟨t,ht,h1,h2⟩:=hb m sdm qm;refine(ht σ' F' H' S').imp λb H1 ⟨eb,F1,S1,s1⟩=> ?_
  subst eb;cases b with
  |false=>exact aJi ⟨sdm,F1,S1,s'.trans s1,h1 rfl⟩
  |true=>
   refine aJh ⟨λσ2 H2=>∃m' sd2 F2,m'<m/\StF X.K X.B₀ F2 H2 σ2 sd2/\Same F F2/\W m' sd2,λσ2 H2 ⟨m',sd2,F2,lt,S2,s2,w2⟩=>⟨m',lt,sd2,F2,S2,s2,w2⟩, ?_⟩;refine(h2 rfl σ' F1 H1 S1).imp ?_ ?_ ?_ ?_
   ·rintro σ4 H4 ⟨sd4,F4,S4,s4,m',sd5,lt,le,q5⟩;exact⟨m',sd5,F4,lt,S4.le le,(s'.trans s1).trans s4,q5⟩
   ·exact λv H4 q=>q
   ·rintro σ4 H4 ⟨sd4,F4,S4,s4,q⟩;exact⟨sd4,F4,S4,(s'.trans s1).trans s4,q⟩
   ·rintro σ4 H4 ⟨sd4,F4,S4,s4,m',sd5,lt,le,q5⟩
    exact⟨m',sd5,F4,lt,S4.le le,(s'.trans s1).trans s4,q5⟩)
theorem aAv{P:AE}{w:AM}{H:Hp}{h h':BG}{cs:List BE}(x:HOk P w H h)(k:∀b u,b∉cs->h.get? b=some u->h'.get? b=some u)(hn:∀b∈cs,H b=none):HOk P w H h':=λa o e=>
 (x a o e).stay (fun b u hb q=>k b u (fun z=>by
  have n:=hn b z
  rcases hb with rfl|hb
  ·rw[e] at n;cases n
  ·rw[hb] at n
   cases n) q) (λ_ q=>q) λ_ _ q=>q
variable {prog:AE}{w:AM}{A:BF}{d I:BE}{od:BH}{es:Array DictEntry}{ep:Nat}
theorem aNR(hh:A.handled=none)(c:od.data=.dict es ep)(ne:d≠I):Walks prog w A I [I,d] [I] es.size (λi v=>∃u,es[i]? =some u/\v=u.key) (λi h=>h.IsKeyIter I d i es.size ep/\h.get? d=some od) where
 sub:=λb hb=>bD.mpr (.inl<|aI.mp hb)
 frame:=λi h h' st k=>by obtain⟨⟨o,g,q⟩,g2⟩:=st;exact⟨⟨o,k I aJ o g,q⟩,k d (by simp) od g2⟩
 item:=λi s Q E hi st q=>aFd st.1 st.2 c hi λh' st' sb=>q _ h' s.toks ⟨es[i],by simp[hi],rfl⟩ ⟨st',(sb.2 d ne).trans st.2⟩ λb o hb g=>(sb.2 b λz=>hb<|by rw[z];exact cD _).trans g
 done:=λs Q E st q=>aGy hh st.1 st.2 c (aN _) λh' eb=>q h' s.toks λb o hb g=>eb b o (λz=>hb<|by rw[z];exact cD _) g
 self:=λi s Q E st q=>wpAny_pyIter_keyiter st.1 q
theorem srcD(sm:(d==AZ)=false)(x:od.ExactDict)(c:od.data=.dict es ep):PySem.W.KdlSrc prog w "dict" d d es.size (λi v=>∃u,es[i]? =some u/\v=u.key) (λh=>h.get? d=some od) where
 type:=λs ok=>sE ok x
 there:=λh ok=>⟨aR ok,aR ok⟩
 keep:=λh h' ok k=>k d (.inl rfl) od ok
 notList:=by decide
 notTuple:=by decide
 hint:=λA E s Q ok q=>PySem.W.kdl_hint_dict (sE ok x) q
 iter:=λA s hh ok=>⟨_,_,λE Q q=>aHw sm ok x c q,aNR hh c (bW<|aR ok),⟨⟨_,bL _ rfl,rfl,rfl⟩,aD _ ok⟩⟩
section
variable {prog:AE}{w:AM}{A:BF}{I:BE}{fp wr:List BE}{n:Nat}{P:Nat->BC->Prop}{St:Nat->BG->Prop}{J:BG->Prop}{bt:Nat->Nat->Bool}{R:Result->BD->Prop}{S:BE}
def aOK(prog:AE)(w:AM)(A:BF)(J:BG->Prop)(P:Nat->BC->Prop)(bt:Nat->Nat->Bool):Prop:=∀i k x y (t:BD) (Q:BC->BD->Prop) (E:BC->BD->Prop),J t.heap->P i x->P k y->Q (.bool<|bt i k) t->AK (AH prog w) A (richCompare .Lt x y) Q E t
def aJl(cs:List BE)(J:BG->Prop):Prop:=∀h h':BG,J h->(∀b o,b∉cs->h.get? b=some o->h'.get? b=some o)->J h'
noncomputable def two2(v:BC)(c:Nat):BH:={cls:=.type "list",dict:=none,data:=.seq #[v,v] c,slots:= #[]}
theorem aFA(W:Walks prog w A.in1 I fp wr n P St)(ask:aOK prog w A.in1 J P bt)(stay:aJl (S::wr) J)(nS:S∉fp):∀ (k j:Nat) (s:BD) (v0:BC) (c:Nat),n=k+(j+1)->St (j+1) s.heap->P (Ad bt j) v0->J s.heap->s.heap.get? S=some (two2 v0 c)->
  (∀v h' tk,P (Ad bt<|n-1) v->(∀b o,b∉S::wr->s.heap.get? b=some o->h'.get? b=some o)->R (.ok<|.ret v) {s with heap:=h',toks:=tk})->codeAny (AH prog w) A (.builtin "min.loop" ⟨[.ref I,.none,.ref S],[]⟩) R s:=λk=>by
 have nW:S∉wr:=λz=>nS<|W.sub S z
 have nm:(toString "min"++toString ".loop":String)="min.loop":=by decide
 have upO:∀ {h:BG}{f:BH->BH}{b:BE}{o:BH},b∉S::wr->h.get? b=some o->(h.update S f).get? b=some o:=λ{h f b o} hb g=>by rw[cU _ _ (λz=>hb<|by rw[<-z];exact aJ)];exact g
 have upF:∀ {h:BG}{f:BH->BH}{i:Nat},St i h->St i (h.update S f):=λ{h f i} st=>W.frame _ _ _ st λb hb o g=>by rw[cU _ _ (show S≠b from λz=>nS<|by rw[z];exact hb)];exact g
 have sub1:∀ {b:BE},b∉S::wr->b∉wr:=λhb z=>hb<|aF _ z
 induction k with
 |zero=>
  intro j s v0 c en st p0 hJ hS fin;have ej:n=j+1:=by omega
  refine BB F.entry_min_loop ?_;rw[Around.under_plainId F.plain_min_loop];refine AA (m:=seqItems?<|.ref S)<|wpAny_seqItems hS rfl ?_;refine AA (m:=tryCatch (pyNext<|.ref I) _) (wpAny_tryCatch<|W.done s _ _ (by rw[ej];exact st) λh1 tk k1=> ?_);refine AA (m:=updateSeq S λ_=> #[]) (wpAny_updateSeq (k1 S _ nW hS) rfl<|AA (wpAny_letGo<|AC ?_));exact fin v0 _ tk (by rw[ej];exact p0) λb o hb g=>upO hb<|k1 b o (sub1 hb) g
 |succ k ih=>
  intro j s v0 c en st p0 hJ hS fin;refine BB F.entry_min_loop ?_;rw[Around.under_plainId F.plain_min_loop];refine AA (m:=seqItems?<|.ref S)<|wpAny_seqItems hS rfl ?_;refine AA (m:=tryCatch (pyNext<|.ref I) _) (wpAny_tryCatch<|W.item (j+1) s _ _ (by omega) st λv h1 tk pv st1 k1=> ?_);have hS1:=k1 S _ nW hS;have hJ1:J h1:=stay _ _ hJ λb o hb g=>k1 b o (sub1 hb) g
  refine AA (m:=tryCatch (holding [v,v]<|richCompare .Lt v v0>>=_) _) (wpAny_tryCatch<|AV (AA<|ask (j+1) (Ad bt j) v v0 ⟨h1,s.gens,s.drawn,tk,s.os⟩ _ _ hJ1 pv p0 ?_));refine AA<|AV (Ax<|AA (wpAny_letGo<|AC ?_));have ab:Ad bt (j+1)=if bt (j+1) (Ad bt j) then j+1 else Ad bt j:=rfl
  cases q:bt (j+1) (Ad bt j) with
  |true=>rw[q,if_pos rfl] at ab;simp only[if_true];refine AA<|wpAny_updateSeq hS1 rfl (AA<|wpAny_letGo ?_);rw[nm];refine AC ⟨plainId_quiet F.plain_min_loop _,ih (j+1) _ v _ (by omega) (upF st1) (by rw[ab];exact pv) (stay _ _ hJ1 λb o hb g=>upO hb g) (gA _ hS1 rfl) λv' h2 tk2 p2 k2=> ?_⟩;exact fin v' h2 tk2 p2 λb o hb g=>k2 b o hb (upO hb<|k1 b o (sub1 hb) g)
  |false=>rw[q,if_neg bE] at ab;simp only[bT,if_false];refine AA<|wpAny_letGo ?_;rw[nm];refine AC ⟨plainId_quiet F.plain_min_loop _,ih (j+1) _ v0 c (by omega) st1 (by rw[ab];exact p0) hJ1 hS1 λv' h2 tk2 p2 k2=> ?_⟩;exact fin v' h2 tk2 p2 λb o hb g=>k2 b o hb<|k1 b o (sub1 hb) g
theorem aCF(W:Walks prog w A.in1 I fp wr n P St)(ask:aOK prog w A.in1 J P bt)(stay:aJl (S::wr) J)(nS:S∉fp)(h0:0<n){s:BD}{c:Nat}(st:St 0 s.heap)(hJ:J s.heap)(hS:s.heap.get? S=some {cls:=.type "list",dict:=none,data:=.seq #[] c,slots:= #[]})
  (fin:∀v h' tk,P (Ad bt<|n-1) v->(∀b o,b∉S::wr->s.heap.get? b=some o->h'.get? b=some o)->R (.ok<|.ret v) {s with heap:=h',toks:=tk}):codeAny (AH prog w) A (.builtin "min.loop" ⟨[.ref I,.none,.ref S],[]⟩) R s:=by
 have nW:S∉wr:=λz=>nS<|W.sub S z
 have nm:(toString "min"++toString ".loop":String)="min.loop":=by decide
 have upO:∀ {h:BG}{f:BH->BH}{b:BE}{o:BH},b∉S::wr->h.get? b=some o->(h.update S f).get? b=some o:=λ{h f b o} hb g=>by rw[cU _ _ (λz=>hb<|by rw[<-z];exact aJ)];exact g
 have sub1:∀ {b:BE},b∉S::wr->b∉wr:=λhb z=>hb<|aF _ z
 refine BB F.entry_min_loop ?_;rw[Around.under_plainId F.plain_min_loop];refine AA (m:=seqItems?<|.ref S)<|wpAny_seqItems hS rfl ?_;refine AA (m:=tryCatch (pyNext<|.ref I) _) (wpAny_tryCatch<|W.item 0 s _ _ h0 st λv h1 tk pv st1 k1=> ?_);have hS1:=k1 S _ nW hS;refine AA (m:=updateSeq S λ_=> #[v,v])<|wpAny_updateSeq hS1 rfl ?_;rw[nm];refine AC ⟨plainId_quiet F.plain_min_loop _,aFA W ask stay nS (n-1) 0 _ v _ (by omega) (W.frame _ _ _ st1 λb hb o g=> ?_) pv (stay _ _ hJ λb o hb g=>upO hb<|k1 b o (sub1 hb) g) (gA _ hS1 rfl) λv' h2 tk2 p2 k2=> ?_⟩
 ·rw[cU _ _ (show S≠b from λz=>nS<|by rw[z];exact hb)];exact g
 ·exact fin v' h2 tk2 p2 λb o hb g=>k2 b o hb (upO hb<|k1 b o (sub1 hb) g)
theorem aES{E:BC->BD->Prop}{s:BD}{x:BC}{Q:BC->BD->Prop}
  (h:AK (AH prog w) A.in1 (pyIter x) (fun it t=>∃ (I:BE) (fp wr:List BE) (n:Nat) (P:Nat→BC→Prop) (St:Nat→BG→Prop) (J:BG→Prop) (bt:Nat→Nat→Bool),it= .ref I∧Walks prog w A.in1 I fp wr n P St∧St 0 t.heap∧(∀b∈fp,b<t.heap.objs.size)∧0<n∧aOK prog w A.in1 J P bt∧J t.heap∧aJl (t.heap.objs.size::wr) J∧
   ∀v h' tk,P (Ad bt (n-1)) v->(∀b o,b∉wr->t.heap.get? b=some o->h'.get? b=some o)->Q v {t with heap:=h',toks:=tk}) E s):
  AK (AH prog w) A (call (.builtin "min") [x]) Q E s:=by
 have nm:(toString "min"++toString ".loop":String)="min.loop":=by decide
 refine call_function_tree F.kind_min F.plain_min F.entry_min (F.args_min1 _) ?_;refine AA (m:=Builtin.Builtins.bindParams "min" ["key","default"] 0 ⟨[],[]⟩)<|wpAny_of_eq (a:=[none,none]) rfl (AA<|AC ?_);refine AA<|Aa h (λit t hx=> ?_) λ_ _ z=>z;obtain⟨I,fp,wr,n,P,St,J,bt,rfl,W,st,hfp,h0,ask,hJ,stay,q⟩:=hx;refine AA<|AW ?_;have nS:t.heap.objs.size∉fp:=λz=>eL _<|hfp _ z
 rw[nm];refine AC ⟨plainId_quiet F.plain_min_loop _,aCF W ask stay nS h0 (W.frame _ _ _ st λb _ o g=>aD _ g) (stay _ _ hJ λb o _ g=>aD _ g) (bL _ rfl) λv h' tk pv k=> ?_⟩;refine q v h' tk pv λb o hb g=>k b o (λz=> ?_)<|aD _ g
 rcases bD.mp z with z|z
 ·exact eL _<|z▸aR g
 ·exact hb z
end
noncomputable def rkA(r:AG->Nat)(xs:Array AG)(i:Nat):Nat:=match xs[i]? with
 |some p=>r p
 |none=>0
def AscR(r:AG->Nat)(xs:Array AG)(l h:Nat):Prop:=∀i j,l<=i->i<j->j<h->rkA r xs i<rkA r xs j
theorem gZ{r:AG->Nat}{xs ys:Array AG}{i j:Nat}(h:xs[i]? =ys[j]?):rkA r xs i=rkA r ys j:=by unfold rkA;rw[h]
theorem dP{r:AG->Nat}{xs:Array AG}{i:Nat}(h:i<xs.size):rkA r xs i=r xs[i]:=by unfold rkA;rw[getElem?_pos xs i h]
structure lC(prog:AE)(w:AM)(A:BF)(E:BC->BD->Prop)(s:BD)(κ:As)(r:AG->Nat)(a₀:Array AG):Prop where
 ask:∀ {x y:AG}{st:BJ}{Q:Option Bool->BJ->Prop},x∈a₀.toList->y∈a₀.toList->kindOf st=κ->Q (some (decide<|r x<r y)) st->wpS (AH prog w) A E s (lt' x y) Q st
 nd:(a₀.toList.map r).Nodup
structure SB(κ:As)(a₀:Array AG)(st:BJ):Prop where
 perm:(AJ st).Perm a₀
 kind:kindOf st=κ
 failed:failedOf st=none
structure Stp(κ:As)(a₀:Array AG)(lo hi:Nat)(st st':BJ):Prop where
 sb:SB κ a₀ st'
 pend:AD st'=AD st
 keep:∀k,k<lo\/hi<=k->(AJ st')[k]? =(AJ st)[k]?
variable {E:BC->BD->Prop}{s:BD}{κ:As}{r:AG->Nat}{a₀:Array AG}{st st':BJ}
theorem SB.size(h:SB κ a₀ st):(AJ st).size=a₀.size:=h.perm.size_eq
theorem SB.mem(h:SB κ a₀ st){i:Nat}(hi:i<(AJ st).size):(AJ st)[i]∈a₀.toList:=(fX.mp h.perm).mem_iff.mp<|by simp
theorem aPq{xs:Array AG}(nd:(xs.toList.map r).Nodup){i j:Nat}(hi:i<xs.size)(hj:j<xs.size)(hij:i≠j):rkA r xs i≠rkA r xs j:=λe=>by
 rw[dP hi,dP hj] at e;have e2:(xs.toList.map r)[i]'(by simpa using hi)=(xs.toList.map r)[j]'(by simpa using hj):=by simpa using e
 exact hij<|(kP nd).mp e2
theorem SB.nd(h:SB κ a₀ st)(K:lC prog w A E s κ r a₀):((AJ st).toList.map r).Nodup:=(((fX.mp h.perm).map r).nodup_iff).mpr K.nd
theorem SB.ne(h:SB κ a₀ st)(K:lC prog w A E s κ r a₀){i j:Nat}(hi:i<a₀.size)(hj:j<a₀.size)(hij:i≠j):rkA r (AJ st) i≠rkA r (AJ st) j:=
 aPq (h.nd K) (by rw[h.size];exact hi) (by rw[h.size];exact hj) hij
theorem Stp.refl(h:SB κ a₀ st)(lo hi:Nat):Stp κ a₀ lo hi st st:=⟨h,rfl,λ_ _=>rfl⟩
theorem Stp.trans{lo hi:Nat}{st'':BJ}(h:Stp κ a₀ lo hi st st')(h2:Stp κ a₀ lo hi st' st''):Stp κ a₀ lo hi st st'':=⟨h2.sb,h2.pend.trans h.pend,λk hk=>(h2.keep k hk).trans<|h.keep k hk⟩
theorem SB.setArr(h:SB κ a₀ st){xs:Array AG}(hp:xs.Perm (AJ st)):SB κ a₀ (setArr st xs):=⟨hp.trans h.perm,h.kind,h.failed⟩
theorem dS{xs:Array AG}{i:Nat}{Q:AG->BJ->Prop}(hi:i<xs.size)(h:Q xs[i] st):wpS (AH prog w) A E s (elem' xs i) Q st:=by rw[elem'_eq,getElem?_pos xs i hi];exact AI h
theorem rA{i j:Nat}{Q:Option Bool->BJ->Prop}(K:lC prog w A E s κ r a₀)(hB:SB κ a₀ st)(hi:i<a₀.size)(hj:j<a₀.size)
  (h:Q (some (decide<|rkA r (AJ st) i<rkA r (AJ st) j)) st):wpS (AH prog w) A E s (ltAt' i j) Q st:=by
 have hi':i<(AJ st).size:=by rw[hB.size];exact hi
 have hj':j<(AJ st).size:=by rw[hB.size];exact hj
 rw[ltAt'_eq];refine AF<|wpS_get ?_;show wpS _ _ _ _ (do let x <-elem' (AJ st) i;let y <-elem' (AJ st) j;lt' x y) Q st;refine AF (dS hi'<|AF (dS hj'<|K.ask (hB.mem hi') (hB.mem hj') hB.kind ?_));rw[dP hi',dP hj'] at h;exact h
theorem zA{xs:Array AG}{i j:Nat}(hj:j<=xs.size)(k:Nat):
  rkA r (mirror xs i j<|(j-i) / 2) k=if i<=k/\k<j then rkA r xs (i+j-1-k) else rkA r xs k:=by
 have e:=getElem?_mirror_all (i:=i) hj k
 by_cases h1:i<=k/\k<j
 ·rw[if_pos h1] at e ⊢;exact gZ e
 ·rw[if_neg h1] at e ⊢;exact gZ e
theorem zR{xs:Array AG}{src d:Nat}(hs:src<xs.size)(hd:d<=src)(k:Nat):
  rkA r (bubble xs src d) k=if k=src-d then rkA r xs src else if src-d<k/\k<=src then rkA r xs (k-1) else rkA r xs k:=by
 have e:=getElem?_bubble hs d hd k
 by_cases h1:k=src-d
 ·rw[if_pos h1] at e ⊢;exact gZ e
 ·rw[if_neg h1] at e ⊢
  by_cases h2:src-d<k/\k<=src
  ·rw[if_pos h2] at e ⊢;exact gZ e
  ·rw[if_neg h2] at e ⊢;exact gZ e
theorem AscR.snoc{xs:Array AG}{l h:Nat}(a:AscR r xs l h)(lt:l<h)(q:rkA r xs (h-1)<rkA r xs h):AscR r xs l (h+1):=λi j hi hij hj=>by
 by_cases e:j=h
 ·subst e
  by_cases e2:i=j-1
  ·rw[e2];exact q
  ·exact pE (a i (j-1) hi (by omega)<|by omega) q
 ·exact a i j hi hij<|by omega
theorem aEG{lo a nrem:Nat}{Q:Option (Option Nat)×Nat->BJ->Prop}(K:lC prog w A E s κ r a₀)(hB:SB κ a₀ st)(ha:1<=a)(han:a<=nrem)(hn:lo+nrem<=a₀.size)(hs:AscR r (AJ st) lo (lo+a))
  (h:∀m,a<=m->m<=nrem->AscR r (AJ st) lo (lo+m)->(m<nrem->rkA r (AJ st) (lo+m)<rkA r (AJ st) (lo+m-1))->Q (none,m) st):
  wpS (AH prog w) A E s (forIn [a:nrem] ((none,a):Option (Option Nat) × Nat) fun _ __s=>do
   let __x <-ltAt' (lo+__s.snd) (lo+__s.snd-1)
   match __x with
   |some smaller=>if smaller=true then pure (ForInStep.done (none,__s.snd)) else pure (ForInStep.yield (none,__s.snd+1))
   |_=>pure (ForInStep.done (some none,__s.snd))) Q st:=by
 refine AT (I:=λx c st'=>st'=st/\c=(none,x)/\AscR r (AJ st) lo (lo+x)) ?_ ?_ ⟨rfl,rfl,hs⟩
 ·rintro x c st' hx hxn ⟨rfl,rfl,hs'⟩;dsimp only;refine AF (rA K hB (by omega) (by omega) ?_)
  by_cases q:rkA r (AJ st') (lo+x)<rkA r (AJ st') (lo+x-1)
  ·simp only[q,decide_true,if_true];exact AI<|h x hx (by omega) hs' λ_=>q
  ·simp only[q,decide_false,bT,if_false];refine AI ⟨rfl,rfl, ?_⟩;have ne:=hB.ne K (i:=lo+x) (j:=lo+x-1) (by omega) (by omega) (by omega);exact hs'.snoc (by omega)<|by omega
 ·rintro c st' ⟨rfl,rfl,hs'⟩;rw[show max a nrem=nrem by omega] at hs' ⊢;exact h nrem han (aN _) hs' λz=>absurd z<|eL _
def DscR(r:AG->Nat)(xs:Array AG)(l h:Nat):Prop:=∀i j,l<=i->i<j->j<h->rkA r xs j<rkA r xs i
theorem DscR.snoc{xs:Array AG}{l h:Nat}(a:DscR r xs l h)(lt:l<h)(q:rkA r xs h<rkA r xs (h-1)):DscR r xs l (h+1):=λi j hi hij hj=>by
 by_cases e:j=h
 ·subst e
  by_cases e2:i=j-1
  ·rw[e2];exact q
  ·exact pE q (a i (j-1) hi (by omega)<|by omega)
 ·exact a i j hi hij<|by omega
theorem aCI{lo nrem:Nat}{Q:Option Nat->BJ->Prop}(K:lC prog w A E s κ r a₀)(hB:SB κ a₀ st)(h1:1<=nrem)(hn:lo+nrem<=a₀.size)
  (h:∀m st',1<=m->m<=nrem->Stp κ a₀ lo (lo+nrem) st st'->AscR r (AJ st') lo (lo+m)->Q (some m) st'):wpS (AH prog w) A E s (countRun' lo nrem) Q st:=by
 rw[countRun'_eq];refine AF<|aEG K hB (aN 1) h1 hn (λi j h1 h2 h3=>by omega) λm hm1 hm2 hs hq=> ?_;dsimp only
 by_cases e:m=nrem
 ·rw[if_pos<|by simpa using e];exact AI<|h m st hm1 hm2 (.refl hB _ _) hs
 ·rw[if_neg<|by simpa using e]
  by_cases m1:m>1
  ·rw[if_pos m1];refine AF<|rA K hB (by omega) (by omega) ?_;rw[decide_eq_true (hs lo (lo+m-1) (aN _) (by omega)<|by omega)];dsimp only;rw[if_pos rfl];exact AI<|h m st hm1 hm2 (.refl hB _ _) hs
  ·rw[if_neg m1];have em:m=1:=by omega
   subst em;have hq:=hq (by omega);refine AF (wpS_lift<|Az ⟨rfl, ?_⟩);refine AF<|Ac (AT (I:=λx c st'=>st'=st/\c=(none,x,0)/\DscR r (AJ st) lo (lo+x)) (Q:=λc st'=>st'=st/\∃m,c=(none,m,0)/\2<=m/\m<=nrem/\DscR r (AJ st) lo (lo+m)) ?step ?fin ⟨rfl,rfl, ?init⟩) ?post
   case init=>
    intro i j h1 h2 h3;have e1:i=lo:=by omega
    have e2:j=lo+1:=by omega
    subst e1 e2;exact hq
   case step=>
    rintro x c st' hx hxn ⟨rfl,rfl,hs'⟩;dsimp only;refine AF<|rA K hB (by omega) (by omega) ?_
    by_cases q:rkA r (AJ st') (lo+x)<rkA r (AJ st') (lo+x-1)
    ·simp only[q,decide_true,if_true];rw[if_neg<|by omega];exact AI ⟨rfl,rfl,hs'.snoc (by omega) q⟩
    ·simp only[q,decide_false,bT,if_false];refine AF<|rA K hB (by omega) (by omega) ?_;have ne:=hB.ne K (i:=lo+x) (j:=lo+x-1) (by omega) (by omega) (by omega);rw[decide_eq_true (show rkA r (AJ st') (lo+x-1)<rkA r (AJ st') (lo+x) by omega)];dsimp only;rw[if_pos rfl];exact AI ⟨rfl,x,rfl,hx,by omega,hs'⟩
   case fin=>rintro c st' ⟨rfl,rfl,hs'⟩;rw[show max (1+1) nrem=nrem by omega] at hs' ⊢;exact⟨rfl,nrem,rfl,by omega,aN _,hs'⟩
   case post=>
    rintro c st' ⟨rfl,m,rfl,m2,mn,hd⟩;dsimp only;rw[if_neg<|by omega,reverseSlice'_eq];refine AF<|Au ?_;have hz:lo+m<=(AJ st').size:=by rw[hB.size];omega
    have S:Stp κ a₀ lo (lo+nrem) st' (setArr st' (mirror (AJ st') lo (lo+m)<|(lo+m-lo) / 2)):=by refine⟨hB.setArr<|mirror_perm _ _ _ _,rfl,λk hk=> ?_⟩;show(mirror (AJ st') lo (lo+m)<|(lo+m-lo) / 2)[k]? =_;rw[getElem?_mirror_all hz,if_neg<|by omega]
    refine AF<|aEG K S.sb (by omega) mn hn (λi j h1 h2 h3=> ?_) λm' a1 a2 a3 _=> ?_
    ·show rkA r (mirror (AJ st') lo (lo+m)<|(lo+m-lo) / 2) i<rkA r (mirror (AJ st') lo (lo+m)<|(lo+m-lo) / 2) j;rw[zA hz,zA hz,if_pos<|by omega,if_pos<|by omega];exact hd _ _ (by omega) (by omega)<|by omega
    ·exact AI<|h m' _ (by omega) a2 S a3
theorem aHd{lo ok:Nat}{Q:Bool->BJ->Prop}(K:lC prog w A E s κ r a₀)(hB:SB κ a₀ st)(hn:lo+n<=a₀.size)(hok:ok<=n)(hs:AscR r (AJ st) lo (lo+ok))
  (h:∀st',Stp κ a₀ lo (lo+n) st st'->AscR r (AJ st') lo (lo+n)->Q true st'):wpS (AH prog w) A E s (binarySort' lo n ok) Q st:=by
 rw[binarySort'_eq]
 refine AF (Ac (AT (I:=fun k c st'=>c=(none,())∧Stp κ a₀ lo (lo+n) st st'∧AscR r (AJ st') lo (lo+min k n))
  (Q:=λc st'=>c=(none,())/\Stp κ a₀ lo (lo+n) st st'/\AscR r (AJ st') lo (lo+n)) ?step ?fin ?init) ?post)
 case post=>rintro c st' ⟨rfl,S,hs'⟩;exact AI<|h st' S hs'
 case init=>refine⟨rfl,.refl hB _ _,λi j hi hij hj=> ?_⟩;exact hs i j hi hij<|by omega
 case fin=>
  rintro c st' ⟨hc,S,hs'⟩;refine⟨hc,S, ?_⟩
  rwa[show min (max (max ok 1) n) n=n by omega] at hs'
 case step=>
  rintro k c st' hak hkn ⟨rfl,S,hs'⟩;rw[show min k n=k by omega] at hs';have hB':=S.sb;have hk:lo+k<a₀.size:=by omega
  refine AF (Ac (AT (I:=fun x c st''=>st''=st'∧∃l r',c=(none,l,r')∧l≤r'∧r'≤k∧r' - l≤k - x∧
    (∀i,i<l->rkA r (AJ st') (lo+i)<rkA r (AJ st') (lo+k))/\(∀i,r'<=i->i<k->rkA r (AJ st') (lo+k)<rkA r (AJ st') (lo+i)))
   (Q:=fun c st''=>st''=st'∧∃l r',c=(none,l,r')∧l≤k∧
    (∀i,i<l->rkA r (AJ st') (lo+i)<rkA r (AJ st') (lo+k))/\(∀i,l<=i->i<k->rkA r (AJ st') (lo+k)<rkA r (AJ st') (lo+i))) ?istep ?ifin ?iinit) ?ipost)
  case iinit=>exact⟨rfl,0,k,rfl,by omega,by omega,by omega,λi hi=>by omega,λi h1 h2=>by omega⟩
  case ifin=>
   rintro c st'' ⟨rfl,l,r',rfl,hlr,hrk,hm,hlo,hhi⟩;have:l=r':=by omega
   subst this;exact⟨rfl,l,l,rfl,hrk,hlo,hhi⟩
  case istep=>
   rintro x c st'' _ hxk ⟨rfl,l,r',rfl,hlr,hrk,hm,hlo,hhi⟩;dsimp only
   by_cases hge:l>=r'
   ·rw[if_pos hge];have:l=r':=by omega
    subst this;exact AI ⟨rfl,l,l,rfl,hrk,hlo,hhi⟩
   ·rw[if_neg hge];refine AF (rA K hB' hk (by omega) ?_)
    by_cases hless:rkA r (AJ st'') (lo+k)<rkA r (AJ st'') (lo+(l+r') / 2)
    ·simp only[hless,decide_true,if_true];refine AI ⟨rfl,l,(l+r') / 2,rfl,by omega,by omega,by omega,hlo,λi h1 h2=> ?_⟩
     by_cases e:i=(l+r') / 2
     ·rw[e];exact hless
     ·exact pE hless (hs' _ _ (by omega) (by omega)<|by omega)
    ·simp only[hless,decide_false,bT,if_false];have ne:=hB'.ne K (i:=lo+k) (j:=lo+(l+r') / 2) hk (by omega) (by omega);have hl:rkA r (AJ st'') (lo+(l+r') / 2)<rkA r (AJ st'') (lo+k):=by omega
     refine AI ⟨rfl,(l+r') / 2+1,r',rfl,by omega,by omega,by omega,λi h1=> ?_,hhi⟩
     by_cases e:i=(l+r') / 2
     ·rw[e];exact hl
     ·exact pE (hs' _ _ (by omega) (by omega)<|by omega) hl
  case ipost=>
   rintro c st'' ⟨rfl,l,r',rfl,hlk,hlo,hhi⟩;show wpS _ _ _ _ (do moveDown' (lo+k) (lo+l);pure (ForInStep.yield (none,()))) _ _;rw[moveDown'_eq];have hks:lo+k<(AJ st'').size:=by rw[hB'.size];exact hk
   have ed:lo+k-(lo+l)=k-l:=by omega
   rw[ed];refine AF (Au<|AI ⟨rfl,S.trans ⟨hB'.setArr<|bubble_perm _ _ _,rfl,λi hi=> ?_⟩, ?_⟩)
   ·show(bubble (AJ st'') (lo+k)<|k-l)[i]? =_;rw[getElem?_bubble hks _<|by omega,if_neg<|by omega,if_neg<|by omega]
   rw[show min (k+1) n=k+1 by omega];intro i j hi hij hj;show rkA r (bubble (AJ st'') (lo+k)<|k-l) i<rkA r (bubble (AJ st'') (lo+k)<|k-l) j;rw[zR hks<|by omega,zR hks<|by omega,show lo+k-(k-l)=lo+l by omega]
   have hlo':∀i,lo<=i->i<lo+l->rkA r (AJ st'') i<rkA r (AJ st'') (lo+k):=λi a b=>by
    have:=hlo (i-lo)<|by omega
    rwa[show lo+(i-lo)=i by omega] at this
   have hhi':∀i,lo+l<=i->i<lo+k->rkA r (AJ st'') (lo+k)<rkA r (AJ st'') i:=λi a b=>by
    have:=hhi (i-lo) (by omega)<|by omega
    rwa[show lo+(i-lo)=i by omega] at this
   repeat' split
   all_goals first
    |(exfalso;omega)
    |exact hlo' _ (by omega) (by omega)
    |exact hhi' _ (by omega) (by omega)
    |exact hs' _ _ (by omega) (by omega) (by omega)
noncomputable def lV:Bool->AG->Array AG->Nat->Nat->Nat->StateT BJ Sem (Option Nat):=sortPriv%PySem.Builtin.gallop
noncomputable def bey(left:Bool)(key:AG)(arr:Array AG)(base i:Nat):StateT BJ Sem (Option Bool):=do
  let x <-elem' arr (base+i)
  if left then lt' x key else return (<-lt' key x).map (!·)
theorem aDb(left:Bool)(key:AG)(arr:Array AG)(base n hint:Nat):lV left key arr base n hint=(do
 let mut lastofs:=0
 let mut ofs:=1
 let mut lo:=0
 let mut hi:=0
 let some right <-bey left key arr base hint|return none
 if right then
  let maxofs:=n-hint
  for _ in[0:n] do
   if ofs>=maxofs then break
   let some more <-bey left key arr base (hint+ofs)|return none
   if !more then break
   lastofs:=ofs
   ofs:=2*ofs+1
  lo:=hint+lastofs+1
  hi:=hint+min ofs maxofs
 else
  let maxofs:=hint+1
  for _ in[0:n] do
   if ofs>=maxofs then break
   let some found <-bey left key arr base (hint-ofs)|return none
   if found then break
   lastofs:=ofs
   ofs:=2*ofs+1
  lo:=hint+1-min ofs maxofs
  hi:=hint-lastofs
 for _ in[0:n] do
  if lo>=hi then break
  let m:=lo+(hi-lo) / 2
  let some more <-bey left key arr base m|return none
  if more then lo:=m+1 else hi:=m
 return some hi):=rfl
theorem rD{left:Bool}{key:AG}{xs:Array AG}{base i:Nat}{Q:Option Bool->BJ->Prop}(K:lC prog w A E s κ r a₀)(hk:kindOf st=κ)(mx:∀x∈xs.toList,x∈a₀.toList)(mk:key∈a₀.toList)(hi:base+i<xs.size)(ne:rkA r xs (base+i)≠r key)
  (h:Q (some (decide<|rkA r xs (base+i)<r key)) st):wpS (AH prog w) A E s (bey left key xs base i) Q st:=by
 unfold bey;refine AF<|dS hi ?_;have m1:xs[base+i]∈a₀.toList:=mx _ (by simp);rw[dP hi] at h ne;cases left with
 |true=>exact K.ask m1 mk hk h
 |false=>
  refine AF (K.ask mk m1 hk<|AI ?_)
  have e:(!decide (r key<r xs[base+i]))=decide (r xs[base+i]<r key):=by
   by_cases q:r xs[base+i]<r key
   ·rw[decide_eq_true q,decide_eq_false<|by omega];rfl
   ·rw[decide_eq_false q,decide_eq_true<|by omega];rfl
  show Q (some<|!decide (r key<r xs[base+i])) st;rw[e];exact h
theorem AscR.le{xs:Array AG}{base:Nat}(a:AscR r xs base (base+n)){i j:Nat}(hij:i<=j)(hj:j<n):rkA r xs (base+i)<=rkA r xs (base+j):=by
 by_cases e:i=j
 ·rw[e];exact aN _
 ·exact dE (a _ _ (by omega) (by omega)<|by omega)
theorem pQ{left:Bool}{key:AG}{xs:Array AG}{base hint:Nat}{Q:Option Nat->BJ->Prop}(K:lC prog w A E s κ r a₀)(hk:kindOf st=κ)(mx:∀x∈xs.toList,x∈a₀.toList)(mk:key∈a₀.toList)(hx:base+n<=xs.size)(hh:hint<n)
  (asc:AscR r xs base (base+n)) (ne:∀i,i<n->rkA r xs (base+i)≠r key)
  (h:∀k,k<=n->(∀i,i<k->rkA r xs (base+i)<r key)->(∀i,k<=i->i<n->r key<rkA r xs (base+i))->Q (some k) st):wpS (AH prog w) A E s (lV left key xs base n hint) Q st:=by
 rw[aDb];refine AF<|rD K hk mx mk (by omega) (ne _ hh) ?_
 by_cases q:rkA r xs (base+hint)<r key
 ·simp only[q,decide_true,if_true]
  refine AF (Ac (AT (I:=fun x c st'=>st'=st∧∃last ofs,c=(none,last,ofs)∧last<ofs∧x+1≤ofs∧hint+last<n∧rkA r xs (base+(hint+last))<r key)
   (Q:=λc st'=>st'=st/\∃last ofs,c=(none,last,ofs)/\last<ofs/\hint+last<n/\rkA r xs (base+(hint+last))<r key/\(n-hint<=ofs\/(hint+ofs<n/\r key<rkA r xs (base+(hint+ofs))))) ?step ?fin ⟨rfl,0,1,rfl,by omega,by omega,hh,q⟩) ?post)
  case fin=>rintro c st' ⟨rfl,last,ofs,rfl,a,b,c,d⟩;exact⟨rfl,last,ofs,rfl,a,c,d,.inl<|by omega⟩
  case step=>
   rintro x c st' _ hxn ⟨rfl,last,ofs,rfl,a,b,c,d⟩;dsimp only
   by_cases z:ofs>=n-hint
   ·rw[if_pos z];exact AI ⟨rfl,last,ofs,rfl,a,c,d,.inl z⟩
   ·rw[if_neg z];refine AF (rD K hk mx mk (by omega) (ne _<|by omega) ?_)
    by_cases y:rkA r xs (base+(hint+ofs))<r key
    ·simp only[y,decide_true,Bool.not_true,bT,if_false];exact AI ⟨rfl,ofs,2*ofs+1,rfl,by omega,by omega,by omega,y⟩
    ·simp only[y,decide_false,Bool.not_false,if_true];have y':=ne (hint+ofs) (by omega);exact AI ⟨rfl,last,ofs,rfl,a,c,d,.inr ⟨by omega,by omega⟩⟩
  case post=>
   rintro c st' ⟨rfl,last,ofs,rfl,a,b,c,d⟩;dsimp only;have l1:hint+last+1<=hint+min ofs (n-hint):=by omega
   have l2:hint+min ofs (n-hint)<=n:=by omega
   have hl:∀i,i<hint+last+1->rkA r xs (base+i)<r key:=λi hi=>cM (asc.le (by omega) b) c
   have hg:∀i,hint+min ofs (n-hint)<=i->i<n->r key<rkA r xs (base+i):=λi h1 h2=>by
    rcases d with d|⟨d1,d2⟩
    ·omega
    ·exact aY d2<|asc.le (by omega) h2
   refine AF (Ac (AT (I:=fun x c st''=>st''=st'∧∃lo hi,c=(none,lo,hi)∧lo≤hi∧hi≤n∧hi - lo≤n - x∧(∀i,i<lo→rkA r xs (base+i)<r key)∧(∀i,hi≤i→i<n→r key<rkA r xs (base+i)))
    (Q:=λc st''=>st''=st'/\∃k,c=(none,k,k)/\k<=n/\(∀i,i<k->rkA r xs (base+i)<r key)/\(∀i,k<=i->i<n->r key<rkA r xs (base+i))) ?step ?fin ⟨rfl,_,_,rfl,l1,l2,by omega,hl,hg⟩) ?post)
   case post=>rintro c st'' ⟨rfl,k,rfl,a,b,c⟩;exact AI<|h k a b c
   case fin=>
    rintro c st'' ⟨rfl,lo,hi,rfl,a,b,c,d,e⟩;have:lo=hi:=by omega
    subst this;exact⟨rfl,lo,rfl,b,d,e⟩
   case step=>
    rintro x c st'' _ hxn ⟨rfl,lo,hi,rfl,a,b,c,d,e⟩;dsimp only
    by_cases q:lo>=hi
    ·rw[if_pos q];have:lo=hi:=by omega
     subst this;exact AI ⟨rfl,lo,rfl,b,d,e⟩
    ·rw[if_neg q];refine AF (rD K hk mx mk (by omega) (ne _<|by omega) ?_)
     by_cases z:rkA r xs (base+(lo+(hi-lo) / 2))<r key
     ·simp only[z,decide_true,if_true];refine AI ⟨rfl,lo+(hi-lo) / 2+1,hi,rfl,by omega,b,by omega,λi hi'=> ?_,e⟩;exact cM (asc.le (by omega)<|by omega) z
     ·simp only[z,decide_false,bT,if_false];have z':=ne (lo+(hi-lo) / 2) (by omega);refine AI ⟨rfl,lo,lo+(hi-lo) / 2,rfl,by omega,by omega,by omega,d,λi h1 h2=> ?_⟩;exact aY (by omega)<|asc.le h1 h2
 ·simp only[q,decide_false,bT,if_false];have q':=ne hint hh
  refine AF (Ac (AT (I:=fun x c st'=>st'=st∧∃last ofs,c=(none,last,ofs)∧last<ofs∧x+1≤ofs∧last≤hint∧r key<rkA r xs (base+(hint - last)))
   (Q:=λc st'=>st'=st/\∃last ofs,c=(none,last,ofs)/\last<ofs/\last<=hint/\r key<rkA r xs (base+(hint-last))/\(hint+1<=ofs\/(ofs<=hint/\rkA r xs (base+(hint-ofs))<r key))) ?step ?fin ⟨rfl,0,1,rfl,by omega,by omega,by omega,by rw[Nat.sub_zero];omega⟩) ?post)
  case fin=>rintro c st' ⟨rfl,last,ofs,rfl,a,b,c,d⟩;exact⟨rfl,last,ofs,rfl,a,c,d,.inl<|by omega⟩
  case step=>
   rintro x c st' _ hxn ⟨rfl,last,ofs,rfl,a,b,c,d⟩;dsimp only
   by_cases z:ofs>=hint+1
   ·rw[if_pos z];exact AI ⟨rfl,last,ofs,rfl,a,c,d,.inl z⟩
   ·rw[if_neg z];refine AF (rD K hk mx mk (by omega) (ne _<|by omega) ?_)
    by_cases y:rkA r xs (base+(hint-ofs))<r key
    ·simp only[y,decide_true,if_true];exact AI ⟨rfl,last,ofs,rfl,a,c,d,.inr ⟨by omega,y⟩⟩
    ·simp only[y,decide_false,bT,if_false];have y':=ne (hint-ofs) (by omega);exact AI ⟨rfl,ofs,2*ofs+1,rfl,by omega,by omega,by omega,by omega⟩
  case post=>
   rintro c st' ⟨rfl,last,ofs,rfl,a,b,c,d⟩;dsimp only;have l1:hint+1-min ofs (hint+1)<=hint-last:=by omega
   have l2:hint-last<=n:=by omega
   have hl:∀i,i<hint+1-min ofs (hint+1)->rkA r xs (base+i)<r key:=λi hi=>by
    rcases d with d|⟨d1,d2⟩
    ·omega
    ·exact cM (asc.le (by omega)<|by omega) d2
   have hg:∀i,hint-last<=i->i<n->r key<rkA r xs (base+i):=λi h1 h2=>aY c<|asc.le (by omega) h2
   refine AF (Ac (AT (I:=fun x c st''=>st''=st'∧∃lo hi,c=(none,lo,hi)∧lo≤hi∧hi≤n∧hi - lo≤n - x∧(∀i,i<lo→rkA r xs (base+i)<r key)∧(∀i,hi≤i→i<n→r key<rkA r xs (base+i)))
    (Q:=λc st''=>st''=st'/\∃k,c=(none,k,k)/\k<=n/\(∀i,i<k->rkA r xs (base+i)<r key)/\(∀i,k<=i->i<n->r key<rkA r xs (base+i))) ?step ?fin ⟨rfl,_,_,rfl,l1,l2,by omega,hl,hg⟩) ?post)
   case post=>rintro c st'' ⟨rfl,k,rfl,a,b,c⟩;exact AI<|h k a b c
   case fin=>
    rintro c st'' ⟨rfl,lo,hi,rfl,a,b,c,d,e⟩;have:lo=hi:=by omega
    subst this;exact⟨rfl,lo,rfl,b,d,e⟩
   case step=>
    rintro x c st'' _ hxn ⟨rfl,lo,hi,rfl,a,b,c,d,e⟩;dsimp only
    by_cases q:lo>=hi
    ·rw[if_pos q];have:lo=hi:=by omega
     subst this;exact AI ⟨rfl,lo,rfl,b,d,e⟩
    ·rw[if_neg q];refine AF (rD K hk mx mk (by omega) (ne _<|by omega) ?_)
     by_cases z:rkA r xs (base+(lo+(hi-lo) / 2))<r key
     ·simp only[z,decide_true,if_true];refine AI ⟨rfl,lo+(hi-lo) / 2+1,hi,rfl,by omega,b,by omega,λi hi'=> ?_,e⟩;exact cM (asc.le (by omega)<|by omega) z
     ·simp only[z,decide_false,bT,if_false];have z':=ne (lo+(hi-lo) / 2) (by omega);refine AI ⟨rfl,lo,lo+(hi-lo) / 2,rfl,by omega,by omega,by omega,d,λi h1 h2=> ?_⟩;exact aY (by omega)<|asc.le h1 h2
structure MS(r:AG->Nat)(a b:Array AG)(out:List AG)(ia ib:Nat):Prop where
 ha:ia<=a.size
 hb:ib<=b.size
 perm:out.Perm (a.toList.take ia++b.toList.take ib)
 asc:(out.map r).Pairwise (·<·)
 la:∀x∈out,∀i,ia<=i->i<a.size->r x<rkA r a i
 lb:∀x∈out,∀i,ib<=i->i<b.size->r x<rkA r b i
def MD(r:AG->Nat)(a b:Array AG)(out:List AG):Prop:=out.Perm (a.toList++b.toList)/\(out.map r).Pairwise (·<·)
variable {a b:Array AG}{out:List AG}{ia ib:Nat}
theorem MS.swap(m:MS r a b out ia ib):MS r b a out ib ia:=⟨m.hb,m.ha,m.perm.trans iI,m.asc,m.lb,m.la⟩
theorem MS.pushA(m:MS r a b out ia ib)(h:ia<a.size)(asa:AscR r a 0 a.size)(hb:∀j,ib<=j->j<b.size->rkA r a ia<rkA r b j):MS r a b (out++[a[ia]]) (ia+1) ib:=by
 refine⟨h,m.hb, ?_, ?_,λx hx i h1 h2=> ?_,λx hx i h1 h2=> ?_⟩
 ·have e:a.toList.take (ia+1)=a.toList.take ia++[a[ia]]:=by rw[eF];simp[h]
  rw[e,dM];refine(m.perm.append_right _).trans ?_;rw[dM];exact List.Perm.append_left _ iI
 ·rw[aX,qK];refine⟨m.asc,jW _ _,λx hx y hy=> ?_⟩;obtain⟨z,hz,rfl⟩:=aP.mp hx;have:y=r a[ia]:=by simpa using hy
  rw[this,<-dP (r:=r) h];exact m.la z hz ia (aN _) h
 ·rcases aS.mp hx with hx|hx
  ·exact m.la x hx i (by omega) h2
  ·rw[aI.mp hx,<-dP (r:=r) h];exact asa ia i (cP _) (by omega) h2
 ·rcases aS.mp hx with hx|hx
  ·exact m.lb x hx i h1 h2
  ·rw[aI.mp hx,<-dP (r:=r) h];exact hb i h1 h2
theorem MS.pushB(m:MS r a b out ia ib)(h:ib<b.size)(asb:AscR r b 0 b.size)(hb:∀j,ia<=j->j<a.size->rkA r b ib<rkA r a j):MS r a b (out++[b[ib]]) ia (ib+1):=(m.swap.pushA h asb hb).swap
theorem aGX(h:ia+k<a.size):(a.extract ia<|ia+(k+1)).toList=(a.extract ia<|ia+k).toList++[a[ia+k]]:=by simp only[dN,cW];rw[show ia+(k+1)-ia=k+1 by omega,show ia+k-ia=k by omega,eF];simp[h]
theorem aHB(i:Nat):(a.extract i<|i+0).toList=[]:=by simp[dN,cW]
theorem MS.extA(asa:AscR r a 0 a.size)(m:MS r a b out ia ib):∀k,ia+k<=a.size->(∀i,i<k->∀j,ib<=j->j<b.size->rkA r a (ia+i)<rkA r b j)->MS r a b (out++(a.extract ia<|ia+k).toList) (ia+k) ib
 |0,_,_=>by rw[aHB,bN];exact m
 |k+1,h,hb=>by
  have ih:=MS.extA asa m k (by omega) λi hi=>hb i<|by omega
  rw[aGX<|by omega,<-dM];exact ih.pushA (by omega) asa (hb k<|by omega)
theorem MS.extB(asb:AscR r b 0 b.size)(m:MS r a b out ia ib)(k:Nat)(h:ib+k<=b.size)(hb:∀i,i<k->∀j,ia<=j->j<a.size->rkA r b (ib+i)<rkA r a j):MS r a b (out++(b.extract ib<|ib+k).toList) ia (ib+k):=(m.swap.extA asb k h hb).swap
theorem MS.done(m:MS r a b out a.size b.size):MD r a b out:=by refine⟨?_,m.asc⟩;have:=m.perm;rw[dZ<|by simp,dZ<|by simp] at this;exact this
theorem MS.finA(m:MS r a b out ia b.size)(asa:AscR r a 0 a.size):MD r a b (out++(a.extract ia a.size).toList):=by
 have h:=m.ha;have:=m.extA asa (a.size-ia) (by omega) λi hi j h1 h2=>by omega
 rw[show ia+(a.size-ia)=a.size by omega] at this;exact this.done
theorem MS.finL(m:MS r a b out ia ib)(asa:AscR r a 0 a.size)(asb:AscR r b 0 b.size)(h1:ia+1=a.size)(hab:∀j,j<b.size->rkA r b j<rkA r a (a.size-1)):MD r a b (out++(b.extract ib b.size).toList++(a.extract ia a.size).toList):=by
 have h:=m.hb
 have:=m.extB asb (b.size-ib) (by omega) λi hi j h1 h2=>by
  have e:j=a.size-1:=by omega
  rw[e];exact hab _<|by omega
 rw[show ib+(b.size-ib)=b.size by omega] at this;exact this.finA asa
theorem aLi(i:Nat)(h:a.size<=i):(a.extract i a.size).toList=[]:=by
 rw[dN,cW];have:a.size-i=0:=by omega
 rw[this];rfl
noncomputable def aQe(st:BJ)(g:Nat):BJ:=SortSt.mk' (kindOf st) (AJ st) (AD st) g<|failedOf st
noncomputable def iZ:Nat->StateT BJ Sem Unit:=sortPriv%PySem.Builtin.setMinGallop
theorem iO(g:Nat):iZ g=modify λs=>aQe s g:=rfl
noncomputable def vF:Array AG->Array AG->StateT BJ Sem (Array AG):=sortPriv%PySem.Builtin.mergeLo
structure SameG(st st':BJ):Prop where
 kind:kindOf st'=kindOf st
 arr:AJ st'=AJ st
 pend:AD st'=AD st
 failed:failedOf st'=failedOf st
theorem SameG.refl(st:BJ):SameG st st:=⟨rfl,rfl,rfl,rfl⟩
theorem SameG.set(h:SameG st st')(g:Nat):SameG st (aQe st' g):=⟨h.kind,h.arr,h.pend,h.failed⟩
structure MPre(r:AG->Nat)(a₀ a b:Array AG):Prop where
 a1:1<=a.size
 b1:1<=b.size
 asa:AscR r a 0 a.size
 asb:AscR r b 0 b.size
 ma:∀x∈a.toList,x∈a₀.toList
 mb:∀x∈b.toList,x∈a₀.toList
 ne:∀i j,i<a.size->j<b.size->rkA r a i≠rkA r b j
 first:rkA r b 0<rkA r a 0
 last:rkA r b (b.size-1)<rkA r a (a.size-1)
theorem AscR.le0{xs:Array AG}{i j:Nat}(a:AscR r xs 0 n)(hij:i<=j)(hj:j<n):rkA r xs i<=rkA r xs j:=by
 by_cases e:i=j
 ·rw[e];exact aN _
 ·exact dE (a _ _ (by omega) (by omega)<|by omega)
noncomputable abbrev SM:=StateT BJ Sem
noncomputable abbrev ML1:=Option (Array AG)×Array AG×Nat×Nat×Nat×Nat
noncomputable abbrev ML2:=Option (Array AG)×Array AG×Nat×Nat×Nat×Nat×Nat
noncomputable abbrev ML0:=Option (Array AG)×Array AG×Nat×Nat×Nat
noncomputable def dnA(a b out:Array AG)(ia ib:Nat):Array AG:=out++a.extract ia a.size++b.extract ib b.size
noncomputable def lsA(a b out:Array AG)(ia ib:Nat):Array AG:=out++b.extract ib b.size++a.extract ia a.size
noncomputable def lo1(a b:Array AG)(mg:Nat)(c:ML1):SM (ForInStep ML1):=do
 let y <-elem' b c.2.2.2.1
 let x <-elem' a c.2.2.1
 let q <-lt' y x
 match q with
 |some bw=>
  if bw=true then do
   let y <-elem' b c.2.2.2.1
   if(c.2.2.2.1+1==b.size)=true then pure (.done (some (dnA a b (c.2.1.push y) c.2.2.1<|c.2.2.2.1+1),c.2.1.push y,c.2.2.1,c.2.2.2.1+1,0,c.2.2.2.2.2+1))
   else if c.2.2.2.2.2+1>=mg then pure (.done (none,c.2.1.push y,c.2.2.1,c.2.2.2.1+1,0,c.2.2.2.2.2+1))
   else pure (.yield (none,c.2.1.push y,c.2.2.1,c.2.2.2.1+1,0,c.2.2.2.2.2+1))
  else do
   let x <-elem' a c.2.2.1
   if(c.2.2.1+1+1==a.size)=true then pure (.done (some<|lsA a b (c.2.1.push x) (c.2.2.1+1) c.2.2.2.1,c.2.1.push x,c.2.2.1+1,c.2.2.2.1,c.2.2.2.2.1+1,0))
   else if c.2.2.2.2.1+1>=mg then pure (.done (none,c.2.1.push x,c.2.2.1+1,c.2.2.2.1,c.2.2.2.2.1+1,0))
   else pure (.yield (none,c.2.1.push x,c.2.2.1+1,c.2.2.2.1,c.2.2.2.2.1+1,0))
 |_=>pure<|.done (some<|dnA a b c.2.1 c.2.2.1 c.2.2.2.1,c.2.1,c.2.2.1,c.2.2.2.1,c.2.2.2.2.1,c.2.2.2.2.2)
noncomputable def aOo(a b out:Array AG)(ia ib mg k k1:Nat):SM (ForInStep ML2):=do
 let x <-elem' a ia
 if(ia+1+1==a.size)=true then pure (.done (some<|lsA a b (out.push x) (ia+1) ib,out.push x,ia+1,ib,mg,k,k1))
 else if(decide (k<7)&&decide (k1<7))=true then pure (.done (none,out.push x,ia+1,ib,mg,k,k1))
 else pure (.yield (none,out.push x,ia+1,ib,mg,k,k1))
noncomputable def aOl(a b out:Array AG)(ia ib mg k bc:Nat):SM (ForInStep ML2):=do
 let y <-elem' b ib
 if(ib+1==b.size)=true then pure (.done (some (dnA a b (out.push y) ia<|ib+1),out.push y,ia,ib+1,mg,k,bc))
 else do
  let x <-elem' a ia
  let q <-lV true x b (ib+1) (b.size-(ib+1)) 0
  match q with
  |some k1=>
   if k1>0 then
    if(ib+1+k1==b.size)=true then pure (.done (some (dnA a b (out.push y++b.extract (ib+1) (ib+1+k1)) ia<|ib+1+k1),out.push y++b.extract (ib+1) (ib+1+k1),ia,ib+1+k1,mg,k,k1))
    else aOo a b (out.push y++b.extract (ib+1) (ib+1+k1)) ia (ib+1+k1) mg k k1
   else aOo a b (out.push y) ia (ib+1) mg k k1
  |_=>pure<|.done (some (dnA a b (out.push y) ia<|ib+1),out.push y,ia,ib+1,mg,k,bc)
noncomputable def aLP(a b out:Array AG)(ia ib mg ac bc:Nat):SM (ForInStep ML2):=do
 iZ mg
 let y <-elem' b ib
 let q <-lV false y a ia (a.size-ia) 0
 match q with
 |some k=>
  if k>0 then
   if(ia+k+1==a.size)=true then pure (.done (some<|lsA a b (out++a.extract ia (ia+k)) (ia+k) ib,out++a.extract ia (ia+k),ia+k,ib,mg,k,bc))
   else if(ia+k==a.size)=true then pure (.done (some<|dnA a b (out++a.extract ia (ia+k)) (ia+k) ib,out++a.extract ia (ia+k),ia+k,ib,mg,k,bc))
   else aOl a b (out++a.extract ia (ia+k)) (ia+k) ib mg k bc
  else aOl a b out ia ib mg k bc
 |_=>pure<|.done (some<|dnA a b out ia ib,out,ia,ib,mg,ac,bc)
noncomputable def lo2(a b:Array AG)(c:ML2):SM (ForInStep ML2):=
 if c.2.2.2.2.1>1 then aLP a b c.2.1 c.2.2.1 c.2.2.2.1 (c.2.2.2.2.1-1) c.2.2.2.2.2.1 c.2.2.2.2.2.2
 else aLP a b c.2.1 c.2.2.1 c.2.2.2.1 c.2.2.2.2.1 c.2.2.2.2.2.1 c.2.2.2.2.2.2
noncomputable def lo0(a b:Array AG)(c:ML0):SM (ForInStep ML0):=do
 let d <-forIn [:a.size+b.size] ((none,c.2.1,c.2.2.1,c.2.2.2.1,0,0):ML1) λ_ d=>lo1 a b c.2.2.2.2 d
 match d.1 with
 |some r=>pure<|.done (some r,d.2.1,d.2.2.1,d.2.2.2.1,c.2.2.2.2)
 |none=>do
  liftM (rule "list.sort.gallop")
  let e <-forIn [:a.size+b.size] ((none,d.2.1,d.2.2.1,d.2.2.2.1,c.2.2.2.2+1,d.2.2.2.2.1,d.2.2.2.2.2):ML2) λ_ e=>lo2 a b e
  match e.1 with
  |some r=>pure<|.done (some r,e.2.1,e.2.2.1,e.2.2.2.1,e.2.2.2.2.1)
  |none=>do
   iZ (e.2.2.2.2.1+1)
   pure (.yield (none,e.2.1,e.2.2.1,e.2.2.2.1,e.2.2.2.2.1+1))
noncomputable def loM(a b:Array AG):SM (Array AG):=do
 liftM (rule "list.sort.merge-lo")
 let y <-elem' b 0
 if(1==b.size)=true then pure (dnA a b #[y] 0 1)
 else if(0+1==a.size)=true then pure (lsA a b #[y] 0 1)
 else do
  let g <-get
  let c <-forIn [:a.size+b.size] ((none, #[y],0,1,gallopOf g):ML0) λ_ c=>lo0 a b c
  match c.1 with
  |some r=>pure r
  |none=>liftM (unsupported "internal:list.sort.merge-bound":Sem (Array AG))
theorem aNb(a b:Array AG):vF a b=loM a b:=by kernel_rfl
def FIN(r:AG->Nat)(a b:Array AG)(o:Option (Array AG)):Prop:=∃res,o=some res/\MD r a b res.toList
def OKm(r:AG->Nat)(a b:Array AG)(N:Nat)(o:Option (Array AG))(out:Array AG)(ia ib:Nat):Prop:=o=none/\MS r a b out.toList ia ib/\ia+1<a.size/\ib<b.size/\N<=ia+ib
theorem OKm.mono{N N':Nat}{o:Option (Array AG)}{out:Array AG}(h:OKm r a b N o out ia ib)(le:N'<=N):OKm r a b N' o out ia ib:=⟨h.1,h.2.1,h.2.2.1,h.2.2.2.1,cF le h.2.2.2.2⟩
section
variable {prog:AE}{w:AM}{A:BF}{E:BC->BD->Prop}{s:BD}{κ:As}{r:AG->Nat}{a₀ a b out:Array AG}{st st0:BJ}{ia ib:Nat}
theorem MPre.last'(M:MPre r a₀ a b):∀j,j<b.size->rkA r b j<rkA r a (a.size-1):=λj hj=>cM (M.asb.le0 (by omega)<|by omega) M.last
theorem aBh(M:MPre r a₀ a b)(m:MS r a b out.toList ia ib)(h:ib=b.size):FIN r a b (some<|dnA a b out ia ib):=by subst h;refine⟨_,rfl, ?_⟩;have:=m.finA M.asa;unfold dnA;rw[dF,dF,aLi _<|aN _,bN];exact this
theorem aBd(M:MPre r a₀ a b)(m:MS r a b out.toList ia ib)(h:ia+1=a.size):FIN r a b (some<|lsA a b out ia ib):=by refine⟨_,rfl, ?_⟩;have:=m.finL M.asa M.asb h M.last';unfold lsA;rw[dF,dF];exact this
theorem MS.pushA'(M:MPre r a₀ a b)(m:MS r a b out.toList ia ib)(h:ia<a.size)(hb:∀j,ib<=j->j<b.size->rkA r a ia<rkA r b j):MS r a b (out.push a[ia]).toList (ia+1) ib:=by rw[jY];exact m.pushA h M.asa hb
theorem MS.pushB'(M:MPre r a₀ a b)(m:MS r a b out.toList ia ib)(h:ib<b.size)(hb:∀j,ia<=j->j<a.size->rkA r b ib<rkA r a j):MS r a b (out.push b[ib]).toList ia (ib+1):=by rw[jY];exact m.pushB h M.asb hb
theorem MS.extA'(M:MPre r a₀ a b)(m:MS r a b out.toList ia ib){k:Nat}(h:ia+k<=a.size)(hb:∀i,i<k->∀j,ib<=j->j<b.size->rkA r a (ia+i)<rkA r b j):MS r a b (out++a.extract ia (ia+k)).toList (ia+k) ib:=by rw[dF];exact m.extA M.asa k h hb
theorem MS.extB'(M:MPre r a₀ a b)(m:MS r a b out.toList ia ib){k:Nat}(h:ib+k<=b.size)(hb:∀i,i<k->∀j,ia<=j->j<a.size->rkA r b (ib+i)<rkA r a j):MS r a b (out++b.extract ib (ib+k)).toList ia (ib+k):=by rw[dF];exact m.extB M.asb k h hb
def P2(r:AG->Nat)(a b:Array AG)(st0:BJ)(N:Nat):ForInStep ML2->BJ->Prop:=λq st'=>SameG st0 st'/\match q with
 |.done c=>FIN r a b c.1\/OKm r a b N c.1 c.2.1 c.2.2.1 c.2.2.2.1
 |.yield c=>OKm r a b N c.1 c.2.1 c.2.2.1 c.2.2.2.1
theorem aEF{N mg k k1:Nat}(M:MPre r a₀ a b)(S:SameG st0 st)(m:MS r a b out.toList ia ib)(h1:ia+1<a.size)(h2:ib<b.size)(hN:N<=ia+1+ib)(hb:∀j,ib<=j->j<b.size->rkA r a ia<rkA r b j):wpS (AH prog w) A E s (aOo a b out ia ib mg k k1) (P2 r a b st0 N) st:=by
 unfold aOo;refine AF<|dS (by omega) ?_;have m2:=m.pushA' M (by omega) hb
 by_cases e:ia+1+1=a.size
 ·rw[if_pos<|by simpa using e];exact AI ⟨S,.inl<|aBd M m2 e⟩
 ·rw[if_neg<|by simpa using e]
  split
  ·exact AI ⟨S,.inr ⟨rfl,m2,by show ia+1+1<_;omega,h2,hN⟩⟩
  ·exact AI ⟨S,rfl,m2,by show ia+1+1<_;omega,h2,hN⟩
theorem aEA{N mg k bc:Nat}(K:lC prog w A E s κ r a₀)(hk:kindOf st0=κ)(M:MPre r a₀ a b)(S:SameG st0 st)(m:MS r a b out.toList ia ib)(h1:ia+1<a.size)(h2:ib<b.size)(hN:N<=ia+1+ib)(hb:∀j,ia<=j->j<a.size->rkA r b ib<rkA r a j):wpS (AH prog w) A E s (aOl a b out ia ib mg k bc) (P2 r a b st0 N) st:=by
 unfold aOl;refine AF<|dS (by omega) ?_;have m2:=m.pushB' M h2 hb
 by_cases e:ib+1=b.size
 ·rw[if_pos<|by simpa using e];exact AI ⟨S,.inl<|aBh M m2 e⟩
 ·rw[if_neg<|by simpa using e];have h1':ia<a.size:=by omega
  refine AF<|dS h1' (AF<|pQ K (S.kind.trans hk) M.mb (M.ma _<|by simp) (by omega) (by omega) (λi j h1 h2 h3=>M.asb i j (by omega) h2<|by omega) (λi hi e=>M.ne ia (ib+1+i) h1' (by omega)<|by rw[e,dP h1']) λk1 c1 c2 c3=> ?_);dsimp only;rw[<-dP (r:=r) h1'] at c2 c3;have m3:=m2.extB' M (k:=k1) (by omega) λi hi j j1 j2=>aY (c2 i hi)<|M.asa.le0 j1 j2
  have c3':∀j,ib+1+k1<=j->j<b.size->rkA r a ia<rkA r b j:=λj j1 j2=>by
   have:=c3 (j-(ib+1)) (by omega)<|by omega
   rwa[show ib+1+(j-(ib+1))=j by omega] at this
  by_cases z:k1>0
  ·rw[if_pos z]
   by_cases y:ib+1+k1=b.size
   ·rw[if_pos<|by simpa using y];exact AI ⟨S,.inl<|aBh M m3 y⟩
   ·rw[if_neg<|by simpa using y];exact aEF M S m3 h1 (by omega) (by omega) c3'
  ·rw[if_neg z];have z0:k1=0:=by omega
   subst z0;exact aEF M S m2 h1 (by omega) (by omega) c3'
theorem aKJ{N mg ac bc:Nat}(K:lC prog w A E s κ r a₀)(hk:kindOf st0=κ)(M:MPre r a₀ a b)(S:SameG st0 st)(m:MS r a b out.toList ia ib)(h1:ia+1<a.size)(h2:ib<b.size)(hN:N<=ia+1+ib):wpS (AH prog w) A E s (aLP a b out ia ib mg ac bc) (P2 r a b st0 N) st:=by
 unfold aLP;rw[iO];refine AF<|Au ?_;have S:=S.set mg;refine AF<|dS h2 (AF<|pQ K (S.kind.trans hk) M.ma (M.mb _<|by simp) (by omega) (by omega) (λi j h1 h2 h3=>M.asa i j (by omega) h2<|by omega) (λi hi e=>M.ne (ia+i) ib (by omega) h2<|by rw[e,dP h2]) λk c1 c2 c3=> ?_);dsimp only;rw[<-dP (r:=r) h2] at c2 c3;have m3:=m.extA' M (k:=k) (by omega) λi hi j j1 j2=>aY (c2 i hi)<|M.asb.le0 j1 j2
 have c3':∀j,ia+k<=j->j<a.size->rkA r b ib<rkA r a j:=λj j1 j2=>by
  have:=c3 (j-ia) (by omega)<|by omega
  rwa[show ia+(j-ia)=j by omega] at this
 have kl:ia+k<a.size:=by
  by_cases q:ia+k<a.size
  ·exact q
  ·have:=c2 (a.size-1-ia) (by omega);rw[show ia+(a.size-1-ia)=a.size-1 by omega] at this;have:=M.last' ib h2;omega
 by_cases z:k>0
 ·rw[if_pos z]
  by_cases y:ia+k+1=a.size
  ·rw[if_pos<|by simpa using y];exact AI ⟨S,.inl<|aBd M m3 y⟩
  ·rw[if_neg (by simpa using y),if_neg<|by simp;omega];exact aEA K hk M S m3 (by omega) h2 (by omega) c3'
 ·rw[if_neg z];have z0:k=0:=by omega
  subst z0;exact aEA K hk M S m (by omega) h2 (by omega) c3'
def P1(r:AG->Nat)(a b:Array AG)(st:BJ)(N:Nat):ForInStep ML1->BJ->Prop:=λq st'=>st'=st/\match q with
 |.done c=>FIN r a b c.1\/OKm r a b N c.1 c.2.1 c.2.2.1 c.2.2.2.1
 |.yield c=>OKm r a b N c.1 c.2.1 c.2.2.1 c.2.2.2.1
theorem aNr{N mg:Nat}{c:ML1}(K:lC prog w A E s κ r a₀)(hk:kindOf st=κ)(M:MPre r a₀ a b)(h:OKm r a b N c.1 c.2.1 c.2.2.1 c.2.2.2.1):wpS (AH prog w) A E s (lo1 a b mg c) (P1 r a b st<|N+1) st:=by
 obtain⟨o,out,ia,ib,ac,bc⟩:=c;obtain⟨h0,m,h1,h2,hN⟩:=h;dsimp only at h0 m h1 h2 hN;unfold lo1;dsimp only;have h1':ia<a.size:=by omega
 refine AF<|dS h2 (AF<|dS h1' (AF<|K.ask (M.mb _<|by simp) (M.ma _<|by simp) hk ?_));dsimp only
 by_cases q:r b[ib]<r a[ia]
 ·rw[if_pos<|by simpa using q];refine AF<|dS h2 ?_;have q':rkA r b ib<rkA r a ia:=by rw[dP h2,dP h1'];exact q
  have m2:=m.pushB' M h2 λj j1 j2=>aY q'<|M.asa.le0 j1 j2
  by_cases e:ib+1=b.size
  ·rw[if_pos<|by simpa using e];exact AI ⟨rfl,.inl<|aBh M m2 e⟩
  ·rw[if_neg<|by simpa using e]
   split
   ·exact AI ⟨rfl,.inr ⟨rfl,m2,h1,by show ib+1<_;omega,by show _<=ia+(ib+1);omega⟩⟩
   ·exact AI ⟨rfl,rfl,m2,h1,by show ib+1<_;omega,by show _<=ia+(ib+1);omega⟩
 ·rw[if_neg<|by simpa using q];refine AF (dS h1' ?_)
  have q':rkA r a ia<rkA r b ib:=by have:=M.ne ia ib h1' h2;rw[dP h1',dP h2] at this ⊢;omega
  have m2:=m.pushA' M h1' λj j1 j2=>aY q'<|M.asb.le0 j1 j2
  by_cases e:ia+1+1=a.size
  ·rw[if_pos<|by simpa using e];exact AI ⟨rfl,.inl<|aBd M m2 e⟩
  ·rw[if_neg<|by simpa using e]
   split
   ·exact AI ⟨rfl,.inr ⟨rfl,m2,by show ia+1+1<_;omega,h2,by show _<=ia+1+ib;omega⟩⟩
   ·exact AI ⟨rfl,rfl,m2,by show ia+1+1<_;omega,h2,by show _<=ia+1+ib;omega⟩
def P0(r:AG->Nat)(a b:Array AG)(st0:BJ)(N:Nat):ForInStep ML0->BJ->Prop:=λq st'=>SameG st0 st'/\match q with
 |.done c=>FIN r a b c.1
 |.yield c=>OKm r a b N c.1 c.2.1 c.2.2.1 c.2.2.2.1
theorem aMW{N:Nat}{c:ML0}(K:lC prog w A E s κ r a₀)(hk:kindOf st0=κ)(M:MPre r a₀ a b)(S:SameG st0 st)(h:OKm r a b N c.1 c.2.1 c.2.2.1 c.2.2.2.1):wpS (AH prog w) A E s (lo0 a b c) (P0 r a b st0<|N+1) st:=by
 obtain⟨o,out,ia,ib,mg⟩:=c;obtain⟨h0,m,h1,h2,hN⟩:=h;dsimp only at h0 m h1 h2 hN;unfold lo0;dsimp only;refine AF<|Ac (AT (I:=λx d st'=>st'=st/\OKm r a b (N+x) d.1 d.2.1 d.2.2.1 d.2.2.2.1) (Q:=λd st'=>st'=st/\(FIN r a b d.1\/OKm r a b (N+1) d.1 d.2.1 d.2.2.1 d.2.2.2.1)) ?step ?fin ⟨rfl,rfl,m,h1,h2,hN⟩) ?post
 case step=>
  rintro x d st' _ hx ⟨rfl,hd⟩;refine Ac (aNr K (S.kind.trans hk) M hd) λq st'' hq=> ?_
  obtain⟨rfl,hq⟩:=hq;cases q with
  |done d=>exact⟨rfl,hq.imp id λz=>z.mono<|by omega⟩
  |yield d=>exact⟨rfl,hq⟩
 case fin=>rintro d st' ⟨rfl,_,_,h3,h4,h5⟩;omega
 case post=>
  rintro d st' ⟨rfl,hd⟩;obtain⟨o1,out,ia,ib,ac,bc⟩:=d
  rcases hd with⟨res,e,hres⟩|⟨e,m,h1,h2,hN⟩
  ·dsimp only at e;subst e;exact AI ⟨S,res,rfl,hres⟩
  ·dsimp only at e m h1 h2 hN;subst e;dsimp only;refine AF (wpS_lift<|Az ⟨rfl, ?_⟩);refine AF (Ac (AT (I:=λx d st'=>SameG st0 st'/\OKm r a b (N+1+x) d.1 d.2.1 d.2.2.1 d.2.2.2.1) (Q:=λd st'=>SameG st0 st'/\(FIN r a b d.1\/OKm r a b (N+1) d.1 d.2.1 d.2.2.1 d.2.2.2.1)) ?step2 ?fin2 ⟨S,rfl,m,h1,h2,hN⟩) ?post2)
   case step2=>
    rintro x ⟨o2,out,ia,ib,mg,ac,bc⟩ st' _ hx ⟨S,_,m,h1,h2,hN⟩;dsimp only at m h1 h2 hN;have key:∀mg,wpS (AH prog w) A E s (aLP a b out ia ib mg ac bc) (P2 r a b st0<|N+1+(x+1)) st':=λmg=>aKJ K hk M S m h1 h2<|by omega
    unfold lo2;dsimp only
    split<;>
    ·refine Ac (key _) λq st'' hq=> ?_
     obtain⟨S',hq⟩:=hq;cases q with
     |done d=>exact⟨S',hq.imp id λz=>z.mono<|by omega⟩
     |yield d=>exact⟨S',hq⟩
   case fin2=>rintro d st' ⟨_,_,_,h3,h4,h5⟩;omega
   case post2=>
    rintro⟨o2,out,ia,ib,mg,ac,bc⟩ st' ⟨S,hd⟩
    rcases hd with⟨res,e,hres⟩|⟨e,m,h1,h2,hN⟩
    ·dsimp only at e;subst e;exact AI ⟨S,res,rfl,hres⟩
    ·dsimp only at e m h1 h2 hN;subst e;dsimp only;rw[iO];exact AF (Au<|AI ⟨S.set _,rfl,m,h1,h2,hN⟩)
theorem aAS{Q:Array AG->BJ->Prop}(K:lC prog w A E s κ r a₀)(hk:kindOf st=κ)(M:MPre r a₀ a b)
  (h:∀out st',MD r a b out.toList->SameG st st'->Q out st'):wpS (AH prog w) A E s (vF a b) Q st:=by
 rw[aNb];unfold loM;refine AF (wpS_lift<|Az ⟨rfl, ?_⟩);have b1:=M.b1;have a1:=M.a1;refine AF<|dS (by omega) ?_;have m0:MS r a b (#[]:Array AG).toList 0 0:=⟨by omega,by omega,by simp,by simp,λx hx=>by simp at hx,λx hx=>by simp at hx⟩;have m:MS r a b (#[b[0]]:Array AG).toList 0 1:=m0.pushB' M (by omega) λj j1 j2=>aY M.first<|M.asa.le0 j1 j2
 by_cases e:1=b.size
 ·rw[if_pos<|by simpa using e];obtain⟨res,e2,hr⟩:=aBh M m e;cases e2;exact AI (h _ _ hr<|.refl _)
 ·rw[if_neg<|by simpa using e]
  by_cases e1:0+1=a.size
  ·rw[if_pos<|by simpa using e1];obtain⟨res,e2,hr⟩:=aBd M m e1;cases e2;exact AI (h _ _ hr<|.refl _)
  ·rw[if_neg<|by simpa using e1];refine AF (wpS_get (AF<|Ac (AT (I:=λx d st'=>SameG st st'/\OKm r a b (x+1) d.1 d.2.1 d.2.2.1 d.2.2.2.1) (Q:=λd st'=>SameG st st'/\FIN r a b d.1) ?step ?fin ⟨.refl _,rfl,m,by show 0+1<_;omega,by show 1<_;omega,aN _⟩) ?post))
   case step=>
    rintro x d st' _ hx ⟨S,hd⟩;refine Ac (aMW K hk M S hd) λq st'' hq=> ?_
    obtain⟨S',hq⟩:=hq;cases q with
    |done d=>exact⟨S',hq⟩
    |yield d=>exact⟨S',hq⟩
   case fin=>rintro d st' ⟨_,_,_,h3,h4,h5⟩;omega
   case post=>rintro d st' ⟨S,res,e,hr⟩;rw[e];exact AI<|h _ _ hr S
end
structure HS(r:AG->Nat)(a b:Array AG)(out:List AG)(na nb:Nat):Prop where
 ha:na<=a.size
 hb:nb<=b.size
 perm:out.Perm (a.toList.drop na++b.toList.drop nb)
 dsc:(out.map r).Pairwise (λx y=>y<x)
 la:∀x∈out,∀i,i<na->rkA r a i<r x
 lb:∀x∈out,∀i,i<nb->rkA r b i<r x
variable {na nb:Nat}
theorem HS.swap(m:HS r a b out na nb):HS r b a out nb na:=⟨m.hb,m.ha,m.perm.trans iI,m.dsc,m.lb,m.la⟩
theorem HS.pushA(m:HS r a b out (na+1) nb)(asa:AscR r a 0 a.size)(hb:∀j,j<nb->rkA r b j<rkA r a na):HS r a b (out++[a[na]'m.ha]) na nb:=by
 have h:na<a.size:=m.ha;refine⟨dE h,m.hb, ?_, ?_,λx hx i h1=> ?_,λx hx i h1=> ?_⟩
 ·have e:a.toList.drop na=a[na]::a.toList.drop (na+1):=by rw[dH<|by simpa using h];simp
  rw[e,List.cons_append];exact(iI).trans<|List.Perm.cons _ m.perm
 ·rw[aX,qK];refine⟨m.dsc,jW _ _,λx hx y hy=> ?_⟩;obtain⟨z,hz,rfl⟩:=aP.mp hx;have:y=r a[na]:=by simpa using hy
  rw[this,<-dP (r:=r) h];exact m.la z hz na<|gS _
 ·rcases aS.mp hx with hx|hx
  ·exact m.la x hx i<|by omega
  ·rw[aI.mp hx,<-dP (r:=r) h];exact asa i na (cP _) h1 h
 ·rcases aS.mp hx with hx|hx
  ·exact m.lb x hx i h1
  ·rw[aI.mp hx,<-dP (r:=r) h];exact hb i h1
theorem aHb(h:k+1<=na)(h2:na<=a.size):(a.extract (na-(k+1)) na).toList.reverse=(a.extract (na-k) na).toList.reverse++[a[na-(k+1)]'(by omega)]:=by
 simp only[dN,cW]
 have e:a.toList.drop (na-(k+1))=a[na-(k+1)]'(by omega)::a.toList.drop (na-k):=by rw[dH<|by simp;omega];rw[show na-(k+1)+1=na-k by omega];simp
 rw[e,show na-(na-(k+1))=(na-(na-k))+1 by omega,qT,List.reverse_cons]
theorem HS.extA(asa:AscR r a 0 a.size)(m:HS r a b out na nb):∀k,k<=na->(∀i,na-k<=i->i<na->∀j,j<nb->rkA r b j<rkA r a i)->HS r a b (out++(a.extract (na-k) na).toList.reverse) (na-k) nb
 |0,_,_=>by
  have e:(a.extract (na-0) na).toList.reverse=[]:=by simp[dN,cW]
  rw[e,bN];exact m
 |k+1,h,hb=>by
  have ih:=HS.extA asa m k (by omega) λi h1 h2=>hb i (by omega) h2
  rw[aHb h m.ha,<-dM];have e:na-k=na-(k+1)+1:=by omega
  rw[e] at ih;have:=ih.pushA asa (hb (na-(k+1)) (aN _)<|by omega);rw[show a.extract (na-k) na=a.extract (na-(k+1)+1) na by rw[e]];exact this
theorem HS.extB(asb:AscR r b 0 b.size)(m:HS r a b out na nb)(k:Nat)(h:k<=nb)(hb:∀i,nb-k<=i->i<nb->∀j,j<na->rkA r a j<rkA r b i):HS r a b (out++(b.extract (nb-k) nb).toList.reverse) na (nb-k):=(m.swap.extA asb k h hb).swap
theorem HS.done(m:HS r a b out 0 0):MD r a b out.reverse:=by
 refine⟨(List.reverse_perm _).trans ?_, ?_⟩
 ·have:=m.perm;simpa using this
 ·rw[List.map_reverse,List.pairwise_reverse];exact m.dsc
theorem HS.finB(m:HS r a b out 0 nb)(asb:AscR r b 0 b.size):MD r a b ((b.extract 0 nb).toList++out.reverse):=by
 have:=m.extB asb nb (aN _) λi h1 h2 j hj=>by omega
 rw[uF] at this;have:=this.done
 rwa[aGd,aFW] at this
theorem HS.finL(m:HS r a b out na 1)(asa:AscR r a 0 a.size)(asb:AscR r b 0 b.size)(first:∀i,i<a.size->rkA r b 0<rkA r a i):MD r a b ((b.extract 0 1).toList++(a.extract 0 na).toList++out.reverse):=by
 have ha:=m.ha
 have:=m.extA asa na (aN _) λi h1 h2 j hj=>by
  have:j=0:=by omega
  subst this;exact first i<|by omega
 rw[uF] at this;have:=this.finB asb
 rwa[aGd,aFW,<-dM] at this
noncomputable def vD:Array AG->Array AG->StateT BJ Sem (Array AG):=sortPriv%PySem.Builtin.mergeHi
noncomputable abbrev MH1:=Option (Array AG)×Nat×Nat×Array AG×Nat×Nat
noncomputable abbrev MH2:=Option (Array AG)×Nat×Nat×Array AG×Nat×Nat×Nat
noncomputable abbrev MH0:=Option (Array AG)×Nat×Nat×Array AG×Nat
noncomputable def dnH(a b out:Array AG)(na nb:Nat):Array AG:=a.extract 0 na++b.extract 0 nb++out.reverse
noncomputable def fsB(a b out:Array AG)(na nb:Nat):Array AG:=b.extract 0 nb++a.extract 0 na++out.reverse
noncomputable def hi1(a b:Array AG)(mg:Nat)(c:MH1):SM (ForInStep MH1):=do
 let y <-elem' b (c.2.2.1-1)
 let x <-elem' a (c.2.1-1)
 let q <-lt' y x
 match q with
 |some aw=>
  if aw=true then do
   let x <-elem' a (c.2.1-1)
   if(c.2.1-1==0)=true then pure (.done (some<|dnH a b (c.2.2.2.1.push x) (c.2.1-1) c.2.2.1,c.2.1-1,c.2.2.1,c.2.2.2.1.push x,c.2.2.2.2.1+1,0))
   else if c.2.2.2.2.1+1>=mg then pure (.done (none,c.2.1-1,c.2.2.1,c.2.2.2.1.push x,c.2.2.2.2.1+1,0))
   else pure (.yield (none,c.2.1-1,c.2.2.1,c.2.2.2.1.push x,c.2.2.2.2.1+1,0))
  else do
   let y <-elem' b (c.2.2.1-1)
   if(c.2.2.1-1==1)=true then pure (.done (some (fsB a b (c.2.2.2.1.push y) c.2.1<|c.2.2.1-1),c.2.1,c.2.2.1-1,c.2.2.2.1.push y,0,c.2.2.2.2.2+1))
   else if c.2.2.2.2.2+1>=mg then pure (.done (none,c.2.1,c.2.2.1-1,c.2.2.2.1.push y,0,c.2.2.2.2.2+1))
   else pure (.yield (none,c.2.1,c.2.2.1-1,c.2.2.2.1.push y,0,c.2.2.2.2.2+1))
 |_=>pure<|.done (some<|dnH a b c.2.2.2.1 c.2.1 c.2.2.1,c.2.1,c.2.2.1,c.2.2.2.1,c.2.2.2.2.1,c.2.2.2.2.2)
noncomputable def aOc(a b out:Array AG)(na nb mg k k1:Nat):SM (ForInStep MH2):=do
 let x <-elem' a (na-1)
 if(na-1==0)=true then pure (.done (some<|dnH a b (out.push x) (na-1) nb,na-1,nb,out.push x,mg,k,k1))
 else if(decide (k<7)&&decide (k1<7))=true then pure (.done (none,na-1,nb,out.push x,mg,k,k1))
 else pure (.yield (none,na-1,nb,out.push x,mg,k,k1))
noncomputable def aOk(a b out:Array AG)(na nb mg k bc:Nat):SM (ForInStep MH2):=do
 let y <-elem' b (nb-1)
 if(nb-1==1)=true then pure (.done (some (fsB a b (out.push y) na<|nb-1),na,nb-1,out.push y,mg,k,bc))
 else do
  let x <-elem' a (na-1)
  let q <-lV true x b 0 (nb-1) (nb-1-1)
  match q with
  |some at_=>
   if nb-1-at_>0 then
    if(at_==1)=true then pure (.done (some<|fsB a b (out.push y++(b.extract at_<|nb-1).reverse) na at_,na,at_,out.push y++(b.extract at_<|nb-1).reverse,mg,k,nb-1-at_))
    else if(at_==0)=true then pure (.done (some<|dnH a b (out.push y++(b.extract at_<|nb-1).reverse) na at_,na,at_,out.push y++(b.extract at_<|nb-1).reverse,mg,k,nb-1-at_))
    else aOc a b (out.push y++(b.extract at_<|nb-1).reverse) na at_ mg k (nb-1-at_)
   else aOc a b (out.push y) na (nb-1) mg k (nb-1-at_)
  |_=>pure<|.done (some (dnH a b (out.push y) na<|nb-1),na,nb-1,out.push y,mg,k,bc)
noncomputable def aLV(a b out:Array AG)(na nb mg ac bc:Nat):SM (ForInStep MH2):=do
 iZ mg
 let y <-elem' b (nb-1)
 let q <-lV false y a 0 na (na-1)
 match q with
 |some at_=>
  if na-at_>0 then
   if(at_==0)=true then pure (.done (some<|dnH a b (out++(a.extract at_ na).reverse) at_ nb,at_,nb,out++(a.extract at_ na).reverse,mg,na-at_,bc))
   else aOk a b (out++(a.extract at_ na).reverse) at_ nb mg (na-at_) bc
  else aOk a b out na nb mg (na-at_) bc
 |_=>pure<|.done (some<|dnH a b out na nb,na,nb,out,mg,ac,bc)
noncomputable def hi2(a b:Array AG)(c:MH2):SM (ForInStep MH2):=
 if c.2.2.2.2.1>1 then aLV a b c.2.2.2.1 c.2.1 c.2.2.1 (c.2.2.2.2.1-1) c.2.2.2.2.2.1 c.2.2.2.2.2.2
 else aLV a b c.2.2.2.1 c.2.1 c.2.2.1 c.2.2.2.2.1 c.2.2.2.2.2.1 c.2.2.2.2.2.2
noncomputable def hi0(a b:Array AG)(c:MH0):SM (ForInStep MH0):=do
 let d <-forIn [:a.size+b.size] ((none,c.2.1,c.2.2.1,c.2.2.2.1,0,0):MH1) λ_ d=>hi1 a b c.2.2.2.2 d
 match d.1 with
 |some r=>pure<|.done (some r,d.2.1,d.2.2.1,d.2.2.2.1,c.2.2.2.2)
 |none=>do
  liftM (rule "list.sort.gallop")
  let e <-forIn [:a.size+b.size] ((none,d.2.1,d.2.2.1,d.2.2.2.1,c.2.2.2.2+1,d.2.2.2.2.1,d.2.2.2.2.2):MH2) λ_ e=>hi2 a b e
  match e.1 with
  |some r=>pure<|.done (some r,e.2.1,e.2.2.1,e.2.2.2.1,e.2.2.2.2.1)
  |none=>do
   iZ (e.2.2.2.2.1+1)
   pure (.yield (none,e.2.1,e.2.2.1,e.2.2.2.1,e.2.2.2.2.1+1))
noncomputable def hiM(a b:Array AG):SM (Array AG):=do
 liftM (rule "list.sort.merge-hi")
 let x <-elem' a (a.size-1)
 if(a.size-1==0)=true then pure (dnH a b #[x] (a.size-1) b.size)
 else if(b.size==1)=true then pure (fsB a b #[x] (a.size-1) b.size)
 else do
  let g <-get
  let c <-forIn [:a.size+b.size] ((none,a.size-1,b.size, #[x],gallopOf g):MH0) λ_ c=>hi0 a b c
  match c.1 with
  |some r=>pure r
  |none=>liftM (unsupported "internal:list.sort.merge-bound":Sem (Array AG))
theorem aMM(a b:Array AG):vD a b=hiM a b:=by kernel_rfl
def OKh(r:AG->Nat)(a b:Array AG)(N:Nat)(o:Option (Array AG))(out:Array AG)(na nb:Nat):Prop:=o=none/\HS r a b out.toList na nb/\1<=na/\2<=nb/\na+nb+N<=a.size+b.size
theorem OKh.mono{N N':Nat}{o:Option (Array AG)}{out:Array AG}(h:OKh r a b N o out na nb)(le:N'<=N):OKh r a b N' o out na nb:=⟨h.1,h.2.1,h.2.2.1,h.2.2.2.1,by have:=h.2.2.2.2;omega⟩
section
variable {prog:AE}{w:AM}{A:BF}{E:BC->BD->Prop}{s:BD}{κ:As}{r:AG->Nat}{a₀ a b out:Array AG}{st st0:BJ}{na nb:Nat}
theorem MPre.first'(M:MPre r a₀ a b):∀i,i<a.size->rkA r b 0<rkA r a i:=λi hi=>aY M.first<|M.asa.le0 (cP _) hi
theorem ex0(xs:Array AG):(xs.extract 0 0).toList=[]:=by simp[dN,cW]
theorem aBn(M:MPre r a₀ a b)(m:HS r a b out.toList na nb)(h:na=0):FIN r a b (some<|dnH a b out na nb):=by subst h;refine⟨_,rfl, ?_⟩;have:=m.finB M.asb;unfold dnH;rw[dF,dF,ex0,pC,kZ];exact this
theorem aBe(M:MPre r a₀ a b)(m:HS r a b out.toList na nb)(h:nb=1):FIN r a b (some<|fsB a b out na nb):=by subst h;refine⟨_,rfl, ?_⟩;have:=m.finL M.asa M.asb M.first';unfold fsB;rw[dF,dF,kZ];exact this
theorem HS.pushA'(M:MPre r a₀ a b)(m:HS r a b out.toList na nb)(h1:1<=na)(hb:∀j,j<nb->rkA r b j<rkA r a (na-1)):HS r a b (out.push<|a[na-1]'(by have:=m.ha;omega)).toList (na-1) nb:=by
 rw[jY];have e:na=na-1+1:=by omega
 have m':HS r a b out.toList (na-1+1) nb:=by rw[<-e];exact m
 exact m'.pushA M.asa hb
theorem HS.pushB'(M:MPre r a₀ a b)(m:HS r a b out.toList na nb)(h1:1<=nb)(hb:∀j,j<na->rkA r a j<rkA r b (nb-1)):HS r a b (out.push<|b[nb-1]'(by have:=m.hb;omega)).toList na (nb-1):=by
 rw[jY];have e:nb=nb-1+1:=by omega
 have m':HS r a b out.toList na (nb-1+1):=by rw[<-e];exact m
 exact(m'.swap.pushA M.asb hb).swap
theorem HS.extA'(M:MPre r a₀ a b)(m:HS r a b out.toList na nb){t:Nat}(h:t<=na)(hb:∀i,t<=i->i<na->∀j,j<nb->rkA r b j<rkA r a i):HS r a b (out++(a.extract t na).reverse).toList t nb:=by rw[dF,kZ];have:=m.extA M.asa (na-t) (by omega) (by rw[show na-(na-t)=t by omega];exact hb);rw[show na-(na-t)=t by omega] at this;exact this
theorem HS.extB'(M:MPre r a₀ a b)(m:HS r a b out.toList na nb){t:Nat}(h:t<=nb)(hb:∀i,t<=i->i<nb->∀j,j<na->rkA r a j<rkA r b i):HS r a b (out++(b.extract t nb).reverse).toList na t:=by rw[dF,kZ];have:=m.extB M.asb (nb-t) (by omega) (by rw[show nb-(nb-t)=t by omega];exact hb);rw[show nb-(nb-t)=t by omega] at this;exact this
def H2(r:AG->Nat)(a b:Array AG)(st0:BJ)(N:Nat):ForInStep MH2->BJ->Prop:=λq st'=>SameG st0 st'/\match q with
 |.done c=>FIN r a b c.1\/OKh r a b N c.1 c.2.2.2.1 c.2.1 c.2.2.1
 |.yield c=>OKh r a b N c.1 c.2.2.2.1 c.2.1 c.2.2.1
theorem aEn{N mg k k1:Nat}(M:MPre r a₀ a b)(S:SameG st0 st)(m:HS r a b out.toList na nb)(h1:1<=na)(h2:2<=nb)(hN:na-1+nb+N<=a.size+b.size)(hb:∀j,j<nb->rkA r b j<rkA r a (na-1)):wpS (AH prog w) A E s (aOc a b out na nb mg k k1) (H2 r a b st0 N) st:=by
 unfold aOc;have ha:=m.ha;refine AF<|dS (by omega) ?_;have m2:=m.pushA' M h1 hb
 by_cases e:na-1=0
 ·rw[if_pos<|by simpa using e];exact AI ⟨S,.inl<|aBn M m2 e⟩
 ·rw[if_neg<|by simpa using e]
  split
  ·exact AI ⟨S,.inr ⟨rfl,m2,by show 1<=na-1;omega,h2,hN⟩⟩
  ·exact AI ⟨S,rfl,m2,by show 1<=na-1;omega,h2,hN⟩
theorem aEJ{N mg k bc:Nat}(K:lC prog w A E s κ r a₀)(hk:kindOf st0=κ)(M:MPre r a₀ a b)(S:SameG st0 st)(m:HS r a b out.toList na nb)(h1:1<=na)(h2:2<=nb)(hN:na-1+nb+N<=a.size+b.size)(hb:∀j,j<na->rkA r a j<rkA r b (nb-1)):wpS (AH prog w) A E s (aOk a b out na nb mg k bc) (H2 r a b st0 N) st:=by
 unfold aOk;have ha:=m.ha;have hbb:=m.hb;refine AF<|dS (by omega) ?_;have m2:=m.pushB' M (by omega) hb
 by_cases e:nb-1=1
 ·rw[if_pos<|by simpa using e];exact AI ⟨S,.inl<|aBe M m2 e⟩
 ·rw[if_neg<|by simpa using e];have h1':na-1<a.size:=by omega
  refine AF<|dS h1' (AF<|pQ K (S.kind.trans hk) M.mb (M.ma _<|by simp) (by omega) (by omega) (λi j h1 h2 h3=>M.asb i j (by omega) h2<|by omega) (λi hi e=>M.ne (na-1) i h1' (by omega)<|by rw[pH] at e;rw[e,dP h1']) λat_ c1 c2 c3=> ?_);dsimp only;simp only[pH] at c2 c3;rw[<-dP (r:=r) h1'] at c2 c3;have m3:=m2.extB' M (t:=at_) c1 λi i1 i2 j hj=>cM (M.asa.le0 (by omega) h1')<|c3 i i1 i2
  have a0:1<=at_:=by
   by_cases q:at_=0
   ·subst q;have:=c3 0 (aN _) (by omega);have:=M.first' (na-1) h1';omega
   ·omega
  by_cases z:nb-1-at_>0
  ·rw[if_pos z]
   by_cases y:at_=1
   ·rw[if_pos<|by simpa using y];exact AI ⟨S,.inl<|aBe M m3 y⟩
   ·rw[if_neg (by simpa using y),if_neg<|by simp;omega];exact aEn M S m3 h1 (by omega) (by omega) c2
  ·rw[if_neg z];have z0:at_=nb-1:=by omega
   subst z0;exact aEn M S m2 h1 (by omega) (by omega) c2
theorem aKL{N mg ac bc:Nat}(K:lC prog w A E s κ r a₀)(hk:kindOf st0=κ)(M:MPre r a₀ a b)(S:SameG st0 st)(m:HS r a b out.toList na nb)(h1:1<=na)(h2:2<=nb)(hN:na-1+nb+N<=a.size+b.size):wpS (AH prog w) A E s (aLV a b out na nb mg ac bc) (H2 r a b st0 N) st:=by
 unfold aLV;have ha:=m.ha;have hbb:=m.hb;rw[iO];refine AF<|Au ?_;have S:=S.set mg;have h2':nb-1<b.size:=by omega
 refine AF<|dS h2' (AF<|pQ K (S.kind.trans hk) M.ma (M.mb _<|by simp) (by omega) (by omega) (λi j h1 h2 h3=>M.asa i j (by omega) h2<|by omega) (λi hi e=>M.ne i (nb-1) (by omega) h2'<|by rw[pH] at e;rw[e,dP h2']) λat_ c1 c2 c3=> ?_);dsimp only;simp only[pH] at c2 c3;rw[<-dP (r:=r) h2'] at c2 c3;have m3:=m.extA' M (t:=at_) c1 λi i1 i2 j hj=>cM (M.asb.le0 (by omega) h2')<|c3 i i1 i2
 by_cases z:na-at_>0
 ·rw[if_pos z]
  by_cases y:at_=0
  ·rw[if_pos<|by simpa using y];exact AI ⟨S,.inl<|aBn M m3 y⟩
  ·rw[if_neg<|by simpa using y];exact aEJ K hk M S m3 (by omega) h2 (by omega) c2
 ·rw[if_neg z];have z0:at_=na:=by omega
  subst z0;exact aEJ K hk M S m h1 h2 hN c2
def H1(r:AG->Nat)(a b:Array AG)(st:BJ)(N:Nat):ForInStep MH1->BJ->Prop:=λq st'=>st'=st/\match q with
 |.done c=>FIN r a b c.1\/OKh r a b N c.1 c.2.2.2.1 c.2.1 c.2.2.1
 |.yield c=>OKh r a b N c.1 c.2.2.2.1 c.2.1 c.2.2.1
theorem aNH{N mg:Nat}{c:MH1}(K:lC prog w A E s κ r a₀)(hk:kindOf st=κ)(M:MPre r a₀ a b)(h:OKh r a b N c.1 c.2.2.2.1 c.2.1 c.2.2.1):wpS (AH prog w) A E s (hi1 a b mg c) (H1 r a b st<|N+1) st:=by
 obtain⟨o,na,nb,out,ac,bc⟩:=c;obtain⟨h0,m,h1,h2,hN⟩:=h;dsimp only at h0 m h1 h2 hN;unfold hi1;dsimp only;have ha:=m.ha;have hbb:=m.hb;have h1':na-1<a.size:=by omega
 have h2':nb-1<b.size:=by omega
 refine AF<|dS h2' (AF<|dS h1' (AF<|K.ask (M.mb _<|by simp) (M.ma _<|by simp) hk ?_));dsimp only
 by_cases q:r b[nb-1]<r a[na-1]
 ·rw[if_pos<|by simpa using q];refine AF<|dS h1' ?_;have q':rkA r b (nb-1)<rkA r a (na-1):=by rw[dP h1',dP h2'];exact q
  have m2:=m.pushA' M h1 λj hj=>cM (M.asb.le0 (by omega) h2') q'
  by_cases e:na-1=0
  ·rw[if_pos<|by simpa using e];exact AI ⟨rfl,.inl<|aBn M m2 e⟩
  ·rw[if_neg<|by simpa using e]
   split
   ·exact AI ⟨rfl,.inr ⟨rfl,m2,by show 1<=na-1;omega,h2,by show na-1+nb+_<=_;omega⟩⟩
   ·exact AI ⟨rfl,rfl,m2,by show 1<=na-1;omega,h2,by show na-1+nb+_<=_;omega⟩
 ·rw[if_neg<|by simpa using q];refine AF (dS h2' ?_)
  have q':rkA r a (na-1)<rkA r b (nb-1):=by have:=M.ne (na-1) (nb-1) h1' h2';rw[dP h1',dP h2'] at this ⊢;omega
  have m2:=m.pushB' M (by omega) λj hj=>cM (M.asa.le0 (by omega) h1') q'
  by_cases e:nb-1=1
  ·rw[if_pos<|by simpa using e];exact AI ⟨rfl,.inl<|aBe M m2 e⟩
  ·rw[if_neg<|by simpa using e]
   split
   ·exact AI ⟨rfl,.inr ⟨rfl,m2,h1,by show 2<=nb-1;omega,by show na+(nb-1)+_<=_;omega⟩⟩
   ·exact AI ⟨rfl,rfl,m2,h1,by show 2<=nb-1;omega,by show na+(nb-1)+_<=_;omega⟩
def H0(r:AG->Nat)(a b:Array AG)(st0:BJ)(N:Nat):ForInStep MH0->BJ->Prop:=λq st'=>SameG st0 st'/\match q with
 |.done c=>FIN r a b c.1
 |.yield c=>OKh r a b N c.1 c.2.2.2.1 c.2.1 c.2.2.1
theorem aNt{N:Nat}{c:MH0}(K:lC prog w A E s κ r a₀)(hk:kindOf st0=κ)(M:MPre r a₀ a b)(S:SameG st0 st)(h:OKh r a b N c.1 c.2.2.2.1 c.2.1 c.2.2.1):wpS (AH prog w) A E s (hi0 a b c) (H0 r a b st0<|N+1) st:=by
 obtain⟨o,na,nb,out,mg⟩:=c;obtain⟨h0,m,h1,h2,hN⟩:=h;dsimp only at h0 m h1 h2 hN;unfold hi0;dsimp only;refine AF<|Ac (AT (I:=λx d st'=>st'=st/\OKh r a b (N+x) d.1 d.2.2.2.1 d.2.1 d.2.2.1) (Q:=λd st'=>st'=st/\(FIN r a b d.1\/OKh r a b (N+1) d.1 d.2.2.2.1 d.2.1 d.2.2.1)) ?step ?fin ⟨rfl,rfl,m,h1,h2,hN⟩) ?post
 case step=>
  rintro x d st' _ hx ⟨rfl,hd⟩;refine Ac (aNH K (S.kind.trans hk) M hd) λq st'' hq=> ?_
  obtain⟨rfl,hq⟩:=hq;cases q with
  |done d=>exact⟨rfl,hq.imp id λz=>z.mono<|by omega⟩
  |yield d=>exact⟨rfl,hq⟩
 case fin=>rintro d st' ⟨rfl,_,_,h3,h4,h5⟩;omega
 case post=>
  rintro d st' ⟨rfl,hd⟩;obtain⟨o1,na,nb,out,ac,bc⟩:=d
  rcases hd with⟨res,e,hres⟩|⟨e,m,h1,h2,hN⟩
  ·dsimp only at e;subst e;exact AI ⟨S,res,rfl,hres⟩
  ·dsimp only at e m h1 h2 hN;subst e;dsimp only;refine AF (wpS_lift<|Az ⟨rfl, ?_⟩);refine AF (Ac (AT (I:=λx d st'=>SameG st0 st'/\OKh r a b (N+1+x) d.1 d.2.2.2.1 d.2.1 d.2.2.1) (Q:=λd st'=>SameG st0 st'/\(FIN r a b d.1\/OKh r a b (N+1) d.1 d.2.2.2.1 d.2.1 d.2.2.1)) ?step2 ?fin2 ⟨S,rfl,m,h1,h2,hN⟩) ?post2)
   case step2=>
    rintro x ⟨o2,na,nb,out,mg,ac,bc⟩ st' _ hx ⟨S,_,m,h1,h2,hN⟩;dsimp only at m h1 h2 hN;have key:∀mg,wpS (AH prog w) A E s (aLV a b out na nb mg ac bc) (H2 r a b st0<|N+1+(x+1)) st':=λmg=>aKL K hk M S m h1 h2<|by omega
    unfold hi2;dsimp only
    split<;>
    ·refine Ac (key _) λq st'' hq=> ?_
     obtain⟨S',hq⟩:=hq;cases q with
     |done d=>exact⟨S',hq.imp id λz=>z.mono<|by omega⟩
     |yield d=>exact⟨S',hq⟩
   case fin2=>rintro d st' ⟨_,_,_,h3,h4,h5⟩;omega
   case post2=>
    rintro⟨o2,na,nb,out,mg,ac,bc⟩ st' ⟨S,hd⟩
    rcases hd with⟨res,e,hres⟩|⟨e,m,h1,h2,hN⟩
    ·dsimp only at e;subst e;exact AI ⟨S,res,rfl,hres⟩
    ·dsimp only at e m h1 h2 hN;subst e;dsimp only;rw[iO];exact AF (Au<|AI ⟨S.set _,rfl,m,h1,h2,hN⟩)
theorem aAT{Q:Array AG->BJ->Prop}(K:lC prog w A E s κ r a₀)(hk:kindOf st=κ)(M:MPre r a₀ a b)
  (h:∀out st',MD r a b out.toList->SameG st st'->Q out st'):wpS (AH prog w) A E s (vD a b) Q st:=by
 rw[aMM];unfold hiM;refine AF (wpS_lift<|Az ⟨rfl, ?_⟩);have b1:=M.b1;have a1:=M.a1;refine AF<|dS (by omega) ?_;have m0:HS r a b (#[]:Array AG).toList a.size b.size:=⟨aN _,aN _,by rw[aDd<|by simp,aDd<|by simp];exact .refl _,by simp,λx hx=>by simp at hx,λx hx=>by simp at hx⟩;have m:HS r a b (#[a[a.size-1]]:Array AG).toList (a.size-1) b.size:=m0.pushA' M a1 λj hj=>M.last' j hj
 by_cases e:a.size-1=0
 ·rw[if_pos<|by simpa using e];obtain⟨res,e2,hr⟩:=aBn M m e;cases e2;exact AI (h _ _ hr<|.refl _)
 ·rw[if_neg<|by simpa using e]
  by_cases e1:b.size=1
  ·rw[if_pos<|by simpa using e1];obtain⟨res,e2,hr⟩:=aBe M m e1;cases e2;exact AI (h _ _ hr<|.refl _)
  ·rw[if_neg<|by simpa using e1];refine AF (wpS_get (AF<|Ac (AT (I:=λx d st'=>SameG st st'/\OKh r a b (x+1) d.1 d.2.2.2.1 d.2.1 d.2.2.1) (Q:=λd st'=>SameG st st'/\FIN r a b d.1) ?step ?fin ⟨.refl _,rfl,m,by show 1<=a.size-1;omega,by show 2<=b.size;omega,by show a.size-1+b.size+(0+1)<=_;omega⟩) ?post))
   case step=>
    rintro x d st' _ hx ⟨S,hd⟩;refine Ac (aNt K hk M S hd) λq st'' hq=> ?_
    obtain⟨S',hq⟩:=hq;cases q with
    |done d=>exact⟨S',hq⟩
    |yield d=>exact⟨S',hq⟩
   case fin=>rintro d st' ⟨_,_,_,h3,h4,h5⟩;omega
   case post=>rintro d st' ⟨S,res,e,hr⟩;rw[e];exact AI<|h _ _ hr S
end
noncomputable abbrev Pnd:=Array<|Nat×Nat×Nat
noncomputable def wbA(sa:Nat)(m:Array AG)(xs:Array AG):Array AG:=m.toList.zipIdx.foldl (λa (q:AG×Nat)=>a.setIfInBounds (sa+q.2) q.1) xs
noncomputable def mgC(x y:Array AG)(na nb sa:Nat):SM Bool:=do
 let merged <-if na<=nb then vF x y else vD x y
 modify λs=>setArr s (wbA sa merged<|AJ s)
 let s <-get
 pure (failedOf s).isNone
noncomputable def mgB(xs:Array AG)(sa na sb nb:Nat):SM Bool:=do
 if(na==0)=true then pure true
 else do
  let x <-elem' xs (sa+na-1)
  let q <-lV true x xs sb nb (nb-1)
  match q with
  |some nb=>if(nb==0)=true then pure true else mgC (xs.extract sa sb) (xs.extract sb<|sb+nb) na nb sa
  |_=>pure false
noncomputable def mgA(i:Nat):SM Bool:=do
 let s <-get
 match(AD s)[i]?,(AD s)[i+1]? with
 |some (sa,na,pw),some (sb,nb,_)=>do
  set (BA s (((AD s).setIfInBounds i (sa,na+nb,pw)).eraseIdxIfInBounds<|i+1))
  let y <-elem' (AJ s) sb
  let q <-lV false y (AJ s) sa na 0
  match q with
  |some k=>mgB (AJ s) (sa+k) (na-k) sb nb
  |_=>pure false
 |_,_=>liftM (unsupported "internal:list.sort.pending":Sem Bool)
theorem aNo(i:Nat):mergeAt' i=mgA i:=by kernel_rfl
noncomputable def aQk(pw:Nat):SM (ForInStep<|Option Unit×Unit):=do
 let s <-get
 match(if(AD s).size>1 then(AD s)[(AD s).size-2]? else none) with
 |some (_,_,older)=>
  if older<=pw then pure (.done (none,()))
  else do
   let b <-mergeAt' ((AD s).size-2)
   if(!b)=true then pure (.done (some (),())) else pure (.yield (none,()))
 |_=>pure<|.done (none,())
noncomputable def aBm(lo n size:Nat):SM (ForInStep<|Option Unit×Nat):=do
 let s <-get
 match(AD s).back? with
 |some (s1,n1,_)=>do
  let c <-forIn [:size] ((none,()):Option Unit×Unit) λ_ _=>aQk<|power' size (2*s1+n1) (2*s1+n1+n1+n) size
  match c.1 with
  |some r=>pure<|.done (some r,lo)
  |none=>do
   modify λs=>BA s<|(AD s).modify ((AD s).size-1) λ(st,len,_)=>(st,len,power' size (2*s1+n1) (2*s1+n1+n1+n) size)
   modify λs=>BA s<|(AD s).push (lo,n,0)
   pure (.yield (none,lo+n))
 |_=>do
  modify λs=>BA s<|(AD s).push (lo,n,0)
  pure (.yield (none,lo+n))
noncomputable def aIL(size minrun:Nat)(c:Option Unit×Nat):SM (ForInStep<|Option Unit×Nat):=
 if c.2>=size then pure (.done (none,c.2))
 else do
  let f <-countRun' c.2 (size-c.2)
  match f with
  |some found=>
   if found<minrun then do
    liftM (rule "list.sort.binary-insertion")
    let b <-binarySort' c.2 (min (size-c.2) minrun) found
    if(!b)=true then pure (.done (some (),c.2)) else aBm c.2 (min (size-c.2) minrun) size
   else aBm c.2 found size
  |_=>pure<|.done (some (),c.2)
noncomputable def aMh:SM (ForInStep<|Option Unit×Unit):=do
 let s <-get
 if(AD s).size<=1 then pure (.done (none,()))
 else do
  let b <-mergeAt' (if((if(AD s).size-2>0 then(AD s)[(AD s).size-2-1]?.map (·.2.1) else none).any (·<((AD s)[(AD s).size-2+1]?.elim 0 (·.2.1))))=true then(AD s).size-2-1 else(AD s).size-2)
  if(!b)=true then pure (.done (some (),())) else pure (.yield (none,()))
noncomputable def srM:SM Unit:=do
 let s <-get
 let c <-forIn [:(AJ s).size] ((none,0):Option Unit×Nat) λ_ c=>aIL (AJ s).size (minRun' (AJ s).size (AJ s).size 0) c
 match c.1 with
 |some r=>pure r
 |none=>do
  let d <-forIn [:(AJ s).size] ((none,()):Option Unit×Unit) λ_ _=>aMh
  match d.1 with
  |some r=>pure r
  |none=>pure ()
theorem aMB:sortRuns'=srM:=by kernel_rfl
variable {xs:Array AG}
theorem aDm{i j t:Nat}(h:i+t<j)(hj:j<=xs.size):rkA r (xs.extract i j) t=rkA r xs (i+t):=by refine gZ ?_;rw[Array.getElem?_extract,if_pos<|by omega]
theorem aIW(sa t:Nat):∀ (l:List AG) (n:Nat) (xs:Array AG),sa+n+l.length<=xs.size->((l.zipIdx n).foldl (λa (q:AG×Nat)=>a.setIfInBounds (sa+q.2) q.1) xs)[t]? =if sa+n<=t/\t<sa+n+l.length then l[t-(sa+n)]? else xs[t]?
 |[],n,xs,_=>by rw[if_neg<|by rw[gH];omega];rfl
 |p::l,n,xs,h=>by
  rw[bF] at h
  have S:(xs.setIfInBounds (sa+n) p)[t]? =if sa+n=t then some p else xs[t]? :=by
   rw[Array.getElem?_setIfInBounds]
   by_cases e:sa+n=t
   ·rw[if_pos e,if_pos e,if_pos<|by omega]
   ·rw[if_neg e,if_neg e]
  rw[List.zipIdx_cons,aLI,aIW sa t l (n+1) _ (by rw[Array.size_setIfInBounds];omega),bF,S]
  by_cases e:sa+n=t
  ·rw[if_neg (show ¬ (sa+(n+1)<=t/\t<sa+(n+1)+l.length) by omega),if_pos e,if_pos (show sa+n<=t/\t<sa+n+(l.length+1) by omega),show t-(sa+n)=0 by omega];rfl
  ·by_cases q:sa+(n+1)<=t/\t<sa+(n+1)+l.length
   ·rw[if_pos q,if_pos (show sa+n<=t/\t<sa+n+(l.length+1) by omega),show t-(sa+n)=t-(sa+(n+1))+1 by omega,List.getElem?_cons_succ]
   ·rw[if_neg q,if_neg e,if_neg (show ¬ (sa+n<=t/\t<sa+n+(l.length+1)) by omega)]
theorem aMc{sa:Nat}{m:Array AG}(h:sa+m.size<=xs.size)(t:Nat):(wbA sa m xs)[t]? =if sa<=t/\t<sa+m.size then m[t-sa]? else xs[t]? :=by have:=aIW sa t m.toList 0 xs (by simpa using h);unfold wbA;rw[this];simp
theorem aJU{sa:Nat}{m:Array AG}(h:sa+m.size<=xs.size):(wbA sa m xs).toList=xs.toList.take sa++(m.toList++xs.toList.drop (sa+m.size)):=by
 apply nD;intro t;rw[dL,aMc h];have l1:(xs.toList.take sa).length=sa:=by rw[cV];simp;omega
 by_cases h1:t<sa
 ·rw[if_neg<|by omega,eB (by rw[l1];exact h1),aAZ h1,dL]
 ·rw[fY (by rw[l1];omega),l1]
  by_cases h2:t<sa+m.size
  ·rw[if_pos ⟨by omega,h2⟩,eB (by simp;omega),dL]
  ·rw[if_neg<|by omega,fY (by simp;omega),List.getElem?_drop,cS];rw[show sa+m.size+(t-sa-m.size)=t by omega,dL]
theorem aCv{sa:Nat}(h:sa+n<=xs.size):xs.toList=xs.toList.take sa++((xs.extract sa<|sa+n).toList++xs.toList.drop (sa+n)):=by
 rw[dN,cW,show sa+n-sa=n by omega];have e:xs.toList.drop (sa+n)=(xs.toList.drop sa).drop n:=by rw[zT]
 rw[e,fC,fC]
theorem aLl{sa:Nat}{m:Array AG}(h:sa+m.size<=xs.size)(hp:m.toList.Perm (xs.extract sa<|sa+m.size).toList):(wbA sa m xs).Perm xs:=by apply fX.mpr;rw[aJU h];refine List.Perm.trans ?_<|List.Perm.of_eq (aCv (xs:=xs) h).symm;exact List.Perm.append_left _<|List.Perm.append_right _ hp
theorem aJW{i j:Nat}(h1:i<=j)(h2:j<=k)(h3:k<=xs.size):(xs.extract i j).toList++(xs.extract j k).toList=(xs.extract i k).toList:=by simp only[dN,cW];rw[show k-i=(j-i)+(k-j) by omega,List.take_add,zT,show i+(j-i)=j by omega]
theorem aJM{st2:BJ}{Q:PUnit->BJ->Prop}(h:Q ⟨⟩ st2):wpS (AH prog w) A E s (set st2:StateT BJ Sem PUnit) Q st:=by unfold wpS;rw[StateT.run_set];exact AC ⟨rfl,h⟩
theorem aAR{i sa pw sb pw':Nat}{Q:Bool->BJ->Prop}(K:lC prog w A E s κ r a₀)(hB:SB κ a₀ st)(p1:(AD st)[i]? =some (sa,na,pw))(p2:(AD st)[i+1]? =some (sb,nb,pw'))(hs:sb=sa+na)(n1:1<=na)(n2:1<=nb)(hz:sb+nb<=a₀.size)
  (A1:AscR r (AJ st) sa sb) (A2:AscR r (AJ st) sb (sb+nb))
  (h:∀st',SB κ a₀ st'->AD st'=((AD st).setIfInBounds i (sa,na+nb,pw)).eraseIdxIfInBounds (i+1)->(∀k,k<sa\/sb+nb<=k->(AJ st')[k]? =(AJ st)[k]?)->AscR r (AJ st') sa (sb+nb)->Q true st'):wpS (AH prog w) A E s (mergeAt' i) Q st:=by
 have sz:=hB.size;have mem:∀x∈(AJ st).toList,x∈a₀.toList:=λx hx=>(fX.mp hB.perm).mem_iff.mp hx
 rw[aNo];unfold mgA;refine AF<|wpS_get ?_;rw[p1,p2];dsimp only;refine AF<|aJM ?_;have hB1:SB κ a₀ (BA st (((AD st).setIfInBounds i (sa,na+nb,pw)).eraseIdxIfInBounds<|i+1)):=⟨hB.perm,hB.kind,hB.failed⟩
 have h1:∀st',SameG (BA st (((AD st).setIfInBounds i (sa,na+nb,pw)).eraseIdxIfInBounds<|i+1)) st'->AscR r (AJ st) sa (sb+nb)->Q true st':=λst' S a=>by refine h st' ⟨by rw[S.arr];exact hB.perm,by rw[S.kind];exact hB.kind,by rw[S.failed];exact hB.failed⟩ S.pend (λk _=>by rw[S.arr]) ?_;rw[S.arr];exact a
 have hsb:sb<(AJ st).size:=by omega
 refine AF<|dS hsb (AF<|pQ K hB1.kind mem (mem _<|by simp) (by omega) (by omega) (by rw[<-hs];exact A1) (λj hj e=> ?_) λk c1 c2 c3=> ?_)
 ·rw[<-dP (r:=r) hsb] at e;exact hB.ne K (i:=sa+j) (j:=sb) (by omega) (by omega) (by omega) e
 rw[<-dP (r:=r) hsb] at c2 c3
 have c2':∀j,sa<=j->j<sa+k->rkA r (AJ st) j<rkA r (AJ st) sb:=λj j1 j2=>by
  have:=c2 (j-sa)<|by omega
  rwa[show sa+(j-sa)=j by omega] at this
 have c3':∀j,sa+k<=j->j<sb->rkA r (AJ st) sb<rkA r (AJ st) j:=λj j1 j2=>by
  have:=c3 (j-sa) (by omega)<|by omega
  rwa[show sa+(j-sa)=j by omega] at this
 have A2l:∀j,sb<=j->j<sb+nb->rkA r (AJ st) sb<=rkA r (AJ st) j:=λj j1 j2=>by
  by_cases e:j=sb
  ·rw[e];exact aN _
  ·exact dE<|A2 sb j (aN _) (by omega) j2
 dsimp only;unfold mgB
 by_cases e0:na-k=0
 ·rw[if_pos<|by simpa using e0];refine AI (h1 _ (.refl _) λi j i1 ij j1=> ?_)
  by_cases q1:j<sb
  ·exact A1 i j i1 ij q1
  ·by_cases q2:i<sb
   ·exact aY (c2' i i1<|by omega)<|A2l j (by omega) j1
   ·exact A2 i j (by omega) ij j1
 ·rw[if_neg<|by simpa using e0];have ekn:sa+k+(na-k)-1=sb-1:=by omega
  have hkb:sb-1<(AJ st).size:=by omega
  rw[ekn];refine AF<|dS hkb (AF<|pQ K hB1.kind mem (mem _<|by simp) (by omega) (by omega) A2 (λj hj e=> ?_) λn2' d1 d2 d3=> ?_)
  ·rw[<-dP (r:=r) hkb] at e;exact hB.ne K (i:=sb+j) (j:=sb-1) (by omega) (by omega) (by omega) e
  rw[<-dP (r:=r) hkb] at d2 d3
  have d2':∀j,sb<=j->j<sb+n2'->rkA r (AJ st) j<rkA r (AJ st) (sb-1):=λj j1 j2=>by
   have:=d2 (j-sb)<|by omega
   rwa[show sb+(j-sb)=j by omega] at this
  have d3':∀j,sb+n2'<=j->j<sb+nb->rkA r (AJ st) (sb-1)<rkA r (AJ st) j:=λj j1 j2=>by
   have:=d3 (j-sb) (by omega)<|by omega
   rwa[show sb+(j-sb)=j by omega] at this
  have n2p:n2'≠0:=λz=>by subst z;have a:=d3' sb (by omega) (by omega);have b:=c3' (sb-1) (by omega) (by omega);omega
  dsimp only;rw[if_neg<|by simpa using n2p];unfold mgC
  have M:MPre r a₀ ((AJ st).extract (sa+k) sb) ((AJ st).extract sb<|sb+n2'):=by
   have s1:((AJ st).extract (sa+k) sb).size=sb-(sa+k):=by rw[jR];omega
   have s2:((AJ st).extract sb<|sb+n2').size=n2':=by rw[jR];omega
   have e1:∀t,t<sb-(sa+k)->rkA r ((AJ st).extract (sa+k) sb) t=rkA r (AJ st) (sa+k+t):=λt ht=>aDm (by omega)<|by omega
   have e2:∀t,t<n2'->rkA r ((AJ st).extract sb<|sb+n2') t=rkA r (AJ st) (sb+t):=λt ht=>aDm (by omega)<|by omega
   refine⟨by omega,by omega,λi j _ ij j1=> ?_,λi j _ ij j1=> ?_,λx hx=> ?_,λx hx=> ?_,λi j i1 j1=> ?_, ?_, ?_⟩
   ·rw[s1] at j1;rw[e1 i<|by omega,e1 j j1];exact A1 _ _ (by omega) (by omega)<|by omega
   ·rw[s2] at j1;rw[e2 i<|by omega,e2 j j1];exact A2 _ _ (by omega) (by omega)<|by omega
   ·rw[dN,cW] at hx;exact mem x (eP<|dW hx)
   ·rw[dN,cW] at hx;exact mem x (eP<|dW hx)
   ·rw[s1] at i1;rw[s2] at j1;rw[e1 i i1,e2 j j1];exact hB.ne K (by omega) (by omega)<|by omega
   ·rw[e1 0<|by omega,e2 0<|by omega];exact c3' _ (by omega)<|by omega
   ·rw[s1,s2,e1 _<|by omega,e2 _<|by omega,show sa+k+(sb-(sa+k)-1)=sb-1 by omega];exact d2' _ (by omega)<|by omega
  have fin:∀out st',MD r ((AJ st).extract (sa+k) sb) ((AJ st).extract sb (sb+n2')) out.toList→SameG (BA st (((AD st).setIfInBounds i (sa,na+nb,pw)).eraseIdxIfInBounds (i+1))) st'→wpS (AH prog w) A E s (do
    modify λs=>setArr s (wbA (sa+k) out<|AJ s)
    let s <-get
    pure (failedOf s).isNone) Q st':=λout st' D S=>by
   refine AF (Au<|AF (wpS_get<|AI ?_))
   have ep:out.toList.Perm ((AJ st).extract (sa+k)<|sb+n2').toList:=by
    have:=D.1
    rwa[aJW (by omega) (by omega)<|by omega] at this
   have sO:out.size=sb+n2'-(sa+k):=by have:=ep.length_eq;rw[cS,cS,jR] at this;omega
   have hz2:sa+k+out.size<=(AJ st).size:=by omega
   have ep2:out.toList.Perm ((AJ st).extract (sa+k)<|sa+k+out.size).toList:=by rw[sO,show sa+k+(sb+n2'-(sa+k))=sb+n2' by omega];exact ep
   have ff:failedOf (setArr st' (wbA (sa+k) out<|AJ st'))=none:=by show failedOf st'=none;rw[S.failed];exact hB.failed
   rw[ff];have arr':AJ st'=AJ st:=S.arr
   have at_:∀t,(AJ<|setArr st' (wbA (sa+k) out<|AJ st'))[t]? =if sa+k<=t/\t<sb+n2' then out[t-(sa+k)]? else(AJ st)[t]? :=λt=>by show(wbA (sa+k) out<|AJ st')[t]? =_;rw[arr',aMc hz2,sO,show sa+k+(sb+n2'-(sa+k))=sb+n2' by omega]
   refine h _ ⟨?_, ?_,ff⟩ ?_ (λt ht=>by rw[at_,if_neg<|by omega]) ?_
   ·show(wbA (sa+k) out<|AJ st').Perm a₀;rw[arr'];exact(aLl hz2 ep2).trans hB.perm
   ·show kindOf st'=κ;rw[S.kind];exact hB.kind
   ·show AD st'=_;rw[S.pend]
   ·have rin:∀t,sa+k<=t->t<sb+n2'->rkA r (AJ<|setArr st' (wbA (sa+k) out<|AJ st')) t=rkA r out (t-(sa+k)):=λt t1 t2=>gZ (by rw[at_,if_pos ⟨t1,t2⟩])
    have rout:∀t,t<sa+k\/sb+n2'<=t->rkA r (AJ<|setArr st' (wbA (sa+k) out<|AJ st')) t=rkA r (AJ st) t:=λt ht=>gZ (by rw[at_,if_neg<|by omega])
    have mo:∀u,u<out.size->∃v,sa+k<=v/\v<sb+n2'/\rkA r out u=rkA r (AJ st) v:=λu hu=>by
     have hm:out[u]∈((AJ st).extract (sa+k)<|sb+n2').toList:=ep.mem_iff.mp (by simp);obtain⟨v,hv,ev⟩:=fA hm
     have hv':v<sb+n2'-(sa+k):=by have:=hv;rw[cS,jR] at this;omega
     refine⟨sa+k+v,by omega,by omega, ?_⟩;rw[dP hu,<-ev,<-aDm (xs:=AJ st) (i:=sa+k) (j:=sb+n2') (t:=v) (by omega) (by omega)];rw[dP<|by rw[jR];omega];simp
    have asO:∀u v,u<v->v<out.size->rkA r out u<rkA r out v:=λu v uv hv=>by have:=(aAj.mp D.2) u v (by simp;omega) (by simpa using hv) uv;rw[dP<|by omega,dP hv];simpa using this
    have low:∀t u,sa<=t->t<sa+k->u<out.size->rkA r (AJ st) t<rkA r out u:=λt u t1 t2 hu=>by
     obtain⟨v,v1,v2,ev⟩:=mo u hu;rw[ev]
     by_cases q:v<sb
     ·exact A1 t v t1 (by omega) q
     ·exact aY (c2' t t1 t2) (A2l v (by omega)<|by omega)
    have high:∀t u,sb+n2'<=t->t<sb+nb->u<out.size->rkA r out u<rkA r (AJ st) t:=λt u t1 t2 hu=>by
     obtain⟨v,v1,v2,ev⟩:=mo u hu;rw[ev]
     by_cases q:v<sb
     ·refine cM ?_ (d3' t t1 t2)
      by_cases e:v=sb-1
      ·rw[e];exact aN _
      ·exact dE (A1 v (sb-1) (by omega) (by omega)<|by omega)
     ·exact A2 v t (by omega) (by omega) t2
    intro u v u1 uv v1
    by_cases q1:u<sa+k
    ·rw[rout u<|.inl q1]
     by_cases q2:v<sa+k
     ·rw[rout v<|.inl q2];exact A1 u v u1 uv<|by omega
     ·by_cases q3:v<sb+n2'
      ·rw[rin v (by omega) q3];exact low _ _ u1 q1<|by omega
      ·rw[rout v (.inr<|by omega)];exact aY (c2' u u1 q1)<|A2l v (by omega) v1
    ·by_cases q2:u<sb+n2'
     ·rw[rin u (by omega) q2]
      by_cases q3:v<sb+n2'
      ·rw[rin v (by omega) q3];exact asO _ _ (by omega)<|by omega
      ·rw[rout v (.inr<|by omega)];exact high _ _ (by omega) v1<|by omega
     ·rw[rout u (.inr<|by omega),rout v (.inr<|by omega)];exact A2 u v (by omega) uv v1
  dsimp only
  split
  ·exact AF<|aAS K hB1.kind M fin
  ·exact AF<|aAT K hB1.kind M fin
noncomputable def Runs(r:AG->Nat)(xs:Array AG):Nat->List (Nat×Nat×Nat)->Nat->Prop
 |s,[],e=>s=e
 |s,p::l,e=>p.1=s/\1<=p.2.1/\AscR r xs s (s+p.2.1)/\Runs r xs (s+p.2.1) l e
variable {ys:Array AG}
theorem AscR.keep{s e:Nat}(h:AscR r xs s e)(k:∀t,s<=t->t<e->ys[t]? =xs[t]?):AscR r ys s e:=λi j hi hij hj=>by rw[gZ (k i hi<|by omega),gZ<|k j (by omega) hj];exact h i j hi hij hj
theorem Runs.le:∀ {l:List (Nat×Nat×Nat)}{s e:Nat},Runs r xs s l e->s+l.length<=e
 |[],s,e,h=>by rw[show s=e from h];exact aN _
 |p::l,s,e,⟨_,h1,_,h2⟩=>by have:=h2.le;rw[bF];omega
theorem Runs.keep:∀ {l:List (Nat×Nat×Nat)}{s e:Nat},Runs r xs s l e->(∀t,s<=t->t<e->ys[t]? =xs[t]?)->Runs r ys s l e
 |[],_,_,h,_=>h
 |p::l,s,e,⟨h0,h1,h2,h3⟩,k=>by have:=h3.le;exact⟨h0,h1,h2.keep λt t1 t2=>k t t1<|by omega,h3.keep λt t1 t2=>k t (by omega) t2⟩
theorem Runs.split:∀ {l1 l2:List (Nat×Nat×Nat)}{s e:Nat},Runs r xs s (l1++l2) e->∃m,Runs r xs s l1 m/\Runs r xs m l2 e
 |[],l2,s,e,h=>⟨s,rfl,h⟩
 |p::l1,l2,s,e,⟨h0,h1,h2,h3⟩=>by obtain⟨m,a,b⟩:=Runs.split h3;exact⟨m,⟨h0,h1,h2,a⟩,b⟩
theorem Runs.app:∀ {l1 l2:List (Nat×Nat×Nat)}{s m e:Nat},Runs r xs s l1 m->Runs r xs m l2 e->Runs r xs s (l1++l2) e
 |[],l2,s,m,e,h,h2=>by rw[show s=m from h];exact h2
 |p::l1,l2,s,m,e,⟨h0,h1,h2,h3⟩,b=>⟨h0,h1,h2,Runs.app h3 b⟩
theorem Runs.pow{l1:List (Nat×Nat×Nat)}{x y:Nat×Nat×Nat}{s e:Nat}(h:Runs r xs s (l1++[x]) e)(h1:y.1=x.1)(h2:y.2.1=x.2.1):Runs r xs s (l1++[y]) e:=by obtain⟨m,a,b⟩:=h.split;refine a.app ?_;obtain⟨b0,b1,b2,b3⟩:=b;exact⟨h1.trans b0,by rw[h2];exact b1,by rw[h2];exact b2,by rw[h2];exact b3⟩
theorem aID{p:Pnd}{i:Nat}(h:i+1<p.size)(v:Nat×Nat×Nat):p.toList=p.toList.take i++p[i]::p[i+1]::p.toList.drop (i+2)/\((p.setIfInBounds i v).eraseIdxIfInBounds<|i+1).toList=p.toList.take i++v::p.toList.drop (i+2):=by
 have e1:p.toList=p.toList.take i++p[i]::p[i+1]::p.toList.drop (i+2):=by
  have a:p.toList.drop i=p[i]::p.toList.drop (i+1):=by rw[dH<|by simp;omega];simp
  have b:p.toList.drop (i+1)=p[i+1]::p.toList.drop (i+1+1):=by rw[dH<|by simp;omega];simp
  rw[<-b,<-a,fC]
 refine⟨e1, ?_⟩;have l1:(p.toList.take i).length=i:=by rw[cV];simp;omega
 rw[Array.toList_eraseIdxIfInBounds,Array.toList_setIfInBounds];generalize p.toList.take i=u at e1 l1;generalize p.toList.drop (i+2)=z at e1;rw[e1];rw[List.set_append_right _ _<|by omega,l1,uF,List.set_cons_zero,List.eraseIdx_append_of_length_le<|by omega,l1,show i+1-i=1 by omega];rfl
theorem aEI{i e:Nat}{Q:Bool->BJ->Prop}(K:lC prog w A E s κ r a₀)(hB:SB κ a₀ st)(R:Runs r (AJ st) 0 (AD st).toList e)(he:e<=a₀.size)(hi:i+1<(AD st).size)
  (h:∀st',SB κ a₀ st'->Runs r (AJ st') 0 (AD st').toList e->(AD st').size+1=(AD st).size->(∀k,e<=k->(AJ st')[k]? =(AJ st)[k]?)->Q true st'):wpS (AH prog w) A E s (mergeAt' i) Q st:=by
 obtain⟨e1,_⟩:=aID hi (0,0,0);have R0:=R;rw[e1] at R0;obtain⟨m,R1,a1,a2,a3,b1,b2,b3,R2⟩:=R0.split
 have h1:(AD st)[i]? =some (m,(AD st)[i].2.1,(AD st)[i].2.2):=by rw[getElem?_pos _ i<|by omega];refine congrArg some ?_;rw[<-a1]
 have h2:(AD st)[i+1]? =some (m+(AD st)[i].2.1,(AD st)[i+1].2.1,(AD st)[i+1].2.2):=by rw[getElem?_pos _ (i+1)<|by omega];refine congrArg some ?_;rw[<-b1]
 have l2:=R2.le;have l1:=R1.le;refine aAR K hB h1 h2 rfl a2 b2 (by omega) a3 b3 λst' hB' hp hk ha=> ?_
 obtain⟨_,e2⟩:=aID hi (m,(AD st)[i].2.1+(AD st)[i+1].2.1,(AD st)[i].2.2);have ep:(AD st').toList=(AD st).toList.take i++(m,(AD st)[i].2.1+(AD st)[i+1].2.1,(AD st)[i].2.2)::(AD st).toList.drop (i+2):=by rw[hp];exact e2
 refine h st' hB' ?_ ?_ λk hk2=>hk k (.inr<|by omega)
 ·rw[ep];refine(R1.keep λt _ t2=>hk t<|.inl t2).app ⟨rfl,by show 1<=_+_;omega, ?_, ?_⟩
  ·show AscR r (AJ st') m (m+(_+_));rw[<-aPz];exact ha
  ·show Runs r (AJ st') (m+(_+_)) _ e;rw[<-aPz];exact R2.keep λt t1 _=>hk t<|.inr t1
 ·have:=congrArg xO ep;have q:=congrArg xO e1;simp only[cS,aH,bF] at this q;omega
structure SR(κ:As)(r:AG->Nat)(a₀:Array AG)(lo:Nat)(st:BJ):Prop where
 sb:SB κ a₀ st
 runs:Runs r (AJ st) 0 (AD st).toList lo
theorem aBD{lo:Nat}{Q:ForInStep (Option Unit×Nat)->BJ->Prop}(K:lC prog w A E s κ r a₀)(S:SR κ r a₀ lo st)(n1:1<=n)(hn:lo+n<=a₀.size)(ha:AscR r (AJ st) lo (lo+n))(h:∀st',SR κ r a₀ (lo+n) st'->Q (.yield (none,lo+n)) st'):wpS (AH prog w) A E s (aBm lo n a₀.size) Q st:=by
 unfold aBm;refine AF<|wpS_get ?_
 have fin:∀st',SR κ r a₀ lo st'->AscR r (AJ st') lo (lo+n)->SR κ r a₀ (lo+n) (BA st'<|(AD st').push (lo,n,0)):=λst' S' ha'=>by refine⟨⟨S'.sb.perm,S'.sb.kind,S'.sb.failed⟩, ?_⟩;show Runs r (AJ st') 0 ((AD st').push (lo,n,0)).toList (lo+n);rw[jY];exact S'.runs.app ⟨rfl,n1,ha',rfl⟩
 cases hb:(AD st).back? with
 |none=>exact AF (Au<|AI (h _<|fin st S ha))
 |some p=>
  obtain⟨s1,n1',p1⟩:=p;dsimp only;generalize power' a₀.size (2*s1+n1') (2*s1+n1'+n1'+n) a₀.size=pw
  have ne0:1<=(AD st).size:=by
   rcases Nat.eq_zero_or_pos (AD st).size with z|z
   ·rw[Array.eq_empty_of_size_eq_zero z] at hb;cases hb
   ·exact z
  refine AF<|Ac (AT (I:=λ_ c st'=>c=(none,())/\SR κ r a₀ lo st'/\1<=(AD st').size/\AscR r (AJ st') lo (lo+n)) (Q:=λc st'=>c=(none,())/\SR κ r a₀ lo st'/\1<=(AD st').size/\AscR r (AJ st') lo (lo+n)) ?step (λ_ _ z=>z) ⟨rfl,S,ne0,ha⟩) ?post
  case step=>
   rintro x c st' _ hx ⟨rfl,S',ne',ha'⟩;unfold aQk;refine AF<|wpS_get ?_
   by_cases q:(AD st').size>1
   ·rw[if_pos q,getElem?_pos _ _<|by omega];dsimp only
    split
    ·exact AI ⟨rfl,S',ne',ha'⟩
    ·refine AF<|aEI K S'.sb S'.runs (by omega) (by omega) λst'' hB hr hs hk=> ?_;rw[if_neg<|by decide];exact AI ⟨rfl,⟨hB,hr⟩,by omega,ha'.keep λt t1 _=>hk t t1⟩
   ·rw[if_neg q];exact AI ⟨rfl,S',ne',ha'⟩
  case post=>
   rintro c st' ⟨rfl,S',ne',ha'⟩;dsimp only;refine AF (Au<|AF (Au<|AI (h _<|fin (BA st'<|(AD st').modify ((AD st').size-1) λ(x:Nat×Nat×Nat)=>(x.1,x.2.1,pw)) ⟨⟨S'.sb.perm,S'.sb.kind,S'.sb.failed⟩, ?_⟩ ha')));show Runs r (AJ st') 0 ((AD st').modify ((AD st').size-1) λ(x:Nat×Nat×Nat)=>(x.1,x.2.1,pw)).toList lo
   have hl:(AD st').toList≠[]:=λz=>by have:=congrArg xO z;rw[cS,gH] at this;omega
   have e1:=(lN hl).symm;have R:=S'.runs;rw[e1] at R
   have e2:((AD st').modify ((AD st').size-1) λ(x:Nat×Nat×Nat)=>(x.1,x.2.1,pw)).toList=(AD st').toList.dropLast++[(((AD st').toList.getLast hl).1,((AD st').toList.getLast hl).2.1,pw)]:=by
    apply nD;intro t;rw[dL,aDe];have ld:(AD st').toList.dropLast.length=(AD st').size-1:=by simp
    by_cases q:(AD st').size-1=t
    ·rw[if_pos q,fY (by rw[ld];omega),ld,q,uF,<-q];rw[List.getLast_eq_getElem];have:(AD st').size-1<(AD st').size:=by omega
     simp[this]
    ·rw[if_neg q]
     by_cases q2:t<(AD st').size-1
     ·rw[eB (by rw[ld];exact q2),List.getElem?_dropLast,if_pos (by simpa using q2),dL]
     ·rw[fY (by rw[ld];omega),ld];rw[aCm<|by omega,iH<|by simp;omega]
   rw[e2];exact R.pow rfl rfl
theorem aFr{Q:Unit->BJ->Prop}(K:lC prog w A E s κ r a₀)(hB:SB κ a₀ st)(hp:AD st= #[])(h:∀st',SB κ a₀ st'->AscR r (AJ st') 0 a₀.size->Q () st'):wpS (AH prog w) A E s sortRuns' Q st:=by
 rw[aMB];unfold srM;refine AF<|wpS_get ?_;have sz:=hB.size;rw[sz];generalize minRun' a₀.size a₀.size 0=minrun;refine AF<|Ac (AT (I:=λx c st'=>∃lo,c=(none,lo)/\SR κ r a₀ lo st'/\lo<=a₀.size/\(x<=lo\/lo=a₀.size)) (Q:=λc st'=>c=(none,a₀.size)/\SR κ r a₀ a₀.size st') ?step ?fin ⟨0,rfl,⟨hB,by rw[hp];rfl⟩,cP _,.inl<|aN _⟩) ?post
 case fin=>
  rintro c st' ⟨lo,rfl,S,h1,h2⟩;have:lo=a₀.size:=by omega
  subst this;exact⟨rfl,S⟩
 case step=>
  rintro x c st' _ hx ⟨lo,rfl,S,h1,h2⟩;unfold aIL;dsimp only
  by_cases q:lo>=a₀.size
  ·rw[if_pos q];have:lo=a₀.size:=by omega
   subst this;exact AI ⟨rfl,S⟩
  ·rw[if_neg q];refine AF<|aCI K S.sb (by omega) (by omega) λm st2 m1 m2 T ha=> ?_;have S2:SR κ r a₀ lo st2:=⟨T.sb,by rw[T.pend];exact S.runs.keep λt _ t2=>T.keep t<|.inl t2⟩;dsimp only
   by_cases z:m<minrun
   ·rw[if_pos z];refine AF (wpS_lift<|Az ⟨rfl, ?_⟩);refine AF<|aHd K S2.sb (by omega) (by omega) ha λst3 T3 ha3=> ?_;rw[if_neg<|by decide];refine aBD K ⟨T3.sb,by rw[T3.pend];exact S2.runs.keep λt _ t2=>T3.keep t<|.inl t2⟩ (by omega) (by omega) ha3 λst4 S4=>⟨_,rfl,S4,by omega,.inl<|by omega⟩
   ·rw[if_neg z];exact aBD K S2 m1 (by omega) ha λst4 S4=>⟨_,rfl,S4,by omega,.inl<|by omega⟩
 case post=>
  rintro c st' ⟨rfl,S⟩;dsimp only
  have pl:(AD st').size<=a₀.size:=by have:=S.runs.le;simpa using this
  refine AF<|Ac (AT (I:=λx c st''=>c=(none,())/\SR κ r a₀ a₀.size st''/\(AD st'').size<=a₀.size-x) (Q:=λc st''=>c=(none,())/\SR κ r a₀ a₀.size st''/\(AD st'').size<=1) ?step2 ?fin2 ⟨rfl,S,by omega⟩) ?post2
  case fin2=>rintro c st'' ⟨rfl,S,h1⟩;exact⟨rfl,S,by omega⟩
  case step2=>
   rintro x c st'' _ hx ⟨rfl,S,h1⟩;unfold aMh;refine AF<|wpS_get ?_
   by_cases q:(AD st'').size<=1
   ·rw[if_pos q];exact AI ⟨rfl,S,q⟩
   ·rw[if_neg q];have go:∀i,i+1<(AD st'').size->wpS (AH prog w) A E s (mergeAt' i) (λb st'=>b=true/\SR κ r a₀ a₀.size st'/\(AD st').size<=a₀.size-(x+1)) st'':=λi hi=>aEI K S.sb S.runs (aN _) hi λst3 hB3 hr hs hk=>⟨rfl,⟨hB3,hr⟩,by omega⟩
    refine AF<|Ac (go _ ?_) λb st3 hb=> ?_
    ·have bd:∀c:Bool,(if c=true then(AD st'').size-2-1 else(AD st'').size-2)+1<(AD st'').size:=λc=>by
      cases c
      ·rw[if_neg<|by decide];omega
      ·rw[if_pos rfl];omega
     exact bd _
    ·obtain⟨rfl,S3,h3⟩:=hb;rw[if_neg<|by decide];exact AI ⟨rfl,S3,h3⟩
  case post2=>
   rintro c st'' ⟨rfl,S,h1⟩;refine AI<|h st'' S.sb ?_;have R:=S.runs;generalize e:(AD st'').toList=l at R;have ll:l.length<=1:=by rw[<-e];simpa using h1
   match l,ll with
   |[],_=>have:0=a₀.size:=R;intro i j _ _ hj;omega
   |[p],_=>obtain⟨_,_,b,c⟩:=R;have c:0+p.2.1=a₀.size:=c;rw[c] at b;exact b
open PySem.W (KasT kas_sort kas_asc kas_desc kas_tail3 kas_descPart kas_count kas_place kas_bin kas_rev kas_ask kas_item kat_lt kat_cons kat_nil kat_yes kat_no kat_one kat_kind kat_run kat_snds KatTups)
open PySem.W (KasT kas_sort kas_asc kas_desc kas_tail3 kas_descPart kas_count kas_place kas_bin kas_rev)
open PySem.W (KasT kas_sort kas_asc kas_desc kas_tail3 kas_descPart kas_count kas_place kas_bin kas_rev kas_ask kas_item kat_lt kat_cons kat_nil kat_yes kat_no kat_one kat_kind kat_run kat_snds KatTups KatLex)
theorem aAd{α β:Type}{f:α->β}{l:List α}{l':List β}(h:l'.Perm (l.map f)):∃l2:List α,l2.Perm l/\l'=l2.map f:=by
 generalize hy:l.map f=y at h
 induction h generalizing l with
 |nil=>
  have:l=[]:=by simpa using hy
  subst this;exact⟨[],.refl _,rfl⟩
 |cons x p ih=>
  cases l with
  |nil=>simp at hy
  |cons a t=>simp only[aZ,aDf.injEq] at hy;obtain⟨l3,q1,q2⟩:=ih hy.2;exact⟨a::l3,q1.cons a,by rw[aZ,hy.1,q2]⟩
 |swap x y l0=>
  match l,hy with
  |a::b::t,hy=>simp only[aZ,aDf.injEq] at hy;exact⟨b::a::t,List.Perm.swap a b t,by rw[aZ,aZ,hy.1,hy.2.1,hy.2.2]⟩
  |[a],hy=>simp at hy
  |[],hy=>simp at hy
 |trans p1 p2 ih1 ih2=>obtain⟨l3,q1,q2⟩:=ih2 hy;obtain⟨l4,r1,r2⟩:=ih1 q2.symm;exact⟨l4,r1.trans q1,r2⟩
variable {a b:Expr}
noncomputable def nY(k:List Key):D:=.tup<|k.map kD
noncomputable def oF(h:BG)(a:BE)(vs:List BC):BG:=((h.update a<|Obj.mapSeq λ_=> #[]).push<|Aj "tuple" vs.toArray 0).push<|Aj "list" #[] 0
theorem rW(vs:List BC):(vs.toArray.zip vs.toArray).toList=vs.map λv=>(v,v):=by
 rw[Array.toList_zip];show vs.zip vs=_
 induction vs with
 |nil=>rfl
 |cons v vs ih=>rw[dC,ih];rfl
theorem aLe{rk:BC->Nat}{vs:List BC}(nd:(vs.map rk).Nodup)(hask:∀x∈vs,∀y∈vs,∀ (Q:Bool->BD->Prop) (E':BC->BD->Prop),Q (decide<|rk x<rk y) s->AK (AH prog w) A (keyLt' κ x y) Q E' s):lC prog w A E s κ (λp=>rk p.1) (vs.toArray.zip vs.toArray):=by
 refine⟨λ{x y st Q} hx hy hk h=> ?_, ?_⟩
 ·rw[rW] at hx hy;obtain⟨u,hu,rfl⟩:=aP.mp hx;obtain⟨v,hv,rfl⟩:=aP.mp hy;rw[lt'_eq];refine AF<|wpS_get ?_;rw[hk];exact AF<|wpS_lift (wpAny_attempt<|hask u hu v hv _ _ ⟨rfl,AI h⟩)
 ·rw[rW,aU];exact nd
theorem xY{a:BE}{vs:List BC}{rk:BC->Nat}{R:PySem.Fin->BD->Prop}(ho:s.heap.get? a=some (Aj "list" vs.toArray n))(nd:(vs.map rk).Nodup)(hn:vs.length<=10000)
  (hkind:2<=vs.length->∀ (Q:As->BD->Prop),Q κ ⟨oF s.heap a vs,s.gens,s.drawn,s.toks,s.os⟩->AK (AH prog w) A (keyKind' vs.toArray) Q E ⟨oF s.heap a vs,s.gens,s.drawn,s.toks,s.os⟩)
  (hask:∀x∈vs,∀y∈vs,∀ (Q:Bool->BD->Prop) (E':BC->BD->Prop),Q (decide<|rk x<rk y) ⟨oF s.heap a vs,s.gens,s.drawn,s.toks,s.os⟩->AK (AH prog w) A (keyLt' κ x y) Q E' ⟨oF s.heap a vs,s.gens,s.drawn,s.toks,s.os⟩)
  (h:∀out:Array BC,out.toList.Perm vs->(out.toList.map rk).Pairwise (·<·)->R (.done<|.ret .none) {s with heap:=sortedHeap s.heap a vs out}):AK (AH prog w) A (Builtin.«list.sort» ⟨[.ref a],[]⟩) R E s:=by
 have lt:a<s.heap.objs.size:=aR ho;have sz:vs.toArray.size=vs.length:=by simp
 obtain⟨n0,g1⟩:∃n0,(s.heap.update a<|Obj.mapSeq λ_=> #[]).get? a=some (Aj "list" #[] n0):=⟨_,get?_update_seq ho λ_=> #[]⟩
 have n1:a≠((s.heap.update a<|Obj.mapSeq λ_=> #[]).push<|Aj "tuple" vs.toArray 0).objs.size:=by rw[size_push',oJ];exact bW<|nH lt
 have n2:a≠(s.heap.update a<|Obj.mapSeq λ_=> #[]).objs.size:=by rw[oJ];exact bW lt
 have g6:(oF s.heap a vs).get? a=some (Aj "list" #[] n0):=by unfold oF;rw[aJd _ _ _ n1,aJd _ _ _ n2,g1]
 rw[list_sort_plain];refine AA (listItems_at ho rfl<|AA (listUpdate_at ho rfl (AA (seqEpoch_at g1 rfl<|AA (wpAny_newTuple (AA (wpAny_newList (AV ?_)<|cP _))<|by show vs.length<=_;rw[Aq];omega))) (by rw[sz,Aq];omega)<|cP _));show AK (AH prog w) A _ R E ⟨oF s.heap a vs,s.gens,s.drawn,s.toks,s.os⟩;dsimp only
 by_cases h2:vs.toArray.size<2
 ·rw[if_pos h2,if_pos h2];refine AA<|AC ?_;rw[StateT.run_pure];refine AA (AC (AA<|seqEpoch_at g6 rfl (AA<|listUpdate_at g6 rfl ?_ (cP _) ?_)))
  ·simp only[bne_self_eq_false,if_false,bT];refine AC ?_
   have e:Array.map (λ(x:AG)=>x.2) (AJ<|SortSt.mk' general' (vs.toArray.zip vs.toArray) #[] 7 none)=vs.toArray:=by apply uG.mp;rw[uH];show(vs.toArray.zip vs.toArray).toList.map _=vs;rw[rW,aU];exact lB _
   rw[e];refine h vs.toArray (.refl _) ?_;rw[sz] at h2
   match vs,h2 with
   |[],_=>exact .nil
   |[v],_=>exact jW _ _
  ·show(Array.map _<|vs.toArray.zip vs.toArray).size<=_;rw[Array.size_map,Array.size_zip,sz,Aq];omega
 ·rw[if_neg h2,if_neg h2];rw[sz] at h2;refine AA<|hkind (by omega) _ ?_;have K:lC prog w A E ⟨oF s.heap a vs,s.gens,s.drawn,s.toks,s.os⟩ κ (λp=>rk p.1) (vs.toArray.zip vs.toArray):=aLe nd hask;refine AA<|Aa (aFr (Q:=λ_ st'=>SB κ (vs.toArray.zip vs.toArray) st'/\AscR (λp=>rk p.1) (AJ st') 0 (vs.toArray.zip vs.toArray).size) K (st:=SortSt.mk' κ (vs.toArray.zip vs.toArray) #[] 7 none) ⟨Array.Perm.refl _,rfl,rfl⟩ rfl λst' b c=>⟨b,c⟩) ?_ λ_ _ z=>z;rintro⟨⟨⟩,st'⟩ s' ⟨rfl,hB,hA⟩;dsimp only
  have pm:(AJ st').toList.Perm (vs.map λv=>(v,v)):=by
   have:=fX.mp hB.perm
   rwa[rW] at this
  have p2:((AJ st').map (·.2)).toList.Perm vs:=by rw[uH];have:=pm.map (·.2);rw[aU] at this;exact this.trans (List.Perm.of_eq<|lB _)
  have sO:((AJ st').map (·.2)).size=vs.length:=by
   have:=p2.length_eq
   rwa[cS] at this
  refine AA<|seqEpoch_at g6 rfl (AA<|listUpdate_at g6 rfl ?_ (cP _) ?_)
  ·rw[hB.failed];simp only[bne_self_eq_false,if_false,bT];refine AC<|h _ p2 ?_;rw[uH,aU,aAj];intro i j hi hj hij;rw[aC,cS] at hi hj;have q:=hA i j (cP _) hij (by rw[<-hB.size];exact hj);rw[dP hi,dP hj] at q
   have d:∀p∈(AJ st').toList,p.1=p.2:=λp hp=>by obtain⟨v,_,rfl⟩:=aP.mp<|pm.mem_iff.mp hp;rfl
   rw[eQ,eQ];have d1:=d (AJ st')[i] (by simp);have d2:=d (AJ st')[j] (by simp);rw[d1,d2] at q;simpa using q
  ·rw[sO,Aq];omega
open PySem.W (kat_lt kat_cons kat_nil kat_yes kat_no kat_one kat_kind KatTups KatLex)
theorem aCo{l:BE}{vs:List BC}{rk:BC->Nat}{Q:BC->BD->Prop}(hl:s.heap.IsList l vs.toArray)(nd:(vs.map rk).Nodup)(hn:vs.length<=10000)
  (hkind:∀t:BD,(∀b o,s.heap.get? b=some o->t.heap.get? b=some o)->2<=vs.length->∀ (A':BF) (R:As->BD->Prop) (E':BC->BD->Prop),A'.units<=A.units+2->R κ t->AK (AH prog w) A' (keyKind' vs.toArray) R E' t)
  (hask:∀t:BD,(∀b o,s.heap.get? b=some o->t.heap.get? b=some o)->∀x∈vs,∀y∈vs,∀ (A':BF) (R:Bool->BD->Prop) (E':BC->BD->Prop),A'.units<=A.units+2->R (decide<|rk x<rk y) t->AK (AH prog w) A' (keyLt' κ x y) R E' t)
  (h:∀out:Array BC,out.toList.Perm vs->(out.toList.map rk).Pairwise (·<·)->Q (.ref<|s.heap.objs.size+1) {s with heap:=sortedAll s.heap vs out}):AK (AH prog w) A (call (.builtin "sorted") [.ref l]) Q E s:=by
 have hsz:((s.heap.push<|Aj "list" #[] 0).update s.heap.objs.size (Obj.mapSeq (·++vs.toArray))).objs.size=s.heap.objs.size+1:=by rw[oJ,size_push']
 have hoL:(((s.heap.push<|Aj "list" #[] 0).update s.heap.objs.size (Obj.mapSeq (·++vs.toArray))).push<|Aj "list" vs.toArray 0).get? (s.heap.objs.size+1)=some (Aj "list" vs.toArray 0):=by rw[<-hsz];exact bL _ rfl
 have k2:∀b o,s.heap.get? b=some o->(((s.heap.push<|Aj "list" #[] 0).update s.heap.objs.size (Obj.mapSeq (·++vs.toArray))).push<|Aj "list" vs.toArray 0).get? b=some o:=λb o g=>by
  have nb:s.heap.objs.size≠b:=λz=>absurd (aR g) (by rw[<-z];exact eL _)
  refine aD _ ?_;rw[cU _ _ nb];exact aD _ g
 have k6:∀b o,s.heap.get? b=some o->(oF (((s.heap.push<|Aj "list" #[] 0).update s.heap.objs.size (Obj.mapSeq (·++vs.toArray))).push<|Aj "list" vs.toArray 0) (s.heap.objs.size+1) vs).get? b=some o:=λb o g=>by
  have nb:s.heap.objs.size+1≠b:=λz=>by have:=aR g;rw[<-z] at this;exact absurd this (pF.mpr<|hW _)
  unfold oF;refine aD _<|aD _ ?_;rw[cU _ _ nb];exact k2 b o g
 refine Calls.call_function_entry kind_sorted plain_sorted entry_sorted (args_sorted1<|.ref l) ?_;unfold Builtin.«sorted»;refine AA (m:=checkCount "sorted" 1 1 _) (AC<|AA (collect_list hl (AA (wpAny_newList ?_<|by rw[Aq];omega))<|by rw[Aq];omega));show AK _ _ _ _ _ ⟨((s.heap.push<|Aj "list" #[] 0).update s.heap.objs.size (Obj.mapSeq (·++vs.toArray))).push<|Aj "list" vs.toArray 0,s.gens,s.drawn,s.toks,s.os⟩;rw[hsz];refine AA (AV (At slot_list_sort ⟨_,hoL,rfl⟩ entry_list_sort (xY (κ:=κ) (rk:=rk) (s:=⟨_,s.gens,s.drawn,s.toks,s.os⟩) hoL nd hn (λh2 R q=>hkind ⟨oF (((s.heap.push<|Aj "list" #[] 0).update s.heap.objs.size (Obj.mapSeq (·++vs.toArray))).push<|Aj "list" vs.toArray 0) (s.heap.objs.size+1) vs,s.gens,s.drawn,s.toks,s.os⟩ k6 h2 _ R _ ?_ q) (λx hx y hy R E' q=>hask ⟨oF (((s.heap.push<|Aj "list" #[] 0).update s.heap.objs.size (Obj.mapSeq (·++vs.toArray))).push<|Aj "list" vs.toArray 0) (s.heap.objs.size+1) vs,s.gens,s.drawn,s.toks,s.os⟩ k6 x hx y hy _ R E' ?_ q) λout p1 p2=>⟨_,rfl,AC ⟨_,rfl,h out p1 p2⟩⟩)<|args_list_sort _))
 all_goals simp only[Around.in1];omega
theorem aKf{fin b:Bool}{Q:Bool->BD->Prop}{r:List (BC×BC)}(x:aGh A s fin r b):∀ {i:Nat},Q b s->KatLex prog w A false fin Q r i s:=by
 induction x with
 |nil=>intro i q;exact kat_nil q
 |eq he _ ih=>intro i q;exact kat_cons<|SeqAt.EqAt.of_in1 he prog w _ _ (kat_yes<|ih q)
 |@lt x y r b he hl=>intro i q;refine kat_cons (SeqAt.EqAt.of_in1 he prog w _ _<|kat_no ?_);rw[zV];exact kat_one x y (wpAny_of_in1<|hl prog w _ _ q)
theorem vI{α β:Type}{G:α->β->Prop}:∀ {l:List α}{m:List β}{n:Nat}{a:α},Paired G l m->l[n]? =some a->∃b,m[n]? =some b/\G a b
 |_,_,_,_,.nil,h=>by simp at h
 |_,_,0,_,.cons r _,h=>by cases h;exact⟨_,rfl,r⟩
 |_,_,n+1,_,.cons _ t,h=>vI (n:=n) t (by simpa using h)
theorem rB{α β:Type}{G:α->β->Prop}:∀ {l:List α}{m:List β} (n:Nat),Paired G l m->Paired G (l.eraseIdx n) (m.eraseIdx n)
 |_,_,_,.nil=>.nil
 |_,_,0,.cons _ t=>t
 |_,_,n+1,.cons r t=>.cons r<|rB n t
def aPY(X:Cx):V->List V->Hp->VK->Prop:=λx vs H Q=>∃ (F:Hp) (l ad:BE) (k:List Key) (y:V) (n:Nat) (o:BH) (kvs:List (List Key×V)),x=.ref l/\vs=[.ref ad]/\Same F H/\H l=some (exO l o)/\F ad=some (.tup<|k.map kV)/\X.A.units+1<AS/\
 TDo X.prog X.w F l o kvs/\kvs[n]? =some (k,y)/\(∀o',(∀v,o'.data≠ .cell v)->TDo X.prog X.w F l o' (kvs.eraseIdx n)->Q y (upd H l<|exO l o'))
theorem aNi:MtR X "dict.pop" (aPY X):=by
 intro pins s σ H x vs v us Q I rx rv h;obtain⟨F,l,ad,k,y,n,o,kvs,rfl,rfl,sF,hl,ha,hu,⟨z,hm,ts,kt,es,ep,t1,t2,t3,t4⟩,hn,q1⟩:=h;obtain rfl:v=Value.ref l:=rx;obtain⟨u,rfl,ru⟩:=Vals.one rv;obtain rfl:u=Value.ref ad:=ru;have ho:s.heap.get? l=some o:=(I.hok l _ hl).1;have ktH:KT H kvs ts:=kt.keeps λb ys e=>sF _ _ e
 have dd:s.heap.DictOfH (Ah<|eI X.prog X.w) l ts:=⟨o,es,ep,ho,t1,t2,t3,KT.all I.hok ktH,t4⟩;have hz:ts.length<=AL:=by rw[<-Paired.length kt];exact z
 obtain⟨⟨k',b,w'⟩,hj,e1,_,rw'⟩:=vI kt hn;have e1:k=k':=e1;subst e1;refine call_meetsIn aBb dd.typeIs PySem.F.entry_dict_pop (PySem.F.args_dict_pop_2 _ _) (aCy (Ah<|eI X.prog X.w) l ad) ⟨Ae hu,k,ts,n,(b,w'),mM I.hok<|sF _ _ ha,dd,hz,hj,λh' dd' hsm=> ?_⟩;obtain⟨q,es',ep',hq,u2,u3,u4,_,u5⟩:=dd';have I4:=pO (t':=s.toks+(Ah<|eI X.prog X.w).draws k) I (ob:=exO l q) (by rw[hl];exact True.intro) hsm ⟨q,hq⟩<|qL hq;exact⟨y,_,I4,rw',q1 q (λv z=>by rw[u3] at z;cases z) ⟨by have:=List.length_eraseIdx_le kvs n;omega,hm,_,rB n kt,es',ep',u2,u3,u4,u5⟩⟩
variable {e:Expr}{l:BE}{ls:List BE}{ks:List (List Key)}{dss:List (List D)}
theorem aJL(i:Nat)(hg:Gl X "len")(hm:X.mg "len"=none)(hs:sd[i]? =some (odG X.prog X.w X.K l ks ls dss))(hx:PE X (.Name x p2) (iT i))(hst:AB [.Name x p2] X.env=(false,eval (.Name x p2) X.env)::AB [] X.env:=by rfl):PEd X sd (.Call (.Name "len" p) [.Name x p2] [] pos) (.val<|.int (ks.length:Nat)):=.mk λσ F H S=>
 (sG aFC hg hm PySem.boot_len (dA hx pa_nil hst) (by decide) (by decide) hst rfl).to (by
  obtain⟨hv,hF,⟨o,g1,nc,hl,z,sm,xs,kt,es,ep,t1,t2,t3,t4⟩,hI,nd⟩:=iD S hs;refine⟨.ref l,hv,l,o,es,ep,rfl,g1,t1,t2,sm, ?_,F,S,Same.refl _, ?_⟩
  ·have:=Av t3;have e2:=Paired.length kt;omega
  ·have:=Av t3;have e2:=Paired.length kt;have e3:(ks.zip<|ls.map V.ref).length=ks.length:=by rw[jQ,aC,hl,pG]
   simp only[ResOk,Rep]
   rw[this,<-e2,e3])
theorem aEa{F:Hp}:∀ {kvs:List (List Key×V)}{xs:List (List Key×BE×BC)},KT F kvs xs->Vals (xs.map λq=>V.ref q.2.1) (xs.map λq=>Value.ref q.2.1)
 |_,_,.nil=>.nil
 |_,_,.cons _ t=>.cons rfl<|aEa t
theorem aIm{K:aA}{F:Hp}:∀ {kvs:List (List Key×V)}{xs:List (List Key×BE×BC)},KT F kvs xs->RepL K F ((kvs.map (·.1)).map nY) (xs.map λq=>V.ref q.2.1)
 |_,_,.nil=>.nil
 |_,_, @Paired.cons _ _ _ p q _ _ r t=>by refine .cons ?_ (aIm t);simp only[nY,Rep];refine⟨q.2.1,p.1.map kV,rfl,r.2.1, ?_⟩;exact wJ _
theorem aHy(i:Nat)(hg:Gl X "list")(hm:X.mg "list"=none)(hs:sd[i]? =some (odG X.prog X.w X.K l ks ls dss))(hx:PE X (.Name x p2) (iT i))(hc:X.calm=true:=by rfl)(hst:AB [.Name x p2] X.env=(false,eval (.Name x p2) X.env)::AB [] X.env:=by rfl):PEd X sd (.Call (.Name "list" p) [.Name x p2] [] pos) (.own<|ks.map nY):=.mk λσ F H S pins s I=>by
 obtain⟨hv,hF,⟨o,g1,nc,hl,z,sm,xs,kt,es,ep,t1,t2,t3,t4⟩,hI,nd⟩:=iD S hs;refine AQ<|lP I hg hm PyProof.Rows.boot_list ?_;refine PyProof.Rows.callWith_type1 (thn ((dA hx pa_nil hst) pos pins s σ H (λus H1=>us=[.ref l]/\H1=H) I ⟨.ref l,hv,rfl,rfl⟩) λus s1 hus=> ?_) hst rfl;obtain⟨ws,H1,I1,rv,rfl,rfl⟩:=hus;obtain⟨u,rfl,ru⟩:=qI rv;cases(show u=Value.ref l from ru);have ez:es.size=xs.length:=Av t3
 have e3:(ks.zip<|ls.map V.ref).map (·.1)=ks:=by rw[List.map_fst_zip];rw[aC];omega
 have e2:xs.length=ks.length:=by have:=Paired.length kt;rw[jQ,aC] at this;omega
 have ho:s1.heap.get? l=some o:=(I1.hok l _ g1).1;refine PySem.W.kdl_call (srcD sm t1 t2) (I1.ok.hd hc) ho (by have:=Paired.length kt;omega) λh' tk acc c' kp gl it=> ?_
 have al:acc=(xs.map λq=>Value.ref q.2.1).toArray:=by
  apply uG.mp;apply nD;intro j
  by_cases hj:j<acc.toList.length
  ·have e4:acc.toList[j]? =some acc.toList[j]:=by simp[hj]
   obtain⟨u,q,ev⟩:=it.2 j acc.toList[j] (by rw[<-dL];exact e4);rw[e4,ev];rw[<-dL,t3,aW] at q;obtain⟨y,hy,ey⟩:=eY.mp q;rw[<-ey];simp[hy,entryOfKey]
  ·have a1:acc.toList.length=es.size:=by rw[cS];exact it.1
   rw[iH<|by omega,iH<|by simp;omega]
 subst al;have le2:s1.heap.objs.size<=s1.heap.objs.size:=aN _;have hD:H1 s1.heap.objs.size=none:=I1.hok.fresh le2
 have I4:Inv X pins σ (upd H1 s1.heap.objs.size (.lst<|xs.map λq=>V.ref q.2.1)) {s1 with heap:=h',toks:=tk}:=
  I1.laid kp le2 ⟨by rw[aC];have:=Paired.length kt;omega,_,c',aEa kt,gl⟩
 obtain⟨S4,fp,no⟩:=S.layO (xs:=xs.map λq=>V.ref q.2.1) hD;refine⟨.ref s1.heap.objs.size,_,I4,rfl,F,S4,Same.refl _,_,_,rfl,fp,bK, ?_,no⟩;have:=aIm (K:=X.K) kt;rw[e3] at this;exact this
noncomputable def jZ(ds:List D):Nat:=Ad (λi k=>dlt (ds.getD i .non)<|ds.getD k .non)<|ds.length-1
structure aJs(X:Cx)(ds:List D):Prop where
 ne:0<ds.length
 cmp:∀d∈ds,∀d2∈ds,rH d d2=true
 pl:∀d∈ds,pl d=true
 dep:∀d∈ds,X.A.units+1+dep d<AS
theorem aEN(hc:X.calm=true):mG X (.builtin "min") (λvs H Q=>∃ (a:BE) (xs:List V) (ds:List D),vs=[.ref a]/\SqL X.K H a xs/\RepL X.K H ds xs/\aJs X ds/\∀v,xs[jZ ds]? =some v->Q v H):=by
 intro pins s σ H vs us Q I r h;obtain⟨a,xs,ds,rfl,ha,rl,M,q⟩:=h;obtain⟨u,rfl,rx⟩:=qI r;cases(show u=Value.ref a from rx);obtain⟨its,rv,p,hz⟩:=I.list ha;have hl:=rv.length;have hd:=rl.len;have isl:s.heap.IsList a its.toArray:=p.isList;have alt:a<s.heap.objs.size:=by obtain⟨o,ho,_⟩:=isl;exact aR ho
 refine aES<|wpAny_pyIter_list isl ?_;refine⟨s.heap.objs.size,[s.heap.objs.size,a],[s.heap.objs.size],its.toArray.size,_,_,λh=>HOk X.prog X.w H h,λi k=>dlt (ds.getD i .non)<|ds.getD k .non,rfl,Walks.list (A:=X.A.in1) (I.ok.hd hc) _ a (bW alt) its.toArray,⟨⟨_,bL _ rfl,rfl,rfl⟩,isl.push _⟩,λb hb=> ?_,by simp;have:=M.ne;omega, ?_, ?_, ?_,λv h' tk pv k=> ?_⟩
 ·rw[mI];simp only[bD,fE,or_false] at hb
  rcases hb with rfl|rfl
  ·exact gS _
  ·exact nH alt
 ·intro i k x y t Q' E' hJ hx hy q';have hx:its[i]? =some x:=by simpa using hx
  have hy:its[k]? =some y:=by simpa using hy
  have li:i<ds.length:=by have:=(aE.mp hx).1;omega
  have lk:k<ds.length:=by have:=(aE.mp hy).1;omega
  have ei:ds[i]? =some (ds.getD i .non):=by simp[cG,li]
  have ek:ds[k]? =some (ds.getD k .non):=by simp[cG,lk]
  obtain⟨v1,g1,r1⟩:=rl.get ei;obtain⟨v2,g2,r2⟩:=rl.get ek;obtain⟨u1,w1,z1⟩:=rv.get g1;obtain⟨u2,w2,z2⟩:=rv.get g2;rw[hx] at w1;rw[hy] at w2;cases w1;cases w2;have mi:=bA ei;have mk:=bA ek;exact aIz hJ (ds.getD i .non) (M.cmp _ mi _ mk) (M.pl _ mi) (M.pl _ mk) r1 r2 z1 z2 (by have:=M.dep _ mi;simp only[Around.in1];omega) X.prog X.w _ _ q'
 ·exact aAv (cs:=[]) I.hok (λb u _ g=>aD _ g) λb hb=>by cases hb
 ·intro h1 h2 j1 kp;refine aAv (cs:=[s.heap.objs.size+1,s.heap.objs.size]) j1 (λb u hb g=>kp b u (λz=>hb ?_) g) λb hb=> ?_
  ·rw[mI] at z;exact z
  ·simp only[bD,fE,or_false] at hb
   rcases hb with rfl|rfl
   ·exact I.hok.fresh<|hW _
   ·exact I.hok.fresh<|aN _
 ·have eb:Ad (λi k=>dlt (ds.getD i .non)<|ds.getD k .non) (its.toArray.size-1)=jZ ds:=by unfold jZ;rw[bC];congr 1;omega
  rw[eb] at pv;have pv:its[jZ ds]? =some v:=by simpa using pv
  have lb:jZ ds<xs.length:=by have:=(aE.mp pv).1;omega
  have ex:xs[jZ ds]? =some xs[jZ ds]:=by simp[lb]
  obtain⟨u,hu,ru⟩:=rv.get ex;rw[pv] at hu;cases hu;refine⟨xs[jZ ds],H,I.kept (t':=tk) λb o g=>k b o (λz=> ?_)<|aD _ g,ru,q _ ex⟩;have zb:b=s.heap.objs.size:=by simpa using z
  exact bW (aR g) zb
theorem aKr{d:D}(hg:Gl X "min")(hm:X.mg "min"=none)(ha:PEd X sd e (.bor ds))(M:aJs X ds)(hd:ds[jZ ds]? =some d)(hc:X.calm=true:=by rfl)(hst:AB [e] X.env=(false,eval e X.env)::AB [] X.env:=by rfl):PEd X sd (.Call (.Name "min" p) [e] [] pos) (.val d):=
 mX (he:=hst) (aEN hc) hg hm boot_min (aB ha aK trivial hst) λσ F H vs Q S q k=>by
  cases q with
  |cons q1 q2=>cases q2;obtain⟨p,xs,rfl,hp,rl,_⟩:=q1;refine⟨p,xs,ds,rfl,.of hp,rl.mono S.sub,M,λv hv=>k v F H S (Same.refl _) ?_⟩;obtain⟨v',g,r'⟩:=rl.get hd;rw[hv] at g;cases g;exact r'
theorem zJ{α β:Type}:∀ (a:List α) (b:List β) (n:Nat),a.length=b.length->(a.zip b).eraseIdx n=(a.eraseIdx n).zip (b.eraseIdx n)
 |[],[],_,_=>by simp
 |_::_,[],_,h=>by simp at h
 |[],_::_,_,h=>by simp at h
 |x::a,y::b,0,_=>rfl
 |x::a,y::b,n+1,h=>by show(x,y)::(a.zip b).eraseIdx n=(x,y)::(a.eraseIdx n).zip (b.eraseIdx n);rw[zJ a b n<|by simpa using h]
theorem yU{α β:Type}(f:α->β):∀ (l:List α) (n:Nat),(l.eraseIdx n).map f=(l.map f).eraseIdx n
 |[],_=>by simp
 |_::_,0=>rfl
 |x::l,n+1=>by show f x::(l.eraseIdx n).map f=f x::(l.map f).eraseIdx n;rw[yU f l n]
theorem aFh{j:Nat}{z:Slot}{a:BE}(h:sd[j]? =some z)(ha:a∈fK z):a∈cA sd:=dY.mpr ⟨z,bA h,ha⟩
variable {K:aA}{H₀ F F' H H':Hp}{σ:St}{i:Nat}{P:AE}
theorem StF.popG{o:BH}(n:Nat)(S:StF K H₀ F H σ sd)(hs:sd[i]? =some (odG P w K l ks ls dss))(nc:∀v,o.data≠ .cell v)(td:TDo P w F l o ((ks.zip<|ls.map V.ref).eraseIdx n)):
  StF K H₀ F (upd H l<|exO l o) σ (sd.set i (odG P w K l (ks.eraseIdx n) (ls.eraseIdx n)<|dss.eraseIdx n)):=by
 obtain⟨g1,g2,⟨o',g3,nc',hl,_⟩,g4,g5⟩:=iD S hs;obtain⟨n1,n2⟩:=bV.mp g5
 have sb:∀b,b∈l::ls.eraseIdx n->b∈l::ls:=λb hb=>by
  rcases bD.mp hb with h|h
  ·exact h▸aJ
  ·exact aF _<|jN h
 refine S.reX (z':=odG P w K l (ks.eraseIdx n) (ls.eraseIdx n)<|dss.eraseIdx n) hs g1 (λb ob hb q=> ?_) (nA S.smp l) (wO (λb hb=>g2 b<|sb b hb) bK nc ?_ ?_ ?_) ?_ λb hb=>.inl<|sb b hb
 ·rw[aV (show b≠l from λz=>hb<|z▸aJ)];exact q
 ·rw[aFX,aFX,hl]
 ·rw[yU,<-zJ _ _ _ (by rw[aC];exact hl)];exact td
 ·refine InD.erase n<|g4.mono2 (Same.refl _) λb hb ob q=> ?_;rw[aV (show b≠l from λz=>n1<|z▸hb)];exact q
 ·show(l::ls.eraseIdx n).Nodup;exact bV.mpr ⟨λh=>n1<|jN h,n2.sublist<|pY _ _⟩
open PySem.W (kat_lt kat_kind KatTups KatLex)
noncomputable abbrev Pr2:=List Int×List Int
noncomputable def p2D(x:Pr2):D:=.tup [bS x.1,bS x.2]
theorem aPg(x:Pr2):pl (p2D x)=true:=by show(pl (bS x.1)&&(pl (bS x.2)&&true))=true;rw[rX,rX];rfl
theorem xK:∀a b:List Int,xW (a.map D.int) (b.map D.int)=true
 |[],_=>rfl
 |_::_,[]=>rfl
 |x::a,y::b=>by show(true&&xW (a.map D.int) (b.map D.int))=true;rw[xK a b];rfl
theorem aNk(x y:Pr2):xW [bS x.1,bS x.2] [bS y.1,bS y.2]=true:=by show(xW (x.1.map D.int) (y.1.map D.int)&&(xW (x.2.map D.int) (y.2.map D.int)&&true))=true;rw[xK,xK];rfl
theorem aBG{x:List Int}{v:V}(h:Rep K F (bS x) v):∃c,v=.ref c/\F c=some (.tup<|x.map V.int):=by simp only[bS,Rep] at h;obtain⟨c,ys,rfl,e,r⟩:=h;have:=(show RepL K F (x.map D.int) ys from r).ints;subst this;exact⟨c,rfl,e⟩
theorem aAF:∀ {x y:List Int},x.map V.int=y.map V.int->x=y
 |[],[],_=>rfl
 |[],_::_,h=>by cases h
 |_::_,[],h=>by cases h
 |a::x,b::y,h=>by
  rw[aZ,aZ] at h;injection h with h1 h2
  injection h1 with h1
  rw[h1,aAF h2]
theorem aIG{x:Pr2}{v:V}(h:Rep K F (p2D x) v):∃a c d,v=.ref a/\F a=some (.tup [.ref c,.ref d])/\F c=some (.tup<|x.1.map V.int)/\F d=some (.tup<|x.2.map V.int):=by simp only[p2D,Rep] at h;obtain⟨a,ys,rfl,e,r⟩:=h;obtain⟨v1,ys1,rfl,r1,t1⟩:=r.uncons;obtain⟨v2,ys2,rfl,r2,t2⟩:=t1.uncons;simp only[RepL] at t2;subst t2;obtain⟨c,rfl,f1⟩:=aBG r1;obtain⟨d,rfl,f2⟩:=aBG r2;exact⟨a,c,d,rfl,e,f1,f2⟩
theorem aCW{x y:Pr2}{v:V}(h:Rep K F (p2D x) v)(g:Rep K F (p2D y) v):x=y:=by obtain⟨a,c,d,rfl,e,f1,f2⟩:=aIG h;obtain⟨a',c',d',ea,e',f1',f2'⟩:=aIG g;cases ea;rw[e] at e';cases e';rw[f1] at f1';rw[f2] at f2';have h1:=aAF (HO.tup.inj<|bZ.inj f1');have h2:=aAF (HO.tup.inj<|bZ.inj f2');exact Prod.ext h1 h2
structure SrtP(A:BF)(ps:List Pr2)(rk:Pr2->Nat):Prop where
 len:ps.length<=10000
 lt:∀x∈ps,∀y∈ps,dlt (p2D x) (p2D y)=decide (rk x<rk y)
 nd:(ps.map rk).Nodup
 un:A.units+8<AS
theorem aMN(x:Pr2):dep (p2D x)=2:=by show max (dep<|bS x.1) (max (dep<|bS x.2) 0)+1=2;rw[wX,wX];rfl
noncomputable def srE{α:Type}(hd:α->List D)(sn:α->D)(x:α):D:=.tup [.tup<|hd x,sn x]
structure aPQ{α:Type}(A:BF)(K:aA)(hd:α->List D)(sn:α->D)(ps:List α)(rk:α->Nat):Prop where
 len:ps.length<=10000
 lt:∀x∈ps,∀y∈ps,qF [.tup<|hd x,sn x] [.tup<|hd y,sn y]=decide (rk x<rk y)
 nd:(ps.map rk).Nodup
 un:A.units+8<AS
 pl:∀x∈ps,plL [.tup<|hd x,sn x]=true
 cm:∀x∈ps,∀y∈ps,xW [.tup<|hd x,sn x] [.tup<|hd y,sn y]=true
 dp:∀x∈ps,lI [.tup<|hd x,sn x]<=4
 inj:∀ (F:Hp) (x y:α) (v:V),Rep K F (srE hd sn x) v->Rep K F (srE hd sn y) v->x=y
theorem aEB{v:V}(h:Rep K F (.tup ds) v):∃a,v=.ref a:=by simp only[Rep] at h;obtain⟨a,_,rfl,_⟩:=h;exact⟨a,rfl⟩
variable {α:Type}{hd:α->List D}{sn:α->D}
theorem aCz:mG X (.builtin "sorted") (fun vs H Q=>∃ (a:BE) (xs:List V) (ps:List α) (rk:α→Nat),vs=[.ref a]∧H a=some (.lst xs)∧RepL X.K H (ps.map (srE hd sn)) xs∧aPQ X.A X.K hd sn ps rk∧
  ∀ (D:BE) (ys:List V) (qs:List α),H D=none->qs.Perm ps->(qs.map rk).Pairwise (·<·)->(∀F,RepL X.K F (ps.map (srE hd sn)) xs->RepL X.K F (qs.map (srE hd sn)) ys)->Q (.ref D) (upd H D (.lst ys))):=by
 intro pins s σ H vs us Q I r h;obtain⟨a,xs,ps,rk,rfl,ha,rl,M,q⟩:=h;obtain⟨u,rfl,rx⟩:=qI r;cases(show u=Value.ref a from rx);obtain⟨z,its,n,rv,hl2,eo⟩:=I.lstM ha
 have tb:∀ {ps:List α}{xs:List V}{us:List BC},RepL X.K H (ps.map<|srE hd sn) xs->Vals xs us->∃T:List (α×BE),us=(T.map λr=>Value.ref r.2)/\xs=(T.map λr=>V.ref r.2)/\ps=(T.map λr=>r.1)/\∀r∈T,Rep X.K H ((srE hd sn) r.1) (.ref r.2):=by
  intro ps
  induction ps with
  |nil=>intro xs us r rv;rw[eO] at r;simp only[RepL] at r;subst r;cases rv;exact⟨[],rfl,rfl,rfl,λr h=>(fE h).elim⟩
  |cons x ps ih=>
   intro xs us r rv;rw[aZ] at r;obtain⟨v,xs,rfl,a,rl⟩:=r.uncons;cases rv with
   |cons ru rv=>
    obtain⟨T,e1,e2,e3,t1⟩:=ih rl rv;obtain⟨b,rfl⟩:=aEB a;cases ru;refine⟨(x,b)::T,by rw[aZ,<-e1],by rw[aZ,<-e2],by rw[aZ,<-e3],λr hr=> ?_⟩
    rcases bD.mp hr with rfl|hr
    ·exact a
    ·exact t1 r hr
 obtain⟨T,rfl,rfl,rfl,tr⟩:=tb rl rv
 obtain⟨rkW,hrk⟩:∃rkW:BC->Nat,∀r∈T,rkW (.ref r.2)=rk r.1:=by
  classical
  refine⟨λv=>if h:∃r∈T,v=Value.ref r.2 then rk h.choose.1 else 0,λr hr=> ?_⟩;have h:∃r'∈T,Value.ref r.2=Value.ref r'.2:=⟨r,hr,rfl⟩;show(if h:∃r'∈T,Value.ref r.2=Value.ref r'.2 then rk h.choose.1 else 0)=_;rw[dif_pos h]
  have e2:r.2=h.choose.2:=by have:=h.choose_spec.2;injection this
  have r2:=tr _ h.choose_spec.1;rw[<-e2] at r2;rw[M.inj _ _ _ _ r2<|tr r hr]
 have mT:∀ {r:α×BE},r∈T->r.1∈T.map λr=>r.1:=λh=>List.mem_map_of_mem (f:=λr:α×BE=>r.1) h
 have lT:T.length<=10000:=by simpa using M.len
 have mv:∀x∈(T.map λr=>Value.ref r.2),∃r∈T,x=Value.ref r.2:=λx hx=>by obtain⟨r,hr,e⟩:=aP.mp hx;exact⟨r,hr,e.symm⟩
 have ew:∀T':List (α×BE),(∀r∈T',r∈T)->(T'.map λr=>Value.ref r.2).map rkW=(T'.map λr=>r.1).map rk:=λT' h=>by rw[aU,aU];exact cK λr hr=>hrk r<|h r hr
 have hok':∀t:BD,(∀b o,s.heap.get? b=some o->t.heap.get? b=some o)->HOk X.prog X.w H t.heap:=λt k=>aAv (cs:=[]) I.hok (λb u _ g=>k b u g) λb hb=>(fE hb).elim
 refine aCo (l:=a) (vs:=T.map λr=>Value.ref r.2) (κ:=tuples' false) (rk:=rkW) ⟨_,eo,rfl,n,rfl⟩ (by rw[ew T λ_ h=>h];exact M.nd) (by rw[aC];exact lT) (λt kp h2 A' R E' _ hR=> ?_) (λt kp x hx y hy A' R E' hA hR=> ?_) λout p1 p2=> ?_
 ·have ok:=hok' t kp
  have kt:∀T':List (α×BE),(∀r∈T',r∈T)->∃fs:List BC,KatTups t.heap (T'.map λr=>Value.ref r.2) fs/\fs.length=T'.length/\∀v∈fs,∃c o,v=.ref c/\t.heap.get? c=some o/\o.cls=.type "tuple":=λT'=>by
   induction T' with
   |nil=>exact λ_=>⟨[],.nil,rfl,λv hv=>(fE hv).elim⟩
   |cons r T' ih=>
    intro h;obtain⟨fs,k,l,i⟩:=ih λr hr=>h r<|aF _ hr
    have rr:=tr r<|h r aJ;obtain⟨b,ys,its,e1,e2,r2,v2,o,g,c,n',hd1⟩:=jI ok rr (show RelV (.ref r.2) (.ref r.2) from rfl);cases e1;cases e2;have r2:RepL X.K H [.tup<|hd r.1,sn r.1] ys:=r2;obtain⟨w1,ys1,rfl,q1,t1⟩:=r2.uncons;obtain⟨w2,ys2,rfl,q2,t2⟩:=t1.uncons;simp only[RepL] at t2;subst t2;obtain⟨c1,rfl⟩:=aEB q1;cases v2 with
    |cons ru1 v2=>
     cases ru1;obtain⟨b1,ys1,its1,e3,e4,_,_,o1,g1,cc1,_⟩:=jI ok q1 (show RelV (.ref c1) (.ref c1) from rfl);cases e3;refine⟨.ref c1::fs,KatTups.cons g c hd1 (by simp) k,by rw[bF,bF,l],λv hv=> ?_⟩
     rcases bD.mp hv with rfl|hv
     ·cases e4;exact⟨_,o1,rfl,g1,cc1⟩
     ·exact i v hv
  obtain⟨fs,k,l,i⟩:=kt T λ_ h=>h
  rw[aC] at h2;refine kat_kind (T:=.type "tuple") k (by omega) (λv hv=> ?_) rfl hR;obtain⟨c,o,rfl,g,e⟩:=i v hv;have:PySem.W.Looks (AH X.prog X.w) t.heap (typeOf<|.ref c) o.cls:=(PySem.W.Looks.ld g).andThen .now;rw[e] at this;exact this
 ·have ok:=hok' t kp;obtain⟨rx,hrx,rfl⟩:=mv x hx;obtain⟨ry,hry,rfl⟩:=mv y hy;obtain⟨b,ys,its,e1,e2,r2,v2,o,g,c,n',hd1⟩:=jI ok (tr rx hrx) (show RelV (.ref rx.2) (.ref rx.2) from rfl);cases e1;cases e2;obtain⟨b',ys',its',e1,e2,r2',v2',o',g',c',n'',hd'⟩:=jI ok (tr ry hry) (show RelV (.ref ry.2) (.ref ry.2) from rfl);cases e1;cases e2;have r2:RepL X.K H [.tup<|hd rx.1,sn rx.1] ys:=r2;have r2':RepL X.K H [.tup<|hd ry.1,sn ry.1] ys':=r2';have l1:its.length=2:=by rw[<-v2.length,r2.len];rfl
  have l2:its'.length=2:=by rw[<-v2'.length,r2'.len];rfl
  refine kat_lt g hd1 g' hd'<|aKf (A:=A') (b:=qF [.tup<|hd rx.1,sn rx.1] [.tup<|hd ry.1,sn ry.1]) ?_ ?_
  ·refine aDD ok [.tup<|hd rx.1,sn rx.1] (es:=[.tup<|hd ry.1,sn ry.1]) ?_ ?_ ?_ r2 r2' v2 v2' ?_ (by simp[l1,l2])
   ·exact M.cm _ (mT hrx) _<|mT hry
   ·exact M.pl _<|mT hrx
   ·exact M.pl _<|mT hry
   ·have:=M.un;have:=M.dp _<|mT hrx;omega
  ·have e:qF [.tup<|hd rx.1,sn rx.1] [.tup<|hd ry.1,sn ry.1]=decide (rkW (.ref rx.2)<rkW (.ref ry.2)):=by rw[hrk rx hrx,hrk ry hry];exact M.lt _ (mT hrx) _ (mT hry)
   rw[e];exact hR
 ·obtain⟨T',q1,q2⟩:=aAd (f:=λr:α×BE=>Value.ref r.2) (l:=T) (l':=out.toList) p1
  have eo2:out=(T'.map λr=>Value.ref r.2).toArray:=by apply uG.mp;rw[q2]
  rw[q2,ew T' λr hr=>q1.mem_iff.mp hr] at p2;subst eo2;obtain⟨kp,n2,g2⟩:=aGV s.heap (T.map λr=>Value.ref r.2) (T'.map λr=>Value.ref r.2).toArray;have hD:H (s.heap.objs.size+1)=none:=I.hok.fresh<|hW _;have lT':T'.length=T.length:=q1.length_eq
  have vv:Vals (T'.map λr=>V.ref r.2) (T'.map λr=>Value.ref r.2):=by
   generalize T'=U
   induction U with
   |nil=>exact .nil
   |cons r U ih=>exact .cons rfl ih
  have I3:Inv X pins σ (upd H (s.heap.objs.size+1) (.lst<|T'.map λr=>V.ref r.2)) {s with heap:=sortedAll s.heap (T.map λr=>Value.ref r.2) (T'.map λr=>Value.ref r.2).toArray}:=
   I.laid (t':=s.toks) kp (hW _) ⟨by rw[Aq,aC];omega,_,n2,vv,by simpa[Aj] using g2⟩
  refine⟨.ref<|s.heap.objs.size+1,_,I3,rfl,q _ (T'.map λr=>V.ref r.2) (T'.map λr=>r.1) hD (q1.map _) p2 λF rF=> ?_⟩
  have all:∀ {U:List (α×BE)},RepL X.K F ((U.map λr=>r.1).map<|srE hd sn) (U.map λr=>V.ref r.2)->∀r∈U,Rep X.K F ((srE hd sn) r.1) (.ref r.2):=λ{U}=>by
   induction U with
   |nil=>exact λ_ r hr=>(fE hr).elim
   |cons y U ih=>
    intro h r hr;rw[aZ,aZ,aZ] at h;obtain⟨v,vs,e,a1,a2⟩:=h.uncons;cases e
    rcases bD.mp hr with rfl|hr
    ·exact a1
    ·exact ih a2 r hr
  have aT:=all rF;have rT:∀r∈T',Rep X.K F ((srE hd sn) r.1) (.ref r.2):=λr hr=>aT r<|q1.mem_iff.mp hr
  clear vv I3 g2 p2 q1 q2 p1 lT' kp
  induction T' with
  |nil=>exact .nil
  |cons r U ih=>exact .cons (rT r aJ) (ih λq hq=>rT q<|aF _ hq)
theorem SrtP.gen{ps:List Pr2}{rk:Pr2→Nat}(M:SrtP A ps rk):aPQ A K (fun x:Pr2=>x.1.map D.int) (fun x=>bS x.2) ps rk:=⟨M.len,M.lt,M.nd,M.un,fun x _=>aPg x,fun x _ y _=>aNk x y,fun x _=>by
 have:=aMN x;have:lI [bS x.1,bS x.2]+1=2:=this;show lI [bS x.1,bS x.2]<=4
 omega,λF x y v h1 h2=>aCW h1 h2⟩
theorem aCS:mG X (.builtin "sorted") (fun vs H Q=>∃ (a:BE) (xs:List V) (ps:List Pr2) (rk:Pr2→Nat),vs=[.ref a]∧H a=some (.lst xs)∧RepL X.K H (ps.map p2D) xs∧SrtP X.A ps rk∧
  ∀ (D:BE) (ys:List V) (qs:List Pr2),H D=none->qs.Perm ps->(qs.map rk).Pairwise (·<·)->(∀F,RepL X.K F (ps.map p2D) xs->RepL X.K F (qs.map p2D) ys)->Q (.ref D) (upd H D (.lst ys))):=by
 intro pins s σ H vs us Q I r h;obtain⟨a,xs,ps,rk,h1,h2,h3,M,q⟩:=h;exact aCz pins s σ H vs us Q I r ⟨a,xs,ps,rk,h1,h2,h3,M.gen,q⟩
variable {k:List Key}{E:iA}{ps:List Pr2}{rk:Pr2->Nat}
theorem aGT(i j n:Nat){y:Str}{px py ap:Pos}(hu:X.A.units+1<AS)(hg:Gl X "sorted")(hm:X.mg "sorted"=none)(hs:sd[i]? =some (odG X.prog X.w X.K l ks ls dss))(hx:PE X (.Name x px) (iT i))(hb:PEd X sd b (.val (.tup<|k.map kD)))(hk:ks[n]? =some k)(hd:dss[n]? =some (ps.map p2D))(M:SrtP X.A ps rk)
  (hN:X.N.Nodup) (hj:X.N[j]? =some y) (hy:Loc X.env.scope y)
  (hE:∀ (l':BE) (qs:List Pr2),qs.Perm ps->(qs.map rk).Pairwise (·<·)->E.nx ((sd.set i (odG X.prog X.w X.K l (ks.eraseIdx n) (ls.eraseIdx n)<|dss.eraseIdx n)).set j (.own l'<|qs.map p2D)))
  (hpop:PE X (.Call (.Attribute (.Name x px) "pop" ap) [b] [] cp) (λσ H Q=>iT i σ H λv H1=>(∃l ob,v=.ref l/\H1 l=some (exO l ob)/\ob.ExactDict)/\(oP (wE X b) aGi) σ H1 λxs H2=>aPY X v xs H2 Q):=by exact aMm zW aBb PySem.F.type_dict_pop aNi (pv _) (dA eK pa_nil))
  (hst:AB [.Call (.Attribute (.Name x px) "pop" ap) [b] [] cp] X.env=(false,eval (.Call (.Attribute (.Name x px) "pop" ap) [b] [] cp) X.env)::AB [] X.env:=by rfl)
  (hsw:Ab (.Call (.Name "sorted" p) [.Call (.Attribute (.Name x px) "pop" ap) [b] [] cp] [] p2) (some<|.Name y py) pos.line X.env=pure false:=by rfl)
  (hf:X.fn y=true\/X.env.scope.names.lookup y=some .local:=by first|exact .inl rfl|exact .inr rfl|assumption):
  PSd1 X sd (.Assign [.Name y py] (.Call (.Name "sorted" p) [.Call (.Attribute (.Name x px) "pop" ap) [b] [] cp] [] p2) pos) E:=.mk λσ F H S=>
 (qM hN hj hy (sG aCS hg hm boot_sorted (dA hpop pa_nil hst) (by decide) (by decide) hst rfl) hsw hf).to (by
  obtain⟨h1,h2,⟨o,h3,nc,hk2,td⟩,h4,h5⟩:=iD S hs;refine⟨.ref l,h1,⟨l,o,rfl,h3,td.2.2.choose_spec.2.choose_spec.choose_spec.1⟩,(hb σ F H S).imp λv1 H1 ⟨F1,S1,s1,q1⟩=> ?_⟩;obtain⟨g1,g2,⟨o2,g3,nc2,hk3,td2⟩,g4,g5⟩:=iD S1 hs;obtain⟨n1,n2⟩:=bV.mp g5;simp only[ResOk,Rep] at q1;obtain⟨ad,ys,rfl,ha,rl⟩:=q1;rw[oM rl] at ha;have nl:n<ls.length:=by have:=(aE.mp hk).1;omega
  have e3:ls[n]? =some ls[n]:=by simp[nl]
  generalize ls[n]=an at e3;obtain⟨ds,xs,d1,d2,d3⟩:=g4.get e3;rw[hd] at d1;cases d1;have anl:an≠l:=λz=>n1<|z▸bA e3
  have zg:(ks.zip<|ls.map V.ref)[n]? =some (k,V.ref an):=by rw[aAi];exact⟨hk,by rw[aW,e3];rfl⟩
  refine⟨F1,l,ad,k,.ref an,n,o2,ks.zip<|ls.map V.ref,rfl,rfl,S1.sub,g3,ha,hu,td2,zg,λo' nc' td'=> ?_⟩;have S2:=S1.popG n hs nc' td';refine⟨an,xs,ps,rk,rfl,by rw[aV anl];exact d2,d3.mono S2.sub,M,λD ys qs hD pm pw hr=> ?_⟩;obtain⟨S3,fp,no⟩:=S2.layO (xs:=ys) hD
  exact⟨_,F1,S3.setO j fp bK (hr F1 d3) no,s1,hE D qs pm pw⟩)
theorem InD.snocL{K:aA}{F H:Hp}{a:BE}{ds:List D}{xs:List V}:∀ {as:List BE}{dss:List (List D)},InD K F H as dss->H a=some (.lst xs)->RepL K F ds xs->InD K F H (as++[a]) (dss++[ds])
 |[],[],_,e,r=>⟨⟨xs,e,r⟩,trivial⟩
 |[],_::_,h,_,_=>h.elim
 |_::_,[],h,_,_=>h.elim
 |_::_,_::_,h,e,r=>⟨h.1,InD.snocL h.2 e r⟩
theorem StF.newW{a:BE}{o:BH}{xs:List V}(S:StF K H₀ F H σ sd)(hs:sd[i]? =some (odG P w K l ks ls dss))(fa:F a=none)(ha:H a=some (.lst xs))(rl:RepL K F ds xs)(na:a∉cA sd)(nc:∀v,o.data≠ .cell v)(td:TDo P w F l o (ks.zip (ls.map V.ref)++[(k,.ref a)])):
  StF K H₀ F (upd H l<|exO l o) σ (sd.set i (odG P w K l (ks++[k]) (ls++[a])<|dss++[ds])):=by
 obtain⟨g1,g2,⟨o',g3,nc',hl,_⟩,g4,g5⟩:=iD S hs;obtain⟨n1,n2⟩:=bV.mp g5;have ml:∀b∈l::ls,b∈cA sd:=λb hb=>aFh hs hb
 have al:a≠l:=λz=>na<|z▸ml l aJ
 have als:a∉ls:=λz=>na (ml a<|aF _ z)
 have sp:∀b,b∈l::(ls++[a])->b∈l::ls\/b=a:=λb hb=>by
  rcases bD.mp hb with h|h
  ·exact .inl<|h▸aJ
  ·rcases aS.mp h with h|h
   ·exact .inl<|aF _ h
   ·exact .inr<|aI.mp h
 refine S.reX (z':=odG P w K l (ks++[k]) (ls++[a])<|dss++[ds]) hs g1 (λb ob hb q=> ?_) (nA S.smp l) (wO (λb hb=> ?_) bK nc (by rw[aH,aH,hl];rfl) ?_ ?_) ?_ λb hb=> ?_
 ·rw[aV (show b≠l from λz=>hb<|z▸aJ)];exact q
 ·rcases sp b hb with h|rfl
  ·exact g2 b h
  ·exact fa
 ·rw[aX,aZ,eO,sT<|by rw[aC];exact hl];exact td
 ·refine InD.snocL (g4.mono2 (Same.refl _) λb hb ob q=> ?_) ?_ rl
  ·rw[aV (show b≠l from λz=>n1<|z▸hb)];exact q
  ·rw[aV al];exact ha
 ·show(l::(ls++[a])).Nodup;refine bV.mpr ⟨λh=> ?_,bH.mpr ⟨n2,by simp,λb hb c hc e=>als<|aI.mp hc▸e▸hb⟩⟩
  rcases aS.mp h with h|h
  ·exact n1 h
  ·exact al (aI.mp h).symm
 ·rcases sp b hb with h|rfl
  ·exact .inl h
  ·exact .inr na
theorem aHG(i:Nat){q1 q2 tp:Pos}{c c':Int}{j1 j2 x1:Nat}(hu:X.A.units+1<AS)(hs:sd[i]? =some (odG X.prog X.w X.K l ks ls dss))(hx:PE X (.Name x p) (iT i))(h:PEd X sd e (.own ds))(hk:([Sum.inl c,Sum.inl c']:List Key)∉ks)(hl:dss.length<=10000)
  (hE:∀a,E.nx<|sd.set i (odG X.prog X.w X.K l (ks++[[Sum.inl c,Sum.inl c']]) (ls++[a])<|dss++[ds]))
  (hb:PE X (.Tuple [.Constant (.int c) j1 q1, .Constant (.int c') j2 q2] x1 tp) (aQi (oP (tC<|.int c)<|oP (tC<|.int c') aGi)):=by exact aIh (dA pe_int<|dA pe_int pa_nil))
  (hsw:Ab e (some<|.Subscript (.Name x p) (.Tuple [.Constant (.int c) j1 q1, .Constant (.int c') j2 q2] x1 tp) p2) pos.line X.env=pure false:=by rfl):PSd1 X sd (.Assign [.Subscript (.Name x p) (.Tuple [.Constant (.int c) j1 q1, .Constant (.int c') j2 q2] x1 tp) p2] e pos) E:=.mk λσ F H S pins s I=>by
 refine wpAny_Assign_Subscript (thn (h σ F H S pins s I) λr s1 ⟨v,H1,I1,rv,F1,S1,sF1,q1⟩=> ?_) hsw;obtain⟨a,xs,rfl,fa,ha,rl,na⟩:=q1;obtain rfl:r=Value.ref a:=rv;obtain⟨h1,_⟩:=iD S1 hs;refine thn (hx pins s1 σ H1 (λv H2=>v=.ref l/\H2=H1) I1 ⟨.ref l,h1,rfl,rfl⟩) λu s2 ⟨y,H2,I2,ry,e1,e2⟩=> ?_
 subst e1 e2;obtain rfl:u=Value.ref l:=ry;refine thn (hb pins s2 σ H2 (λv H3=>∃ad,v=.ref ad/\H2 ad=none/\H3=upd H2 ad (.tup [.int c,.int c'])) I2 ⟨by show 2<=AL;decide,λad had=>⟨ad,rfl,had,rfl⟩⟩) λiv s3 ⟨y,H3,I3,ry,ad,e1,fad,e3⟩=> ?_
 subst e1 e3;obtain rfl:iv=Value.ref ad:=ry;obtain⟨S3,sF3⟩:=S1.lay (o:=.tup [.int c,.int c']) fad trivial;have ada:a≠ad:=λz=>by rw[z,fad] at ha;cases ha
 have fa3:upd F1 ad (.tup [.int c,.int c']) a=none:=by rw[aV ada];exact fa
 have ha3:upd H2 ad (.tup [.int c,.int c']) a=some (.lst xs):=by rw[aV ada];exact ha
 obtain⟨g1,g2,⟨o,g3,nc,hkl,z,hm,ts,kt,es,ep,t1,t2,t3,t4⟩,g4,g5⟩:=iD S3 hs;have had:upd F1 ad (.tup [.int c,.int c']) ad=some (.tup<|([Sum.inl c,Sum.inl c']:List Key).map kV):=bK;have ho:s3.heap.get? l=some o:=(I3.hok l _ g3).1;have ktH:=kt.keeps λb ys e=>S3.sub _ _ e
 have dd:s3.heap.DictOfH (Ah<|eI X.prog X.w) l ts:=⟨o,es,ep,ho,t1,t2,t3,KT.all I3.hok ktH,t4⟩;have hz:ts.length<=AL:=by rw[<-Paired.length kt];exact z
 have zl:(ks.zip<|ls.map V.ref).length=dss.length:=by rw[jQ,aC,<-hkl,pG,hkl,g4.len]
 have vn:iX (ks.zip<|ls.map V.ref) [Sum.inl c,Sum.inl c']=none:=yI hk λ_ z=>z
 have hl2:(rG (ks.zip<|ls.map V.ref) [Sum.inl c,Sum.inl c']<|.ref a).length<=AL:=by rw[rY _ vn,aH,zl];have:=eX hl;show dss.length+1<=AL;omega
 refine wpAny_setItem_heap (hsz:=hz) (Ae hu) (mM I3.hok<|S3.sub _ _ had) dd λh' dd' hsm=> ?_
 obtain⟨q,es',ep',hq,u2,u3,u4,_,u5⟩:=dd';have I4:=pO (t':=s3.toks+(Ah<|eI X.prog X.w).draws [Sum.inl c,Sum.inl c']) I3 (ob:=exO l q) (by rw[g3];exact True.intro) hsm ⟨q,hq⟩<|qL hq;have kt':=kt.put [Sum.inl c,Sum.inl c'] had (show RelV (.ref a) (.ref a) from rfl);rw[rY _ vn] at kt' hl2;exact⟨σ,_,I4,_,_,S3.newW (o:=q) (k:=[Sum.inl c,Sum.inl c']) hs fa3 ha3 (rl.mono sF3) na (λv z=>by rw[u3] at z;cases z) ⟨hl2,hm,_,kt',es',ep',u2,u3,u4,u5⟩,sF1.trans sF3,hE a⟩
noncomputable def rkK(r:Int×Int):List Key:=[Sum.inl r.1,Sum.inl r.2]
theorem aJN{a b:Int×Int}(h:rkK a=rkK b):a=b:=by
 unfold rkK at h;injection h with h1 h2
 injection h2 with h2 _
 injection h1 with h1
 injection h2 with h2
 exact Prod.ext h1 h2
noncomputable abbrev WtT:=List<|(Int×Int)×List Pr2
structure Wt where
 l:BE
 ls:List BE
 T:WtT
noncomputable def wtK(T:WtT):List (List Key):=T.map λt=>rkK t.1
noncomputable def wtD(T:WtT):List (List D):=T.map λt=>t.2.map p2D
noncomputable def wtS(P:AE)(w:AM)(K:aA)(a:Wt):Slot:=odG P w K a.l (wtK a.T) a.ls<|wtD a.T
noncomputable def wtL(P:AE)(w:AM)(K:aA):Lent K:=⟨Wt,Wt.l,λa=>a.l::a.ls,λa=>Gg P w K a.l (wtK a.T) a.ls<|wtD a.T,λh=>h.1⟩
theorem aGW(P:AE)(w:AM)(K:aA)(a:Wt)(v:V)(F H:Hp)(b:BE)(o:HO)(h:(wtL P w K).G a v F H)(hb:b∈(wtL P w K).own a)(e:H b=some o):¬ mS o:=by
 obtain⟨_,⟨ob,g,_⟩,hI⟩:=h
 rcases bD.mp (show b∈a.l::a.ls from hb) with rfl|hb
 ·rw[g] at e;cases e;exact λz=>z
 ·obtain⟨xs,g2⟩:=InD.of hI b hb;rw[g2] at e;cases e;exact λz=>z
noncomputable def jX:WtT->Int×Int->Pr2->WtT
 |[],r,x=>[(r,[x])]
 |t::T,r,x=>if t.1=r then(t.1,t.2++[x])::T else t::jX T r x
theorem vX{r:Int×Int}(x:Pr2):∀ {T:WtT},rkK r∉wtK T->jX T r x=T++[(r,[x])]
 |[],_=>rfl
 |t::T,h=>by
  have h1:t.1≠r:=λe=>h (by unfold wtK;rw[aZ,e];exact aJ)
  show(if t.1=r then _ else t::jX T r x)=_;rw[if_neg h1,vX x (T:=T) λz=>h<|aF _ z];rfl
theorem wB{r:Int×Int}(x:Pr2):∀ {T:WtT}{n:Nat}{ds:List D},(wtK T).Nodup->(wtK T)[n]? =some (rkK r)->(wtD T)[n]? =some ds->wtK (jX T r x)=wtK T/\wtD (jX T r x)=(wtD T).set n (ds++[p2D x])
 |[],n,ds,_,h,_=>by simp[wtK] at h
 |t::T,0,ds,nd,h,hd=>by
  have e:t.1=r:=aJN (by simpa[wtK] using h);have e2:t.2.map p2D=ds:=by simpa[wtD] using hd
  have ea:jX (t::T) r x=(t.1,t.2++[x])::T:=if_pos e;rw[ea];refine⟨rfl, ?_⟩;show((t.2++[x]).map p2D)::wtD T=((t.2.map p2D)::wtD T).set 0 _;rw[aX,e2];rfl
 |t::T,n+1,ds,nd,h,hd=>by
  have nd':=bV.mp (show(rkK t.1::wtK T).Nodup from nd);have h':(wtK T)[n]? =some (rkK r):=by simpa[wtK] using h
  have hd':(wtD T)[n]? =some ds:=by simpa[wtD] using hd
  have ne:t.1≠r:=λe=>nd'.1<|e▸bA h'
  have ea:jX (t::T) r x=t::jX T r x:=if_neg ne;obtain⟨k1,k2⟩:=wB x nd'.2 h' hd';rw[ea];refine⟨by show rkK t.1::wtK (jX T r x)=rkK t.1::wtK T;rw[k1], ?_⟩;show t.2.map p2D::wtD (jX T r x)=(t.2.map p2D::wtD T).set (n+1) _;rw[k2];rfl
theorem aJR{r:Int×Int}(x:Pr2){T:WtT}(nd:(wtK T).Nodup):(wtK<|jX T r x).Nodup:=by
 by_cases h:rkK r∈wtK T
 ·obtain⟨n,hn⟩:=dU h
  have ln:n<T.length:=by have:=(aE.mp hn).1;simpa[wtK] using this
  obtain⟨ds,hd⟩:∃ds,(wtD T)[n]? =some ds:=⟨_,by unfold wtD;rw[aW,fJ ln];rfl⟩;rw[(wB x nd hn hd).1];exact nd
 ·rw[vX x h];unfold wtK;rw[aX];refine bH.mpr ⟨nd,by simp,λa ha b hb e=>h ?_⟩;have q:b=rkK r:=by simpa using hb
  rw[<-q,<-e];exact ha
noncomputable def tot(T:WtT):Nat:=(T.map λt=>t.2.length+1).sum
theorem aDZ(r:Int×Int)(x:Pr2):∀T:WtT,tot (jX T r x)<=tot T+2
 |[]=>by simp[tot,jX]
 |t::T=>by
  have ih:=aDZ r x T;show tot (if t.1=r then(t.1,t.2++[x])::T else t::jX T r x)<=_
  split
  ·simp[tot];omega
  ·simp[tot] at ih ⊢;omega
theorem aKD(T:WtT):T.length<=tot T:=by
 induction T with
 |nil=>exact aN _
 |cons t T ih=>simp[tot] at ih ⊢;omega
theorem aLc{T:WtT}:∀ds∈wtD T,ds.length<=tot T:=by
 induction T with
 |nil=>exact λds h=>(fE h).elim
 |cons t T ih=>
  intro ds h
  rcases bD.mp (show ds∈t.2.map p2D::wtD T from h) with rfl|h
  ·rw[aC];simp[tot];omega
  ·have:=ih ds h;simp[tot] at this ⊢;omega
noncomputable def nP(x:List Nat×List Nat):Pr2:=(x.1.map λ(i:Nat)=>(i:Int),x.2.map λ(i:Nat)=>(i:Int))
theorem aON(x:List Nat×List Nat):p2D (nP x)=.tup [.tup<|bM x.1,.tup<|bM x.2]:=by unfold p2D nP bS bM;rw[aU,aU];rfl
noncomputable def lgQ(p:Int×Int)(L:List SK)(b:Int)(r:Int×Int)(row nb:List Nat):Nat->WtT->WtT
 |0,T=>T
 |t+1,T=>if r.1+(L.getD t AO).2<=b then jX (lgQ p L b r row nb t T) (r.1+(L.getD t AO).2,r.2+1) (nP (row++[t],jC (jO p (L.getD t AO).1) nb)) else lgQ p L b r row nb t T
theorem aGw{p:Int×Int}{L:List SK}{b:Int}{r:Int×Int}{row nb:List Nat}{T:WtT}(nd:(wtK T).Nodup):∀t,(wtK<|lgQ p L b r row nb t T).Nodup
 |0=>nd
 |t+1=>by
  unfold lgQ
  split
  ·exact aJR _<|aGw nd t
  ·exact aGw nd t
theorem aIa{p:Int×Int}{L:List SK}{b:Int}{r:Int×Int}{row nb:List Nat}{T:WtT}:∀t,tot (lgQ p L b r row nb t T)<=tot T+2*t
 |0=>aN _
 |t+1=>by
  have ih:=aIa (p:=p) (L:=L) (b:=b) (r:=r) (row:=row) (nb:=nb) (T:=T) t;unfold lgQ
  split
  ·have:=aDZ (r.1+(L.getD t AO).2,r.2+1) (nP (row++[t],jC (jO p (L.getD t AO).1) nb))<|lgQ p L b r row nb t T;omega
  ·omega
def aOy(a:Wt)(ds:List D)(post:Wt->Prop):Prop:=∃p L b r row nb,p∈bY/\L.length<=100/\NOk p nb/\row.length<=400/\(wtK a.T).Nodup/\tot a.T+2*L.length<=9000/\ds=[.lst (L.map<|mvD p),.int b,.tup [.int r.1,.int r.2],.tup<|bM row,.tup<|bM nb]/\post=λa'=>a'.l=a.l/\a'.T=lgQ p L b r row nb L.length a.T
noncomputable def unP(y:Pr2):List Nat×List Nat:=(y.1.map qU,y.2.map qU)
theorem aDP(x:List Nat×List Nat):unP (nP x)=x:=by
 have g:∀l:List Nat,(l.map λ(i:Nat)=>(i:Int)).map qU=l:=λl=>by rw[aU];exact(cK λi _=>dI i).trans<|lB l
 unfold unP nP;exact Prod.ext (g x.1)<|g x.2
structure FdS where
 T:WtT
 kn:List (List Nat)
 fd:List (Int×List Nat×List Nat)
noncomputable def fdI(p:Int×Int)(L:List SK)(b:Int)(r:Int×Int)(S:FdS)(x:List Nat×List Nat):FdS:=if x.2∈S.kn then S else⟨lgQ p L b r x.1 x.2 L.length S.T,S.kn++[x.2],S.fd++[(r.1,x.1,x.2)]⟩
noncomputable def fdP(p:Int×Int)(L:List SK)(b:Int)(r:Int×Int)(S:FdS)(xs:List Pr2):FdS:=xs.foldl (λS y=>fdI p L b r S<|unP y) S
theorem vY(p:Int×Int)(L:List SK)(b:Int)(r:Int×Int)(S:FdS)(xs:List Pr2)(y:Pr2):fdP p L b r S (xs++[y])=fdI p L b r (fdP p L b r S xs) (unP y):=by unfold fdP;rw[fO];rfl
structure aOv(S:FdS):Prop where
 nk:(wtK S.T).Nodup
 kn:S.kn=S.fd.map λe=>e.2.2
 nd:S.kn.Nodup
theorem aNF{p:Int×Int}{L:List SK}{b:Int}{r:Int×Int}{S:FdS}(h:aOv S)(x:List Nat×List Nat):aOv (fdI p L b r S x):=by
 unfold fdI
 split
 ·exact h
 ·rename_i q;refine⟨aGw h.nk _, ?_,bH.mpr ⟨h.nd,by simp,λa ha c hc e=>q ?_⟩⟩
  ·show S.kn++[x.2]=(S.fd++[(r.1,x.1,x.2)]).map _;rw[aX,<-h.kn];rfl
  ·have hc:c=x.2:=by simpa using hc
   rw[<-hc,<-e];exact ha
def rlt(r s:Int×Int):Prop:=r.1<s.1\/(r.1=s.1/\r.2<s.2)
instance (r s:Int×Int):Decidable (rlt r s):=inferInstanceAs (Decidable<|_\/_)
noncomputable def rkD(r:Int×Int):D:=.tup [.int r.1,.int r.2]
theorem aII(r s:Int×Int):dlt (rkD r) (rkD s)=decide (rlt r s):=by
 have e:dlt (rkD r) (rkD s)=(if deq (.int r.1) (.int s.1)=true then(if deq (.int r.2) (.int s.2)=true then false else decide (r.2<s.2)) else decide (r.1<s.1)):=rfl;have d:∀a b:Int,deq (.int a) (.int b)=decide (a=b):=λa b=>rfl
 rw[e,d,d];unfold rlt
 by_cases h1:r.1=s.1
 ·by_cases h2:r.2=s.2
  ·simp[h1,h2]
  ·simp[h1,h2]
 ·have:¬ (r.1=s.1/\r.2<s.2):=λz=>h1 z.1
  simp[h1]
theorem uR(bt:Nat->Nat->Bool):∀k,Ad bt k<=k
 |0=>aN _
 |k+1=>by
  show(if bt (k+1) (Ad bt k)=true then k+1 else Ad bt k)<=k+1
  split
  ·exact aN _
  ·exact Nat.le_succ_of_le<|uR bt k
theorem wZ(rs:List (Int×Int)):∀k,k<rs.length->∀j,j<=k->¬ rlt (rs.getD j (0,0)) (rs.getD (Ad (λi k=>decide (rlt (rs.getD i (0,0))<|rs.getD k (0,0))) k) (0,0))
 |0,_,j,hj=>by
  have:j=0:=by omega
  subst this;show ¬ rlt _ (rs.getD 0 (0,0));unfold rlt;omega
 |k+1,hk,j,hj=>by
  have ih:=wZ rs k (by omega);generalize hb:Ad (λi k=>decide (rlt (rs.getD i (0,0))<|rs.getD k (0,0))) k=bk at ih
  have e:Ad (λi k=>decide (rlt (rs.getD i (0,0))<|rs.getD k (0,0))) (k+1)=if decide (rlt (rs.getD (k+1) (0,0))<|rs.getD bk (0,0))=true then k+1 else bk:=by rw[<-hb];rfl
  rw[e]
  by_cases q:rlt (rs.getD (k+1) (0,0)) (rs.getD bk (0,0))
  ·rw[if_pos<|decide_eq_true q]
   by_cases hjk:j=k+1
   ·subst hjk;unfold rlt;omega
   ·have:=ih j (by omega);unfold rlt at *;omega
  ·rw[if_neg<|by rw[decide_eq_false q];decide]
   by_cases hjk:j=k+1
   ·subst hjk;exact q
   ·exact ih j<|by omega
theorem qQ{bt bt':Nat->Nat->Bool}:∀k,(∀i j,i<=k->j<=k->bt i j=bt' i j)->Ad bt k=Ad bt' k
 |0,_=>rfl
 |k+1,h=>by
  have ih:=qQ k λi j hi hj=>h i j (by omega)<|by omega
  show(if bt (k+1) (Ad bt k)=true then k+1 else Ad bt k)=(if bt' (k+1) (Ad bt' k)=true then k+1 else Ad bt' k);have:=uR bt' k;rw[ih,h (k+1) (Ad bt' k) (aN _)<|by omega]
theorem aMZ(hu:X.A.units+4<AS){T:WtT}(hne:T≠[]):aJs X ((wtK T).map nY)/\∃t:(Int×Int)×List Pr2,T[jZ<|(wtK T).map nY]? =some t/\((wtK T).map nY)[jZ<|(wtK T).map nY]? =some (rkD t.1)/\(wtK T)[jZ<|(wtK T).map nY]? =some (rkK t.1)/\(wtD T)[jZ<|(wtK T).map nY]? =some (t.2.map p2D)/\∀s∈T,¬ rlt s.1 t.1:=by
 have l0:0<T.length:=jE.mpr hne
 have em:(wtK T).map nY=T.map λt=>rkD t.1:=by unfold wtK;rw[aU];rfl
 have ln:((wtK T).map nY).length=T.length:=by rw[em,aC]
 have mem:∀d∈(wtK T).map nY,∃r,d=rkD r:=λd hd=>by rw[em] at hd;obtain⟨t,_,rfl⟩:=aP.mp hd;exact⟨t.1,rfl⟩
 have gd:∀i,i<T.length->((wtK T).map nY).getD i .non=rkD ((T.map (·.1)).getD i (0,0)):=λi hi=>by rw[em];simp[cG,hi]
 have eb:jZ ((wtK T).map nY)=Ad (λi k=>decide (rlt ((T.map (·.1)).getD i (0,0)) ((T.map (·.1)).getD k (0,0)))) (T.length-1):=by unfold jZ;rw[ln];exact qQ _ λi j hi hj=>by rw[gd i<|by omega,gd j<|by omega,aII]
 have bl:=uR (λi k=>decide (rlt ((T.map (·.1)).getD i (0,0)) ((T.map (·.1)).getD k (0,0))))<|T.length-1;have bm:=wZ (T.map (·.1)) (T.length-1) (by rw[aC];omega);rw[<-eb] at bl bm;generalize jZ ((wtK T).map nY)=n at bl bm;have hn:n<T.length:=by omega
 have hT:T[n]? =some T[n]:=fJ hn;refine⟨⟨by rw[ln];exact l0,λd hd d2 hd2=> ?_,λd hd=> ?_,λd hd=> ?_⟩,T[n],hT, ?_, ?_, ?_,λs hs=> ?_⟩
 ·obtain⟨r,rfl⟩:=mem d hd;obtain⟨r2,rfl⟩:=mem d2 hd2;rfl
 ·obtain⟨r,rfl⟩:=mem d hd;rfl
 ·obtain⟨r,rfl⟩:=mem d hd;show X.A.units+1+1<AS;omega
 ·rw[em,aW,hT];rfl
 ·unfold wtK;rw[aW,hT];rfl
 ·unfold wtD;rw[aW,hT];rfl
 ·obtain⟨j,hj⟩:=dU hs;have lj:j<T.length:=(aE.mp hj).1;have:=bm j (by omega);have e1:(T.map (·.1)).getD j (0,0)=s.1:=by simp[cG,hj]
  have e2:(T.map (·.1)).getD n (0,0)=T[n].1:=by simp[cG,hn]
  rw[e1,e2] at this;exact this
noncomputable def llt:List Int->List Int->Bool
 |[],[]=>false
 |[],_::_=>true
 |_::_,[]=>false
 |x::a,y::b=>if x=y then llt a b else decide (x<y)
theorem aJC:∀a b:List Int,qF (a.map D.int) (b.map D.int)=llt a b
 |[],[]=>rfl
 |[],_::_=>rfl
 |_::_,[]=>rfl
 |x::a,y::b=>by
  have e:qF ((x::a).map D.int) ((y::b).map D.int)=if decide (x=y)=true then qF (a.map D.int) (b.map D.int) else decide (x<y):=rfl
  rw[e,aJC a b];show _=if x=y then llt a b else decide (x<y)
  by_cases h:x=y
  ·rw[if_pos<|decide_eq_true h,if_pos h]
  ·rw[if_neg (by rw[decide_eq_false h];decide),if_neg h]
theorem qW:∀a:List Int,llt a a=false
 |[]=>rfl
 |x::a=>by show(if x=x then llt a a else decide (x<x))=false;rw[if_pos rfl];exact qW a
theorem aAp:∀a b:List Int,a≠b->llt a b=true\/llt b a=true
 |[],[],h=>absurd rfl h
 |[],_::_,_=>.inl rfl
 |_::_,[],_=>.inr rfl
 |x::a,y::b,h=>by
  show(if x=y then llt a b else decide (x<y))=true\/(if y=x then llt b a else decide (y<x))=true
  by_cases e:x=y
  ·subst e;rw[if_pos rfl,if_pos rfl];exact aAp a b λz=>h (by rw[z])
  ·rw[if_neg e,if_neg λz=>e z.symm,decide_eq_true_iff,decide_eq_true_iff];omega
theorem vK:∀a b c:List Int,llt a b=true->llt b c=true->llt a c=true
 |[],[],_,h,_=>by cases h
 |[],_::_,[],_,h=>by cases h
 |[],_::_,_::_,_,_=>rfl
 |_::_,[],_,h,_=>by cases h
 |_::_,_::_,[],_,h=>by cases h
 |x::a,y::b,z::c,h1,h2=>by
  have h1:(if x=y then llt a b else decide (x<y))=true:=h1;have h2:(if y=z then llt b c else decide (y<z))=true:=h2;show(if x=z then llt a c else decide (x<z))=true
  by_cases e1:x=y
  ·subst e1;rw[if_pos rfl] at h1
   by_cases e2:x=z
   ·subst e2;rw[if_pos rfl] at h2 ⊢;exact vK a b c h1 h2
   ·rw[if_neg e2] at h2 ⊢;exact h2
  ·rw[if_neg e1] at h1;have h1:=of_decide_eq_true h1
   by_cases e2:y=z
   ·subst e2;rw[if_neg e1];exact decide_eq_true h1
   ·rw[if_neg e2] at h2;have h2:=of_decide_eq_true h2;rw[if_neg<|by omega];exact decide_eq_true<|by omega
noncomputable def plt(x y:Pr2):Bool:=if x.1=y.1 then llt x.2 y.2 else llt x.1 y.1
theorem aMe(a b:List Int):deq (bS a) (bS b)=decide (a=b):=aBx a b
theorem aPu(x y:Pr2):dlt (p2D x) (p2D y)=plt x y:=by
 have e:dlt (p2D x) (p2D y)=if deq (bS x.1) (bS y.1)=true then(if deq (bS x.2) (bS y.2)=true then false else qF (x.2.map D.int) (y.2.map D.int)) else qF (x.1.map D.int) (y.1.map D.int):=rfl
 rw[e,aMe,aMe,aJC,aJC];unfold plt
 by_cases h:x.1=y.1
 ·rw[if_pos<|decide_eq_true h,if_pos h]
  by_cases h2:x.2=y.2
  ·rw[if_pos<|decide_eq_true h2,h2,qW]
  ·rw[if_neg<|by rw[decide_eq_false h2];decide]
 ·rw[if_neg (by rw[decide_eq_false h];decide),if_neg h]
theorem aLm(x:Pr2):plt x x=false:=by unfold plt;rw[if_pos rfl];exact qW _
theorem aAz{x y:Pr2}(h:x≠y):plt x y=true\/plt y x=true:=by
 unfold plt
 by_cases e:x.1=y.1
 ·rw[if_pos e,if_pos e.symm];exact aAp _ _ λz=>h<|Prod.ext e z
 ·rw[if_neg e,if_neg λz=>e z.symm];exact aAp _ _ e
theorem aIO{x y z:Pr2}(h1:plt x y=true)(h2:plt y z=true):plt x z=true:=by
 unfold plt at *
 by_cases e1:x.1=y.1
 ·rw[if_pos e1] at h1
  by_cases e2:y.1=z.1
  ·rw[if_pos e2] at h2;rw[if_pos<|e1.trans e2];exact vK _ _ _ h1 h2
  ·rw[if_neg e2] at h2;rw[e1,if_neg e2];exact h2
 ·rw[if_neg e1] at h1
  by_cases e2:y.1=z.1
  ·rw[<-e2,if_neg e1];exact h1
  ·rw[if_neg e2] at h2
   by_cases e3:x.1=z.1
   ·have:=vK _ _ _ h1 h2;rw[e3,qW] at this;cases this
   ·rw[if_neg e3];exact vK _ _ _ h1 h2
noncomputable def rkP(ps:List Pr2)(x:Pr2):Nat:=(ps.filter λy=>plt y x).length
theorem wP{x y:Pr2}(hx:x∈ps)(h:plt x y=true):rkP ps x<rkP ps y:=by
 unfold rkP
 have e:ps.filter (λz=>plt z x)=(ps.filter λz=>plt z y).filter λz=>plt z x:=by
  rw[List.filter_filter];refine List.filter_congr λz _=> ?_
  cases q:plt z x with
  |false=>rfl
  |true=>rw[aIO q h];rfl
 rw[e];refine List.length_filter_lt_length_iff_exists.mpr ⟨x,gF.mpr ⟨hx,h⟩, ?_⟩;rw[aLm];decide
theorem aME(nd:ps.Nodup)(hl:ps.length<=10000)(hu:A.units+8<AS):SrtP A ps (rkP ps):=by
 have key:∀x∈ps,∀y∈ps,x≠y->rkP ps x≠rkP ps y:=λx hx y hy ne=>by
  rcases aAz ne with h|h
  ·exact bW<|wP hx h
  ·exact kE<|wP hy h
 refine⟨hl,λx hx y hy=> ?_, ?_,hu⟩
 ·rw[aPu];cases h:plt x y with
  |true=>exact(decide_eq_true<|wP hx h).symm
  |false=>
   refine(decide_eq_false λq=> ?_).symm
   by_cases e:x=y
   ·rw[e] at q;omega
   ·rcases aAz e with z|z
    ·rw[h] at z;cases z
    ·have:=wP hy z;omega
 ·unfold List.Nodup;rw[nE];exact List.Pairwise.imp_of_mem (λ{a b} ha hb h=>key a ha b hb h) nd
noncomputable def aJf(x:Pr2):List Pr2->List Pr2
 |[]=>[x]
 |y::l=>if plt x y then x::y::l else y::aJf x l
noncomputable def gK:List Pr2->List Pr2
 |[]=>[]
 |x::l=>aJf x<|gK l
theorem tE(x:Pr2):∀l,(aJf x l).Perm (x::l)
 |[]=>.refl _
 |y::l=>by
  show(if plt x y then x::y::l else y::aJf x l).Perm _
  split
  ·exact .refl _
  ·exact((tE x l).cons y).trans<|.swap x y l
theorem hV:∀l,(gK l).Perm l
 |[]=>.refl _
 |x::l=>(tE x<|gK l).trans<|(hV l).cons x
theorem aEh{x:Pr2}:∀ {l:List Pr2},x∉l->l.Pairwise (λa b=>plt a b=true)->(aJf x l).Pairwise (λa b=>plt a b=true)
 |[],_,_=>by simp[aJf]
 |y::l,h,p=>by
  obtain⟨p1,p2⟩:=mH.mp p;show(if plt x y then x::y::l else y::aJf x l).Pairwise _
  by_cases q:plt x y=true
  ·rw[if_pos q];refine mH.mpr ⟨λz hz=> ?_,p⟩
   rcases bD.mp hz with rfl|hz
   ·exact q
   ·exact aIO q<|p1 z hz
  ·rw[if_neg q];refine mH.mpr ⟨λz hz=> ?_,aEh (λz=>h<|aF _ z) p2⟩
   rcases bD.mp ((tE x l).mem_iff.mp hz) with rfl|hz
   ·rcases aAz (x:=z) (y:=y) (λe=>h<|e▸aJ) with w|w
    ·exact absurd w q
    ·exact w
   ·exact p1 z hz
theorem aAM:∀ {l:List Pr2},l.Nodup->(gK l).Pairwise (λa b=>plt a b=true)
 |[],_=>List.Pairwise.nil
 |x::l,h=>by obtain⟨h1,h2⟩:=bV.mp h;exact aEh (λz=>h1<|(hV l).mem_iff.mp z)<|aAM h2
theorem aKM{qs:List Pr2}(nd:ps.Nodup)(hp:qs.Perm ps)(hs:(qs.map<|rkP ps).Pairwise (·<·)):qs=gK ps:=by refine List.Perm.eq_of_pairwise (le:=λx y=>rkP ps x<rkP ps y) (λx y _ _ h1 h2=>by omega) (by rw[nE] at hs;exact hs) ?_ (hp.trans (hV ps).symm);exact List.Pairwise.imp_of_mem (λ{a b} ha _ h=>wP ((hV ps).mem_iff.mp ha) h)<|aAM nd
noncomputable def eV(T:WtT):Nat:=jZ<|(wtK T).map nY
noncomputable def fdT(p:Int×Int)(L:List SK)(b:Int)(S:FdS):FdS:=match S.T[eV S.T]? with
 |none=>S
 |some t=>fdP p L b t.1 {S with T:=S.T.eraseIdx (eV S.T)} (gK t.2)
noncomputable def jA(p:Int×Int)(L:List SK)(b:Int):Nat->FdS->FdS
 |0,S=>S
 |k+1,S=>if S.T=[] then S else jA p L b k (fdT p L b S)
noncomputable def inR(row:List Nat):List Int:=row.map λ(i:Nat)=>(i:Int)
theorem aKj{a b:List Nat}(h:inR a=inR b):a=b:=by
 have:(inR a).map qU=(inR b).map qU:=by rw[h]
 have g:∀l:List Nat,(inR l).map qU=l:=λl=>by unfold inR;rw[aU];exact(cK λi _=>dI i).trans<|lB l
 rwa[g,g] at this
noncomputable def rwP(y:Pr2):List Nat:=(unP y).1
noncomputable def itP(p:Int×Int)(L:List SK)(row:List Nat):Pr2:=nP (row,nrQ p L row)
theorem qH(p:Int×Int)(L:List SK)(row:List Nat):rwP (itP p L row)=row:=by unfold rwP itP;rw[aDP]
theorem aMv(p:Int×Int)(L:List SK)(row:List Nat):unP (itP p L row)=(row,nrQ p L row):=aDP _
noncomputable def rkR(L:List SK)(row:List Nat):Int×Int:=(S45.prQ (prK L) row,(row.length:Int))
def klt(L:List SK)(a c:List Nat):Prop:=rlt (rkR L a) (rkR L c)\/(rkR L a=rkR L c/\llt (inR a) (inR c)=true)
def kle(L:List SK)(a c:List Nat):Prop:=a=c\/klt L a c
theorem aNT{a b c:Int×Int}(h:rlt a b)(h2:rlt b c):rlt a c:=by unfold rlt at *;omega
theorem aKc{a b:Int×Int}(h:a≠b)(h2:¬ rlt b a):rlt a b:=by
 obtain⟨a1,a2⟩:=a;obtain⟨b1,b2⟩:=b;unfold rlt at *;have:¬ (a1=b1/\a2=b2):=λz=>h (by rw[z.1,z.2])
 simp only at *;omega
theorem aIr{L:List SK}{a b c:List Nat}(h:klt L a b)(h2:klt L b c):klt L a c:=by
 rcases h with h|⟨e,h⟩<;>rcases h2 with h2|⟨e2,h2⟩
 ·exact .inl<|aNT h h2
 ·exact .inl<|e2▸h
 ·exact .inl<|e▸h2
 ·exact .inr ⟨e.trans e2,vK _ _ _ h h2⟩
theorem aNN{L:List SK}{a b c:List Nat}(h:kle L a b)(h2:kle L b c):kle L a c:=by
 rcases h with rfl|h
 ·exact h2
 ·rcases h2 with rfl|h2
  ·exact .inr h
  ·exact .inr<|aIr h h2
theorem aBv{x:Int}:∀ {a b:List Int},a.length=b.length->llt a b=true->llt (a++[x]) (b++[x])=true
 |[],[],_,h=>by cases h
 |[],_::_,h,_=>by cases h
 |_::_,[],h,_=>by cases h
 |u::a,v::b,hl,h=>by
  have h:(if u=v then llt a b else decide (u<v))=true:=h;show(if u=v then llt (a++[x]) (b++[x]) else decide (u<v))=true
  by_cases e:u=v
  ·rw[if_pos e] at h ⊢;exact aBv (by simpa using hl) h
  ·rw[if_neg e] at h ⊢;exact h
theorem pR(L:List SK)(a:List Nat)(k:Nat):rkR L (a++[k])=((rkR L a).1+prK L k,(rkR L a).2+1):=by unfold rkR;rw[S45.pr_snoc,aH];rfl
theorem aHi{L:List SK}{a c:List Nat}(k:Nat)(h:kle L a c):kle L (a++[k]) (c++[k]):=by
 rcases h with rfl|h|⟨e,h⟩
 ·exact .inl rfl
 ·refine .inr<|.inl ?_;rw[pR,pR];unfold rlt at *;simp only;omega
 ·refine .inr (.inr ⟨by rw[pR,pR,e], ?_⟩)
  have el:a.length=c.length:=by have:=congrArg Prod.snd e;have:(a.length:Int)=(c.length:Int):=this;omega
  show llt ((a++[k]).map λ(i:Nat)=>(i:Int)) ((c++[k]).map λ(i:Nat)=>(i:Int))=true;rw[aX,aX];exact aBv (by rw[aC,aC];exact el) h
noncomputable def wrR(T:WtT):List (List Nat):=T.flatMap λt=>t.2.map rwP
theorem wrR_mem{T:WtT}{row:List Nat}:row∈wrR T↔∃t∈T,∃y∈t.2,rwP y=row:=by
 unfold wrR;rw[dY]
 constructor
 ·rintro⟨t,ht,h⟩;obtain⟨y,hy,e⟩:=aP.mp h;exact⟨t,ht,y,hy,e⟩
 ·rintro⟨t,ht,y,hy,e⟩;exact⟨t,ht,aP.mpr ⟨y,hy,e⟩⟩
theorem yK(r:Int×Int)(x:Pr2):∀T:WtT,(wrR<|jX T r x).Perm (rwP x::wrR T)
 |[]=>.refl _
 |t::T=>by
  show(wrR (if t.1=r then(t.1,t.2++[x])::T else t::jX T r x)).Perm _
  split
  ·show((t.2++[x]).map rwP++wrR T).Perm (rwP x::(t.2.map rwP++wrR T));rw[aX,dM];exact oI
  ·show(t.2.map rwP++wrR (jX T r x)).Perm (rwP x::(t.2.map rwP++wrR T));exact((yK r x T).append_left _).trans oI
theorem aBW{r:Int×Int}{x:Pr2}:∀ {T:WtT}{t':(Int×Int)×List Pr2},(∀t∈T,t.2≠[])->t'∈jX T r x->t'.2≠[]/\∀y∈t'.2,(y=x/\t'.1=r)\/∃t∈T,t.1=t'.1/\y∈t.2
 |[],t',_,h=>by
  have:t'=(r,[x]):=by simpa[jX] using h
  subst this;exact⟨by simp,λy hy=>.inl ⟨by simpa using hy,rfl⟩⟩
 |t::T,t',hn,h=>by
  have h:t'∈(if t.1=r then(t.1,t.2++[x])::T else t::jX T r x):=h
  by_cases e:t.1=r
  ·rw[if_pos e] at h
   rcases bD.mp h with rfl|h
   ·refine⟨by simp,λy hy=> ?_⟩
    rcases aS.mp hy with hy|hy
    ·exact .inr ⟨t,aJ,rfl,hy⟩
    ·exact .inl ⟨by simpa using hy,e⟩
   ·exact⟨hn _<|aF _ h,λy hy=>.inr ⟨t',aF _ h,rfl,hy⟩⟩
  ·rw[if_neg e] at h
   rcases bD.mp h with rfl|h
   ·exact⟨hn _ aJ,λy hy=>.inr ⟨t',aJ,rfl,hy⟩⟩
   ·obtain⟨h1,h2⟩:=aBW (λz hz=>hn z<|aF _ hz) h;exact⟨h1,λy hy=>(h2 y hy).imp id λ⟨z,hz,q⟩=>⟨z,aF _ hz,q⟩⟩
variable {p:Int×Int}{L:List SK}{b:Int}{r:Int×Int}{row nb:List Nat}{T:WtT}
noncomputable def chs(L:List SK)(b:Int)(r:Int×Int)(row:List Nat)(n:Nat):List (List Nat):=((bQ n).filter λk=>decide<|r.1+prK L k<=b).map λk=>row++[k]
theorem chs_mem{c:List Nat}:c∈chs L b r row n↔∃k,k<n/\r.1+prK L k<=b/\c=row++[k]:=by
 unfold chs;rw[aP]
 constructor
 ·rintro⟨k,hk,rfl⟩;obtain⟨h1,h2⟩:=gF.mp hk;exact⟨k,cX.mp h1,of_decide_eq_true h2,rfl⟩
 ·rintro⟨k,h1,h2,rfl⟩;exact⟨k,gF.mpr ⟨cX.mpr h1,decide_eq_true h2⟩,rfl⟩
theorem aMI(n:Nat):(chs L b r row n).Nodup:=by unfold chs List.Nodup;rw[nE];refine List.Pairwise.imp (λ{a c} h e=>h ?_) (List.Pairwise.filter _<|List.nodup_range (n:=n));simpa using List.append_cancel_left e
theorem aEs:∀n:Nat,(wrR<|lgQ p L b r row nb n T).Perm (chs L b r row n++wrR T)
 |0=>.refl _
 |n+1=>by
  have ih:=aEs n
  have ec:chs L b r row (n+1)=chs L b r row n++(if r.1+prK L n<=b then[row++[n]] else[]):=by
   unfold chs;rw[aLL,sP,aX];congr 1
   by_cases h:r.1+prK L n<=b
   ·simp[h]
   ·simp[h]
  rw[ec];show(wrR (if r.1+(L.getD n AO).2<=b then jX _ _ _ else _)).Perm _
  by_cases h:r.1+prK L n<=b
  ·rw[if_pos h,if_pos (show r.1+(L.getD n AO).2<=b from h)];refine(yK _ _ _).trans ?_
   have e:rwP (nP (row++[n],jC (jO p (L.getD n AO).1) nb))=row++[n]:=by unfold rwP;rw[aDP]
   rw[e,dM];exact(ih.cons _).trans oI.symm
  ·rw[if_neg h,if_neg (show ¬ r.1+(L.getD n AO).2<=b from h),bN];exact ih
theorem aBc:∀ (n:Nat) {t':(Int×Int)×List Pr2},(∀t∈T,t.2≠[])->t'∈lgQ p L b r row nb n T->t'.2≠[]/\∀y∈t'.2,(∃k,k<n/\r.1+prK L k<=b/\t'.1=(r.1+prK L k,r.2+1)/\y=nP (row++[k],jC (jO p (L.getD k AO).1) nb))\/∃t∈T,t.1=t'.1/\y∈t.2
 |0,t',hn,h=>⟨hn t' h,λy hy=>.inr ⟨t',h,rfl,hy⟩⟩
 |n+1,t',hn,h=>by
  have h:t'∈(if r.1+(L.getD n AO).2<=b then jX (lgQ p L b r row nb n T) (r.1+(L.getD n AO).2,r.2+1) (nP (row++[n],jC (jO p (L.getD n AO).1) nb)) else lgQ p L b r row nb n T):=h;have old:∀t∈lgQ p L b r row nb n T,t.2≠[]:=λt ht=>(aBc n hn ht).1
  by_cases q:r.1+(L.getD n AO).2<=b
  ·rw[if_pos q] at h;obtain⟨h1,h2⟩:=aBW old h;refine⟨h1,λy hy=> ?_⟩
   rcases h2 y hy with⟨e1,e2⟩|⟨t,ht,e,hy2⟩
   ·exact .inl ⟨n,by omega,q,e2,e1⟩
   ·rcases(aBc n hn ht).2 y hy2 with⟨k,k1,k2,k3,k4⟩|⟨s,s1,s2,s3⟩
    ·exact .inl ⟨k,by omega,k2,e▸k3,k4⟩
    ·exact .inr ⟨s,s1,s2.trans e,s3⟩
  ·rw[if_neg q] at h;obtain⟨h1,h2⟩:=aBc n hn h;exact⟨h1,λy hy=>(h2 y hy).imp (λ⟨k,k1,k2⟩=>⟨k,by omega,k2⟩) id⟩
theorem aIR:∀ {T:WtT},(∀t∈T,t.2≠[])->tot T<=2*(wrR T).length
 |[],_=>aN _
 |t::T,h=>by
  have ih:=aIR (T:=T) λz hz=>h z<|aF _ hz
  have h1:0<t.2.length:=jE.mpr<|h t aJ;have e1:tot (t::T)=(t.2.length+1)+tot T:=by simp[tot]
  have e2:(wrR (t::T)).length=t.2.length+(wrR T).length:=by show(t.2.map rwP++wrR T).length=_;rw[aH,aC]
  omega
def Cov(p:Int×Int)(L:List SK)(S:FdS)(rest:List Pr2)(row:List Nat):Prop:=row∈wrR S.T\/row∈rest.map rwP\/∃e∈S.fd,e.2.2=nrQ p L row/\kle L e.2.1 row
structure Wk(p:Int×Int)(L:List SK)(b:Int)(dn:List (List Nat))(r:Int×Int)(rest:List Pr2)(S:FdS):Prop where
 ok:aOv S
 ne:∀t∈S.T,t.2≠[]
 wt:∀t∈S.T,∀y∈t.2,∃row,y=itP p L row/\iJ L row/\t.1=rkR L row/\t.1.1<=b
 rs:∀y∈rest,∃row,y=itP p L row/\iJ L row/\r=rkR L row/\r.1<=b
 up:rest.Pairwise λx y=>plt x y=true
 gt:rest≠[]->∀t∈S.T,rlt r t.1
 nd:(dn++rest.map rwP++wrR S.T).Nodup
 fd:∀e∈S.fd,e.2.1∈dn/\iJ L e.2.1/\e.1=S45.prQ (prK L) e.2.1/\e.1<=b/\e.2.2=nrQ p L e.2.1
 par:∀row,row∈dn++rest.map rwP++wrR S.T->row=[]\/∃q k,row=q++[k]/\q∈S.fd.map λe=>e.2.1
 du:∀row∈dn,iJ L row/\S45.prQ (prK L) row<=b
 srt:(S.fd.map λe=>e.2.1).Pairwise (klt L)
 lt1:∀e∈S.fd,∀y∈rest,klt L e.2.1<|rwP y
 lt2:∀e∈S.fd,∀row∈wrR S.T,klt L e.2.1 row
 cl:∀e∈S.fd,∀k,k<L.length->e.1+prK L k<=b->Cov p L S rest (e.2.1++[k])
 st:0<=b->Cov p L S rest []
variable {dn:List (List Nat)}{rest:List Pr2}{S:FdS}{U:List (List Nat)}
noncomputable def aJu(n:Nat)(fd:List (List Nat)):List (List Nat):=[]::fd.flatMap λq=>(bQ n).map λk=>q++[k]
theorem aHe(n:Nat)(fd:List (List Nat)):(aJu n fd).length=1+fd.length*n:=by
 unfold aJu;rw[bF,List.length_flatMap];have:(fd.map λq=>((bQ n).map λk=>q++[k]).length)=fd.map λ_=>n:=cK λq _=>by rw[aC,fP]
 rw[this,List.map_const',List.sum_replicate_nat];omega
theorem Wk.okR(W:Wk p L b dn r rest S):∀row∈dn++rest.map rwP++wrR S.T,iJ L row/\S45.prQ (prK L) row<=b:=λrow h=>by
 rcases aS.mp h with h|h
 ·rcases aS.mp h with h|h
  ·exact W.du row h
  ·obtain⟨y,hy,e⟩:=aP.mp h;obtain⟨q,rfl,q2,q3,q4⟩:=W.rs y hy;rw[qH] at e;subst e;exact⟨q2,by rw[q3] at q4;exact q4⟩
 ·obtain⟨t,ht,y,hy,e⟩:=wrR_mem.mp h;obtain⟨q,rfl,q2,q3,q4⟩:=W.wt t ht y hy;rw[qH] at e;subst e;exact⟨q2,by rw[q3] at q4;exact q4⟩
theorem Wk.few2(W:Wk p L b dn r rest S):dn.length+rest.length+(wrR S.T).length<=1+S.fd.length*L.length:=by
 have:=W.nd.length_le_of_subset (l₂:=aJu L.length<|S.fd.map λe=>e.2.1) λrow h=>by
  rcases W.par row h with rfl|⟨q,k,rfl,hq⟩
  ·exact aJ ..
  ·refine aF _<|dY.mpr ⟨q,hq,aP.mpr ⟨k,cX.mpr ?_,rfl⟩⟩;exact(W.okR _ h).1 k<|by simp
 rw[aHe,aH,aH,aC,aC] at this;exact this
theorem Wk.tot2(W:Wk p L b dn r rest S):DL.tot S.T<=2*(1+S.fd.length*L.length):=by have:=aIR W.ne;have:=W.few2;omega
theorem Wk.step(hpr:∀k,k<L.length->1<=prK L k){y:Pr2}(W:Wk p L b dn r (y::rest) S):Wk p L b (dn++[rwP y]) r rest (fdI p L b r S<|unP y):=by
 obtain⟨row,ey,ro,er,rb⟩:=W.rs y aJ;subst ey;have up:=mH.mp W.up;have rp:S45.prQ (prK L) row<=b:=by rw[er] at rb;exact rb
 rw[aMv];have ew:(itP p L row::rest).map rwP=row::rest.map rwP:=by rw[aZ,qH]
 have nd:=W.nd;have par:=W.par;rw[ew] at nd par;have e1:dn++row::rest.map rwP=(dn++[row])++rest.map rwP:=by simp
 rw[e1] at nd par;rw[qH]
 have cv:∀c,Cov p L S (itP p L row::rest) c->c=row\/Cov p L S rest c:=λc h=>by
  rcases h with h|h|h
  ·exact .inr<|.inl h
  ·rw[ew] at h
   rcases bD.mp h with h|h
   ·exact .inl h
   ·exact .inr (.inr<|.inl h)
  ·exact .inr (.inr<|.inr h)
 have du:∀c∈dn++[row],iJ L c/\S45.prQ (prK L) c<=b:=λc h=>by
  rcases aS.mp h with h|h
  ·exact W.du c h
  ·rw[aI.mp h];exact⟨ro,rp⟩
 have rs:∀y∈rest,∃row,y=itP p L row/\iJ L row/\r=rkR L row/\r.1<=b:=λz hz=>W.rs z<|aF _ hz
 have gt:=W.gt (by simp);unfold fdI
 by_cases hk:nrQ p L row∈S.kn
 ·rw[if_pos hk];rw[W.ok.kn] at hk;obtain⟨e,he,en⟩:=aP.mp hk
  have ke:klt L e.2.1 row:=by have:=W.lt1 e he _ aJ;rw[qH] at this;exact this
  have cv2:∀c,Cov p L S (itP p L row::rest) c->Cov p L S rest c:=λc h=>by
   rcases cv c h with rfl|h
   ·exact .inr<|.inr ⟨e,he,en,.inr ke⟩
   ·exact h
  exact⟨W.ok,W.ne,W.wt,rs,up.2,λ_=>gt,nd,λe he=>⟨bO _ (W.fd e he).1,(W.fd e he).2⟩,par,du,W.srt,λe he z hz=>W.lt1 e he z<|aF _ hz,W.lt2,λe he k hk hle=>cv2 _<|W.cl e he k hk hle,λh=>cv2 _<|W.st h⟩
 ·have ok:=aNF (p:=p) (L:=L) (b:=b) (r:=r) W.ok (row,nrQ p L row);unfold fdI at ok;rw[if_neg hk] at ok ⊢;have pm:=aEs (p:=p) (L:=L) (b:=b) (r:=r) (row:=row) (nb:=nrQ p L row) (T:=S.T) L.length;have lm:=λt' h=>aBc (p:=p) (L:=L) (b:=b) (r:=r) (row:=row) (nb:=nrQ p L row) (T:=S.T) L.length (t':=t') W.ne h
  have rno:row∉S.fd.map λe=>e.2.1:=λh=>by obtain⟨e,he,ee⟩:=aP.mp h;have:=(W.fd e he).1;rw[ee] at this;have n2:=(bH.mp (bH.mp nd).1).1;exact(bH.mp n2).2.2 row this row (by simp) rfl
  have mem':∀c,c∈wrR (lgQ p L b r row (nrQ p L row) L.length S.T)↔c∈chs L b r row L.length\/c∈wrR S.T:=λc=>by rw[pm.mem_iff,aS]
  have ch_lt:∀c∈chs L b r row L.length,klt L row c:=λc h=>by obtain⟨k,k1,k2,rfl⟩:=chs_mem.mp h;refine .inl ?_;rw[pR];have:=hpr k k1;unfold rlt;simp only;omega
  have T_lt:∀c∈wrR S.T,klt L row c:=λc h=>by obtain⟨t,ht,y,hy,e⟩:=wrR_mem.mp h;obtain⟨q,rfl,q2,q3,q4⟩:=W.wt t ht y hy;rw[qH] at e;subst e;refine .inl ?_;rw[<-er,<-q3];exact gt t ht
  have rest_lt:∀z∈rest,klt L row (rwP z):=λz hz=>by
   obtain⟨q,rfl,q2,q3,q4⟩:=rs z hz;rw[qH];refine .inr ⟨er.symm.trans q3, ?_⟩;have:=up.1 _ hz;unfold plt at this
   by_cases e:(itP p L row).1=(itP p L q).1
   ·exfalso;have e2:row=q:=aKj e;subst e2;rw[if_pos rfl,qW] at this;cases this
   ·rw[if_neg e] at this;exact this
  have cvn:∀c,Cov p L S (itP p L row::rest) c->Cov p L ⟨lgQ p L b r row (nrQ p L row) L.length S.T,S.kn++[nrQ p L row],S.fd++[(r.1,row,nrQ p L row)]⟩ rest c:=λc h=>by
   rcases cv c h with rfl|h|h|⟨e,he,q⟩
   ·exact .inr<|.inr ⟨(r.1,c,nrQ p L c),aM _<|cD _,rfl,.inl rfl⟩
   ·exact .inl ((mem' c).mpr<|.inr h)
   ·exact .inr<|.inl h
   ·exact .inr<|.inr ⟨e,bO _ he,q⟩
  have efd:(S.fd++[(r.1,row,nrQ p L row)]).map (λe=>e.2.1)=S.fd.map (λe=>e.2.1)++[row]:=by rw[aX];rfl
  refine⟨ok,λt h=>(lm t h).1,λt ht y hy=> ?_,rs,up.2,λ_ t ht=> ?_, ?_,λe he=> ?_,λc hc=> ?_,du, ?_,λe he z hz=> ?_,λe he c hc=> ?_,λe he k hk hle=> ?_,λh=>cvn _<|W.st h⟩
  ·rcases(lm t ht).2 y hy with⟨k,k1,k2,k3,k4⟩|⟨s,s1,s2,s3⟩
   ·refine⟨row++[k],by rw[k4];unfold itP;rw[aAq],λi hi=> ?_,by rw[k3,pR,er],by rw[k3];exact k2⟩
    rcases aS.mp hi with hi|hi
    ·exact ro i hi
    ·rw[aI.mp hi];exact k1
   ·rw[<-s2];exact W.wt s s1 y s3
  ·obtain⟨h1,h2⟩:=lm t ht;obtain⟨y,hy⟩:=List.exists_mem_of_ne_nil _ h1
   rcases h2 y hy with⟨k,k1,k2,k3,k4⟩|⟨s,s1,s2,s3⟩
   ·rw[k3];have:=hpr k k1;unfold rlt;simp only;omega
   ·rw[<-s2];exact gt s s1
  ·have pm2:((dn++[row]++rest.map rwP)++wrR (lgQ p L b r row (nrQ p L row) L.length S.T)).Perm (chs L b r row L.length++((dn++[row]++rest.map rwP)++wrR S.T)):=(pm.append_left _).trans (by
    rw[<-dM,<-dM (chs L b r row L.length)]
    exact iI.append_right _)
   refine pm2.nodup_iff.mpr<|bH.mpr ⟨aMI _,nd,λc hc d hd e=> ?_⟩;subst e;obtain⟨k,k1,k2,rfl⟩:=chs_mem.mp hc
   rcases par _ hd with h|⟨q,j,h1,h2⟩
   ·simp at h
   ·have:row=q:=(List.append_inj' h1 rfl).1;subst this;exact rno h2
  ·rcases aS.mp he with he|he
   ·exact⟨bO _ (W.fd e he).1,(W.fd e he).2⟩
   ·rw[aI.mp he];exact⟨aM _<|cD _,ro,by rw[er];rfl,rb,rfl⟩
  ·rw[efd]
   have h:c∈dn++[row]++rest.map rwP++wrR S.T\/c∈chs L b r row L.length:=by
    rcases aS.mp hc with h|h
    ·exact .inl<|bO _ h
    ·rcases(mem' c).mp h with h|h
     ·exact .inr h
     ·exact .inl<|aM _ h
   rcases h with h|h
   ·exact(par c h).imp id λ⟨q,k,h1,h2⟩=>⟨q,k,h1,bO _ h2⟩
   ·obtain⟨k,_,_,rfl⟩:=chs_mem.mp h;exact .inr ⟨row,k,rfl,aM _<|cD _⟩
  ·rw[efd];refine qK.mpr ⟨W.srt,jW _ _,λa ha c hc=> ?_⟩;rw[aI.mp hc];obtain⟨e,he,rfl⟩:=aP.mp ha;have:=W.lt1 e he _ aJ;rw[qH] at this;exact this
  ·rcases aS.mp he with he|he
   ·exact W.lt1 e he z<|aF _ hz
   ·rw[aI.mp he];exact rest_lt z hz
  ·rcases aS.mp he with he|he
   ·rcases(mem' c).mp hc with h|h
    ·have:=W.lt1 e he _ aJ;rw[qH] at this;exact aIr this<|ch_lt c h
    ·exact W.lt2 e he c h
   ·rw[aI.mp he]
    rcases(mem' c).mp hc with h|h
    ·exact ch_lt c h
    ·exact T_lt c h
  ·rcases aS.mp he with he|he
   ·exact cvn _<|W.cl e he k hk hle
   ·rw[aI.mp he] at hle ⊢;exact .inl<|(mem' _).mpr (.inl<|chs_mem.mpr ⟨k,hk,hle,rfl⟩)
theorem Wk.pop{t:(Int×Int)×List Pr2}(W:Wk p L b dn r [] S)(hn:S.T[n]? =some t)(hm:∀s∈S.T,¬ rlt s.1 t.1):t.2.Nodup/\Wk p L b dn t.1 (gK t.2) {S with T:=S.T.eraseIdx n}:=by
 have tm:=bA hn;obtain⟨nl,en⟩:=aE.mp hn
 have pT:S.T.Perm (t::S.T.eraseIdx n):=by
  have e1:S.T=S.T.take n++t::S.T.drop (n+1):=by rw[<-en,<-dH nl,fC]
  rw[dJ];exact(e1▸List.Perm.refl S.T:S.T.Perm (S.T.take n++t::S.T.drop (n+1))).trans oI
 have pw:(wrR S.T).Perm (t.2.map rwP++wrR (S.T.eraseIdx n)):=pT.flatMap_right _;have ps:((gK t.2).map rwP).Perm (t.2.map rwP):=(hV t.2).map _;have nd:=W.nd;rw[eO,bN] at nd
 have pall:(dn++(gK t.2).map rwP++wrR (S.T.eraseIdx n)).Perm (dn++wrR S.T):=by rw[dM];exact((ps.append_right _).trans pw.symm).append_left _
 have ndt:t.2.Nodup:=by have h1:=(bH.mp<|pw.nodup_iff.mp (bH.mp nd).2.1).1;exact List.Pairwise.of_map _ (λa c h e=>h<|by rw[e]) h1
 have er:∀s∈S.T.eraseIdx n,s∈S.T:=λs hs=>jN hs
 have sub:∀c∈wrR (S.T.eraseIdx n),c∈wrR S.T:=λc hc=>pw.symm.mem_iff.mp<|aM _ hc
 have sub2:∀y∈gK t.2,rwP y∈wrR S.T:=λy hy=>pw.symm.mem_iff.mp (bO _<|aP.mpr ⟨y,(hV t.2).mem_iff.mp hy,rfl⟩)
 have cv:∀c,Cov p L S [] c->Cov p L {S with T:=S.T.eraseIdx n} (gK t.2) c:=λc h=>by
  rcases h with h|h|h
  ·rcases aS.mp (pw.mem_iff.mp h) with h|h
   ·exact .inr (.inl<|ps.symm.mem_iff.mp h)
   ·exact .inl h
  ·cases h
  ·exact .inr<|.inr h
 have ek:wtK (S.T.eraseIdx n)=(wtK S.T).eraseIdx n:=by unfold wtK;rw[dJ,dJ,aX,iG,jM]
 refine⟨ndt,⟨by rw[ek];exact W.ok.nk.sublist<|pY _ _,W.ok.kn,W.ok.nd⟩,λs hs=>W.ne s<|er s hs,λs hs=>W.wt s<|er s hs,λy hy=>W.wt t tm y<|(hV t.2).mem_iff.mp hy,aAM ndt,λ_ s hs=> ?_,pall.nodup_iff.mpr nd,W.fd,λc hc=> ?_,W.du,W.srt,λe he y hy=>W.lt2 e he _<|sub2 y hy,λe he c hc=>W.lt2 e he c<|sub c hc,λe he k hk hle=>cv _<|W.cl e he k hk hle,λh=>cv _<|W.st h⟩
 ·refine aKc (λe=> ?_) (hm s<|er s hs);have nk:=W.ok.nk;have pk:(wtK S.T).Perm (rkK t.1::wtK (S.T.eraseIdx n)):=pT.map _;have:=(bV.mp<|pk.nodup_iff.mp nk).1;refine this ?_;rw[e];exact aP.mpr ⟨s,hs,rfl⟩
 ·refine W.par c ?_;rw[eO,bN];exact pall.mem_iff.mp hc
theorem aHD(hne:T≠[]):∃t:(Int×Int)×List Pr2,T[eV T]? =some t/\∀s∈T,¬ rlt s.1 t.1:=by
 have l0:0<T.length:=jE.mpr hne
 have em:(wtK T).map nY=T.map λt=>rkD t.1:=by unfold wtK;rw[aU];rfl
 have ln:((wtK T).map nY).length=T.length:=by rw[em,aC]
 have gd:∀i,i<T.length->((wtK T).map nY).getD i .non=rkD ((T.map (·.1)).getD i (0,0)):=λi hi=>by rw[em];simp[cG,hi]
 have eb:eV T=Ad (λi k=>decide (rlt ((T.map (·.1)).getD i (0,0)) ((T.map (·.1)).getD k (0,0)))) (T.length-1):=by unfold eV jZ;rw[ln];exact qQ _ λi j hi hj=>by rw[gd i<|by omega,gd j<|by omega,aII]
 have bl:=uR (λi k=>decide (rlt ((T.map (·.1)).getD i (0,0)) ((T.map (·.1)).getD k (0,0))))<|T.length-1;have bm:=wZ (T.map (·.1)) (T.length-1) (by rw[aC];omega);rw[<-eb] at bl bm;generalize eV T=n at bl bm;have hn:n<T.length:=by omega
 refine⟨T[n],fJ hn,λs hs=> ?_⟩;obtain⟨j,hj⟩:=dU hs;have lj:j<T.length:=(aE.mp hj).1;have:=bm j (by omega);have e1:(T.map (·.1)).getD j (0,0)=s.1:=by simp[cG,hj]
 have e2:(T.map (·.1)).getD n (0,0)=T[n].1:=by simp[cG,hn]
 rw[e1,e2] at this;exact this
noncomputable def fd0(p:Int×Int)(b:Int):FdS:=⟨if 0<=b then[((0,0),[nP ([],st0 p)])] else[],[],[]⟩
noncomputable def bkF(p:Int×Int)(L:List SK)(b:Int):List (Int×List Nat×List Nat):=(jA p L b 4002<|fd0 p b).fd
theorem wk0(p:Int×Int)(L:List SK)(b:Int):Wk p L b [] (0,0) [] (fd0 p b):=by
 have e:nP ([],st0 p)=itP p L []:=rfl
 by_cases h:0<=b
 ·have e0:fd0 p b=⟨[((0,0),[itP p L []])],[],[]⟩:=by unfold fd0;rw[if_pos h,e]
  have ew:wrR [((0,0),[itP p L []])]=[[]]:=by show[rwP<|itP p L []]++[]=_;rw[qH];rfl
  rw[e0];refine⟨⟨by simp[wtK],rfl,cR⟩,λt ht=> ?_,λt ht y hy=> ?_,λy hy=>(nomatch hy),List.Pairwise.nil,λh=>absurd rfl h, ?_,λe he=>(nomatch he),λrow hr=> ?_,λrow hr=>(nomatch hr),List.Pairwise.nil,λe he=>(nomatch he),λe he=>(nomatch he),λe he=>(nomatch he),λ_=>.inl ?_⟩
  ·rw[aI.mp ht];simp
  ·rw[aI.mp ht] at hy ⊢;exact⟨[],aI.mp hy,λi hi=>(nomatch hi),rfl,h⟩
  ·show(wrR [((0,0),[itP p L []])]).Nodup;rw[ew];simp
  ·have hr:row∈wrR [((0,0),[itP p L []])]:=hr;rw[ew] at hr;exact .inl<|aI.mp hr
  ·show[]∈wrR [((0,0),[itP p L []])];rw[ew];exact cD _
 ·have e0:fd0 p b=⟨[],[],[]⟩:=by unfold fd0;rw[if_neg h]
  rw[e0];exact⟨⟨cR,rfl,cR⟩,λt ht=>(nomatch ht),λt ht=>(nomatch ht),λy hy=>(nomatch hy),List.Pairwise.nil,λh=>absurd rfl h,cR,λe he=>(nomatch he),λrow hr=>(nomatch hr),λrow hr=>(nomatch hr),List.Pairwise.nil,λe he=>(nomatch he),λe he=>(nomatch he),λe he=>(nomatch he),λz=>absurd z h⟩
theorem Wk.take(hpr:∀k,k<L.length->1<=prK L k)(W:Wk p L b dn r rest S):∀j,j<=rest.length->Wk p L b (dn++(rest.take j).map rwP) r (rest.drop j) (fdP p L b r S<|rest.take j)
 |0,_=>by rw[aNW,eO,bN];exact W
 |j+1,hj=>by
  have ih:=Wk.take hpr W j (by omega);have lj:j<rest.length:=by omega
  rw[dH lj] at ih;have:=ih.step hpr;rw[<-vY] at this
  have et:rest.take (j+1)=rest.take j++[rest[j]]:=by rw[eF,fJ lj];rfl
  rw[et,aX,<-dM];exact this
theorem Wk.turn(hpr:∀k,k<L.length->1<=prK L k)(W:Wk p L b dn r [] S)(hne:S.T≠[]):∃t:(Int×Int)×List Pr2,S.T[eV S.T]? =some t/\(∀s∈S.T,¬ rlt s.1 t.1)/\t.2.Nodup/\t.2≠[]/\Wk p L b dn t.1 (gK t.2) {S with T:=S.T.eraseIdx (eV S.T)}/\fdT p L b S=fdP p L b t.1 {S with T:=S.T.eraseIdx (eV S.T)} (gK t.2)/\Wk p L b (dn++(gK t.2).map rwP) t.1 [] (fdT p L b S):=by
 obtain⟨t,ht,hm⟩:=aHD hne;obtain⟨n1,W1⟩:=W.pop ht hm
 have e:fdT p L b S=fdP p L b t.1 {S with T:=S.T.eraseIdx (eV S.T)} (gK t.2):=by unfold fdT;rw[ht]
 refine⟨t,ht,hm,n1,W.ne t<|bA ht,W1,e, ?_⟩;have:=W1.take hpr (gK t.2).length<|aN _;rw[fW,uZ] at this;rw[e];exact this
theorem aBT(hpr:∀k,k<L.length->1<=prK L k){M:Nat}:∀ (m:Nat) {dn:List (List Nat)}{r:Int×Int}{S:FdS},Wk p L b dn r [] S->1+M*L.length<dn.length+m->∃dn' r',Wk p L b dn' r' [] (jA p L b m S)/\((jA p L b m S).T=[]\/M<(jA p L b m S).fd.length)
 |0,dn,r,S,W,h=>by
  refine⟨dn,r,W,.inr ?_⟩;show M<S.fd.length;refine Nat.lt_of_not_le λq=> ?_
  have:=W.few2;have:=aGe L.length q;omega
 |m+1,dn,r,S,W,h=>by
  show ∃dn' r',Wk p L b dn' r' [] (if S.T=[] then S else jA p L b m (fdT p L b S))/\((if S.T=[] then S else jA p L b m (fdT p L b S)).T=[]\/M<(if S.T=[] then S else jA p L b m (fdT p L b S)).fd.length)
  by_cases q:S.T=[]
  ·rw[if_pos q];exact⟨dn,r,W,.inl q⟩
  ·rw[if_neg q];obtain⟨t,_,_,_,ne,_,_,W2⟩:=W.turn hpr q;refine aBT hpr m W2 ?_
   have:0<(gK t.2).length:=by rw[(hV t.2).length_eq];exact jE.mpr ne
   rw[aH,aC];omega
theorem aAA(b:Int)(r:Int×Int):∀ (xs:List Pr2) (S:FdS),S.fd<+:(fdP p L b r S xs).fd
 |[],S=>kQ _
 |y::xs,S=>by
  show S.fd<+:(fdP p L b r (fdI p L b r S<|unP y) xs).fd;refine List.IsPrefix.trans ?_<|aAA b r xs _;unfold fdI
  split
  ·exact kQ _
  ·exact List.prefix_append ..
theorem aKx(S:FdS):S.fd<+:(fdT p L b S).fd:=by
 unfold fdT
 split
 ·exact kQ _
 ·exact aAA b _ _ {S with T:=S.T.eraseIdx (eV S.T)}
theorem aDR:∀ (m:Nat) (S:FdS),S.fd<+:(jA p L b m S).fd
 |0,S=>kQ _
 |m+1,S=>by
  show S.fd<+:(if S.T=[] then S else jA p L b m (fdT p L b S)).fd
  split
  ·exact kQ _
  ·exact(aKx S).trans<|aDR m _
structure BkFOk(p:Int×Int)(L:List SK)(b:Int)(B:List (Int×List Nat×List Nat)):Prop where
 len:B.length<=500
 ent:∀e∈B,iJ L e.2.1/\e.1=S45.prQ (prK L) e.2.1/\e.1<=b/\e.2.2=nrQ p L e.2.1/\e.2.1.length<=300
 nd:(B.map λe=>e.2.2).Nodup
 srt:(B.map λe=>e.2.1).Pairwise (klt L)
 cl:∀e∈B,∀k,k<L.length->e.1+prK L k<=b->∃e'∈B,e'.2.2=nrQ p L (e.2.1++[k])/\kle L e'.2.1 (e.2.1++[k])
 st:0<=b->∃e∈B,e.2.2=nrQ p L []/\kle L e.2.1 []
structure Fit(p:Int×Int)(L:List SK)(b:Int):Prop where
 l8:L.length<=8
 b3:b<=300
 le:(bkF p L b).length<=500
theorem aDI{pr:Nat->Int}:∀ (row:List Nat),(∀k∈row,1<=pr k)->(row.length:Int)<=S45.prQ pr row
 |[],_=>xS _
 |k::row,h=>by
  have ih:=aDI row λj hj=>h j<|aF _ hj
  have h1:=h k<|aJ ..;show((row.length+1:Nat):Int)<=(pr k::row.map pr).sum;rw[aOq];unfold S45.prQ at ih;omega
theorem aLo(hpr:∀k,k<L.length->1<=prK L k)(F:Fit p L b):∃dn r,Wk p L b dn r [] (jA p L b 4002<|fd0 p b)/\(jA p L b 4002<|fd0 p b).T=[]:=by obtain⟨dn,r,W,e⟩:=aBT (M:=500) hpr 4002 (wk0 p L b) (by have:=F.l8;simp;omega);exact⟨dn,r,W,e.resolve_right<|by have:=F.le;unfold bkF at this;omega⟩
theorem aIX(hpr:∀k,k<L.length->1<=prK L k)(F:Fit p L b):BkFOk p L b (bkF p L b):=by
 obtain⟨dn,r,W,e⟩:=aLo hpr F
 have cv:∀c,Cov p L (jA p L b 4002<|fd0 p b) [] c->∃e∈(jA p L b 4002<|fd0 p b).fd,e.2.2=nrQ p L c/\kle L e.2.1 c:=λc h=>by
  rcases h with h|h|h
  ·rw[e] at h;cases h
  ·cases h
  ·exact h
 refine⟨F.le,λe he=> ?_,by have:=W.ok.nd;rw[W.ok.kn] at this;exact this,W.srt,λe he k hk hle=>cv _<|W.cl e he k hk hle,λh=>cv _<|W.st h⟩;obtain⟨h1,h2,h3,h4,h5⟩:=W.fd e he;refine⟨h2,h3,h4,h5, ?_⟩;have:=aDI (pr:=prK L) e.2.1 λk hk=>hpr k<|h2 k hk
 have:=F.b3;omega
theorem BkFOk.all{B:List (Int×List Nat×List Nat)}(hpr:∀k,k<L.length->1<=prK L k)(O:BkFOk p L b B):∀row,iJ L row->S45.prQ (prK L) row<=b->∃e∈B,e.2.2=nrQ p L row/\kle L e.2.1 row:=by
 have g:∀ (n:Nat) (row:List Nat),row.length=n->iJ L row->S45.prQ (prK L) row<=b->∃e∈B,e.2.2=nrQ p L row/\kle L e.2.1 row:=λn=>by
  induction n with
  |zero=>intro row hl _ hb;have:row=[]:=gY hl;subst this;exact O.st hb
  |succ n ih=>
   intro row hl ho hb;have hne:row≠[]:=λz=>by rw[z] at hl;cases hl
   have ed:=lN hne;generalize row.dropLast=q at ed;generalize row.getLast hne=k at ed;subst ed;have kn:k<L.length:=ho k (by simp);have h1:=hpr k kn;rw[S45.pr_snoc] at hb;obtain⟨e,he,e1,e2⟩:=ih q (by simpa using hl) (λi hi=>ho i<|bO _ hi) (by omega);obtain⟨_,h3,_,h5,_⟩:=O.ent e he
   have le:S45.prQ (prK L) e.2.1<=S45.prQ (prK L) q:=by
    rcases e2 with z|(z|⟨z,_⟩)
    ·rw[z];exact xS _
    ·have:(rkR L e.2.1).1<=(rkR L q).1:=by unfold rlt at z;omega
     exact this
    ·exact Int.le_of_eq<|congrArg Prod.fst z
   obtain⟨e',he',e3,e4⟩:=O.cl e he k kn (by omega);refine⟨e',he', ?_,aNN e4<|aHi k e2⟩;rw[e3,aAq,aAq,<-h5,e1]
 exact λrow=>g row.length row rfl
noncomputable def fdD(e:Int×List Nat×List Nat):D:=.tup [.int e.1,.tup<|bM e.2.1,.tup<|bM e.2.2]
def aIe:List D->R->Prop:=λds r=>∃p L b,p∈bY/\StkOk p L/\Fit p L b/\ds=[.lst (L.map<|mvD p),.int b,.tup (bM<|st0 p)]/\r=.own ((bkF p L b).map fdD)
noncomputable def yV(ds:List D):List Nat:=ds.map λd=>match d with | .int i=>i.toNat|_=>0
theorem aEk(l:List Nat):yV (bM l)=l:=by unfold yV bM;rw[aU];exact(cK λi _=>dI i).trans<|lB l
noncomputable def unE:D->Int×List Nat×List Nat
 |.tup [.int a,.tup r,.tup n]=>(a,yV r,yV n)
 |_=>(0,[],[])
theorem aJn(e:Int×List Nat×List Nat):unE (fdD e)=e:=by show(e.1,yV<|bM e.2.1,yV<|bM e.2.2)=e;rw[aEk,aEk]
noncomputable def bkQ(p:Int×Int)(L:List SK)(b:Int):List Bk:=(bkF p L b).map λe=>(e.1,e.2.1,jP p e.2.2)
def aJr:List D->R->Prop:=λds r=>∃p L b,p∈bY/\StkOk p L/\(L.map λs=>sqD s.1).Nodup/\Fit p L b/\ds=[cC p,.lst<|L.map skD,.int b]/\r=.own ((bkQ p L b).map enD)
section
open PySem.W PySem.Calls Att
end
section
open PySem.SeqAt
open PySem.AutoSeq1 (wpAny_loadPart')
open PySem.MeetsSeq PySem.MeetsSeq2 PySem.MeetsSeq3
end
structure aPI(p:Int×Int)(L:List SK)(b:Int)(B:List Bk):Prop where
 len:B.length<=500
 ent:∀e∈B,iJ L e.2.1/\e.1=S45.prQ (prK L) e.2.1/\e.1<=b/\e.2.2=S45.tabQ (yA p L) (cB p) e.2.1/\e.2.1.length<=300
 nd:(B.map λe=>e.2.2).Nodup
 srt:(B.map λe=>e.2.1).Pairwise (klt L)
 cl:∀e∈B,∀k,k<L.length->e.1+prK L k<=b->∃e'∈B,e'.2.2=yA p L k e.2.2/\kle L e'.2.1 (e.2.1++[k])
 st:0<=b->∃e∈B,e.2.2=cB p/\kle L e.2.1 []
 all:∀row,iJ L row->S45.prQ (prK L) row<=b->∃e∈B,e.2.2=S45.tabQ (yA p L) (cB p) row/\kle L e.2.1 row
theorem aNp(hp:p∈bY)(S:StkOk p L)(F:Fit p L b):aPI p L b (bkQ p L b):=by
 have O:=aIX (p:=p) S.pr F;have nr:∀ {row:List Nat},iJ L row->NOk p (nrQ p L row)/\jP p (nrQ p L row)=S45.tabQ (yA p L) (cB p) row:=λh=>aDl hp (λs hs=>(S.st s hs).1) h
 have mem:∀ {e:Int×List Nat×List Nat},e∈bkF p L b->(e.1,e.2.1,jP p e.2.2)∈bkQ p L b:=λh=>aP.mpr ⟨_,h,rfl⟩
 refine⟨by unfold bkQ;rw[aC];exact O.len,λx hx=> ?_, ?_, ?_,λx hx k hk hle=> ?_,λh=> ?_,λrow ho hr=> ?_⟩
 ·obtain⟨e,he,rfl⟩:=aP.mp hx;obtain⟨h1,h2,h3,h4,h5⟩:=O.ent e he;exact⟨h1,h2,h3,by show jP p e.2.2=_;rw[h4];exact(nr h1).2,h5⟩
 ·unfold bkQ;rw[aU];have:(bkF p L b).map ((λe:Bk=>e.2.2) ∘ λe=>(e.1,e.2.1,jP p e.2.2))=((bkF p L b).map λe=>e.2.2).map (jP p):=by rw[aU];rfl
  rw[this];have q:=O.nd;unfold List.Nodup at q ⊢;rw[nE];refine List.Pairwise.imp_of_mem (λ{a c} ha hc h z=>h ?_) q;obtain⟨e,he,rfl⟩:=aP.mp ha;obtain⟨e',he',rfl⟩:=aP.mp hc;have n1:=(nr (O.ent e he).1).1;have n2:=(nr (O.ent e' he').1).1;rw[<-(O.ent e he).2.2.2.1] at n1;rw[<-(O.ent e' he').2.2.2.1] at n2;exact aGD hp n1 n2 z
 ·unfold bkQ;rw[aU];exact O.srt
 ·obtain⟨e,he,rfl⟩:=aP.mp hx;obtain⟨e',he',h1,h2⟩:=O.cl e he k hk hle;obtain⟨o1,_,_,o4,_⟩:=O.ent e he;refine⟨_,mem he', ?_,h2⟩
  have ho:iJ L (e.2.1++[k]):=λi hi=>by
   rcases aS.mp hi with hi|hi
   ·exact o1 i hi
   ·rw[aI.mp hi];exact hk
  show jP p e'.2.2=yA p L k (jP p e.2.2);rw[h1,(nr ho).2,S45.tab_snoc,o4,(nr o1).2]
 ·obtain⟨e,he,h1,h2⟩:=O.st h;refine⟨_,mem he, ?_,h2⟩;show jP p e.2.2=cB p;rw[h1];exact aEq p
 ·obtain⟨e,he,h1,h2⟩:=O.all S.pr row ho hr;refine⟨_,mem he, ?_,h2⟩;show jP p e.2.2=_;rw[h1];exact(nr ho).2
theorem aKy(hp:p∈bY)(S:StkOk p L)(h:iJ L row):(S45.tabQ (yA p L) (cB p) row).length=(cB p).length:=by obtain⟨q1,q2⟩:=aDl hp (λs hs=>(S.st s hs).1) h;rw[<-q2];unfold jP;rw[aC];exact q1.1
open PySem.W (KasT kas_sort)
noncomputable def doQ(p:Int×Int)(w:List (Option (List<|List Int)))(T:List (List Int)):Bool:=(vB w (cB p) T).isNone
noncomputable def ftQ(p:Int×Int)(w:List (Option (List<|List Int)))(B:List Bk):Option Bk:=B.find? λe=>doQ p w e.2.2
noncomputable def oeD:Option Bk->D
 |none=>.non
 |some e=>enD e
def aGm:List D->R->Prop:=λds r=>∃p L b B w,p∈bY/\StkOk p L/\aPI p L b B/\aBo p w/\ds=[cC p,.lst<|B.map enD,.lst<|w.map wsD]/\r=.val (oeD<|ftQ p w B)
theorem aLk(hp:p∈bY)(S:StkOk p L)(h:iJ L row):yQ p (S45.tabQ (yA p L) (cB p) row):=⟨aKy hp S h,λws hw=>lU hp<|aHj hp S h ws hw⟩
def FI(K:aA)(mg:Str->Option BC)(n:Str)(st:BI):Prop:=∃f fd,mg n=some (.ref f)/\Fun K n n st f fd
theorem FI.mk{h:BG}{mg:Str->Option BC}{n:Str}{st:BI}{od an:Option BE}{sl:Array (Option BC)}{oc kV dc pm cd ct:BC}{f:BE}(X:K.In h)(G:h.Ns AR mg)(a:iQ K AR n=some (some<|.ref f))(l:K.lookup f=some ⟨oc,od,.func<|cE n n (eA st) (cN st) (aO st) .none kV dc pm an cd ct,sl⟩)(c:eG K cd n=true)(k:cO K (.ref f)=true):FI K mg n st:=⟨f,_,hX X G a,zZ (st:=st) l c k⟩
def JSh(p:Int×Int)(L:List SK)(ks:List Key)(ds:List D):Prop:=ks.Nodup/\ks.length=ds.length/\∀ (n:Nat) (k:Key),ks[n]? =some k->∃b:Nat,b<=900/\k=Sum.inl (b:Int)/\ds[n]? =some (D.lst<|(bkQ p L (b:Int)).map enD)/\Fit p L (b:Int)
theorem JSh.nil:JSh p L [] []:=⟨cR,rfl,λn k h=>by simp at h⟩
theorem JSh.len{ks:List Key}(h:JSh p L ks ds):ds.length<=10000:=by
 have:=h.1.length_le_of_subset (l₂:=(bQ 901).map λ(b:Nat)=>(.inl (b:Int):Key)) λk hk=>by obtain⟨n,hn⟩:=dU hk;obtain⟨b,hb,e,_⟩:=h.2.2 n k hn;exact aP.mpr ⟨b,cX.mpr<|by omega,e.symm⟩
 rw[aC,fP] at this;have:=h.2.1;omega
theorem JSh.put{ks:List Key}(h:JSh p L ks ds){b:Nat}(hb:b<=900)(ft:Fit p L (b:Int))(hk:(.inl (b:Int):Key)∉ks):JSh p L (ks++[.inl (b:Int)]) (ds++[.lst<|(bkQ p L (b:Int)).map enD]):=by
 refine⟨bH.mpr ⟨h.1,bV.mpr ⟨by simp,cR⟩,λa ha c hc e=>hk ?_⟩,by rw[aH,aH,h.2.1];rfl,λn k hn=> ?_⟩
 ·rw[<-aI.mp hc,<-e];exact ha
 ·by_cases hl:n<ks.length
  ·rw[eB hl] at hn;obtain⟨b',q1,q2,q3,q4⟩:=h.2.2 n k hn;exact⟨b',q1,q2,by rw[eB<|by rw[<-h.2.1];exact hl];exact q3,q4⟩
  ·have e:n=ks.length:=by have:=(aE.mp hn).1;rw[aH] at this;simp at this;omega
   subst e;rw[yE] at hn;refine⟨b,hb,(bZ.inj hn).symm, ?_,ft⟩;rw[h.2.1,yE]
theorem JSh.at_{ks:List Key}(h:JSh p L ks ds){b:Nat}(hk:(.inl (b:Int):Key)∈ks):∃n:Nat,ks[n]? =some (Sum.inl (b:Int))/\ds[n]? =some (D.lst<|(bkQ p L (b:Int)).map enD):=by
 obtain⟨n,hn⟩:=dU hk;obtain⟨b',_,e,q,_⟩:=h.2.2 n _ hn
 have:b=b':=by have:=Sum.inl.inj e;omega
 subst this;exact⟨n,hn,q⟩
noncomputable def aOG(p:Int×Int)(L:List SK):List (Str×D):=[("size",cC p),("stock",.lst<|L.map skD)]
noncomputable abbrev shZ(K:aA)(C:BE)(p:Int×Int)(L:List SK):Lent K:=shL K C (aOG p L)<|JSh p L
structure aQl(p:Int×Int)(L:List SK)(b:Nat):Prop where
 hp:p∈bY
 st:StkOk p L
 nd:(L.map λs=>sqD s.1).Nodup
 fit:Fit p L (b:Int)
 le:b<=900
def aQc{α:Type}(p:Int×Int)(L:List SK):α->List D->D->Prop:=λ_ ds d=>∃b:Nat,aQl p L b/\ds=[.int (b:Int)]/\d=.lst ((bkQ p L (b:Int)).map enD)
noncomputable def pfD:Option Bk->D
 |none=>.non
 |some e=>.tup<|bM e.2.1
noncomputable def pcQ(p:Int×Int)(L:List SK)(row:List Nat)(pl mn:Nat)(bs:List Nat):Option Bk:=ftQ p (waQ p L row pl mn bs) (bkQ p L<|uC (tY L<|(row.drop pl).take mn)-1)
structure aOf(p:Int×Int)(L:List SK)(row:List Nat)(pl mn:Nat)(o:Option (List Nat)):Prop where
 rw:∀t∈row,t<L.length
 rl:row.length<=100
 m1:1<=mn
 le:pl+mn<=row.length
 lk:aLv p o
 bk:∃b:Nat,uC (tY L<|(row.drop pl).take mn)-1=(b:Int)/\aQl p L b
def CPf{α:Type}(p:Int×Int)(L:List SK):α->List D->D->Prop:=λ_ ds d=>∃row pl mn o,aOf p L row pl mn o/\ds=[.tup<|bM row,.int (pl:Int),.int (mn:Int),lkD o]/\d=pfD (pcQ p L row pl mn<|bxQ p.2.toNat o)
def aJE:List D->R->Prop:=λds r=>∃p L row pl mn o,aOf p L row pl mn o/\ds=[cC p,.lst<|L.map skD,.tup<|bM row,.int (pl:Int),.int (mn:Int),lkD o]/\r=.val (pfD (pcQ p L row pl mn<|bxQ p.2.toNat o))
theorem aEy{C:BE}{fs:List (Str×D)}{J:List Key->List D->Prop}{a:BE×BE}(F H:Hp)(h:(shL K C fs J).G a (.ref<|(shL K C fs J).ad a) F H):aJm K C "book_up_to" ((shL K C fs J).ad a) F:=by obtain⟨_,⟨x,dx,od,mA,e,h1,h2,ne,ns,_,_,hb⟩,_⟩:=h;cases e;exact⟨dx,od,mA,h1,h2,ne,ns,hb⟩
theorem sW{C:BE}{fs:List (Str×D)}{J:List Key->List D->Prop}(a:BE×BE)(v:V)(F H:Hp)(b:BE)(o:HO)(h:(shL K C fs J).G a v F H)(hb:b∈(shL K C fs J).own a)(e:H b=some o):¬ mS o:=by obtain⟨_,_,ks,ds,_,xs,q,_⟩:=h;rw[aI.mp hb] at e;have e':=q.symm.trans e;cases e';exact id
variable (Z:Lent K)
noncomputable def aLB(n:Nat)(C:Z.α->List D->Prop):Sp:=λvs H _ E=>vs.length=n/\∃ (v:V) (us:List V) (F:Hp) (a:Z.α) (ds:List D),vs=v::us/\Same F H/\(∀b,b∉Z.own a->H b=F b)/\Smp H/\dR K F H (Z.sl a) (some v)/\(Z.own a).Nodup/\RepL K F ds us/\C a ds/\∀x H',Same F H'->Smp H'->E (.ref x) (some x) H'
noncomputable def spXM(n:Nat)(C:Z.α->List D->Prop):Sp:=λvs H _ E=>vs.length=n/\Smp H/\∃ (v:V) (us:List V) (F:Hp) (a:Z.α) (ds:List D),vs=v::us/\Same F H/\dR K F H (Z.sl a) (some v)/\(Z.own a).Nodup/\RepL K F ds us/\C a ds/\∀x H',(∀b o,b∉Z.own a->H b=some o->H' b=some o)->Smp H'->E (.ref x) (some x) H'
theorem FnOk.framedX{Z:Lent K}{mg:Str->Option BC}{base:BG}{k:Nat}{f:BE}{fd:AN}{ps:List Str}{C:Z.α->List D->Prop}{cls:BC}(G:FnOk P w K mg base (CX1 P w cls) k f fd ps (aLB Z n C)):FnOk P w K mg base (CX1 P w cls) k f fd ps (spXM Z n C):=by
 have res:∀ {F H:Hp}{a:Z.α}{v:V},Same F H->dR K F H (Z.sl a) (some v)->Same F (kR (Z.own a) F H)/\Same (kR (Z.own a) F H) H/\dR K F (kR (Z.own a) F H) (Z.sl a) (some v):=λ{F H a v} sF so=>by
  obtain⟨v',ev,ow,gg⟩:=so;refine⟨λb o e=> ?_,λb o e=> ?_,v',ev,λb hb=>⟨(ow b hb).1, ?_⟩,λF' H' s k=>gg F' H' s λb hb ob e=>k b hb ob<|by rw[lF hb];exact e⟩
  ·by_cases h:b∈Z.own a
   ·rw[(ow b h).1] at e;cases e
   ·rw[gQ h];exact e
  ·by_cases h:b∈Z.own a
   ·rw[lF h] at e;exact e
   ·rw[gQ h] at e;exact sF b o e
  ·rw[lF hb];exact(ow b hb).2
 refine⟨λvs H Q E h=> ?_,λA outer s H args us vs Q E hr e0 hb rv h=> ?_⟩
 ·obtain⟨hl,sm,v,us,F,a,ds,e,sF,so,nd,rl,c,_⟩:=h;obtain⟨q1,q2,q3⟩:=res sF so;exact G.len vs (kR (Z.own a) F H) (λ_ _=>True) (λ_ _ _=>True) ⟨hl,v,us,F,a,ds,e,q1,λb hb=>gQ hb,sm.sub q2,q3,nd,rl,c,λ_ _ _ _=>trivial⟩
 ·obtain⟨hl,sm,v,us',F,a,ds,ev,sF,so,nd,rl,c,q⟩:=h;obtain⟨q1,sU,q3⟩:=res sF so;obtain⟨_,_,ow,_⟩:=id so;have nU:∀b,b∉Z.own a->F b=none->kR (Z.own a) F H b=none:=λb hbl n=>by rw[gQ hbl];exact n
  have e1:Env0 P w K mg base A outer s (kR (Z.own a) F H):=⟨e0.frames,e0.mod,λb o e=>⟨(e0.bs b o e).1,sU.free (e0.bs b o e).2⟩,e0.bsz,e0.funs,λb hb=>sU.free<|e0.frf b hb,λb o e=>(e0.hok b o<|sU b o e).smp (sm b o<|sU b o e),e0.bare⟩;refine Ap (G.run A outer s (kR (Z.own a) F H) args us vs (λ_ _=>False) (λ_ _ H'=>Same F H'/\Smp H') hr e1 hb rv ⟨hl,v,us',F,a,ds,ev,q1,λb hb=>gQ hb,sm.sub sU,q3,nd,rl,c,λx H' z1 z2=>⟨z1,z2⟩⟩) λrr s' hrr=> ?_
  cases rr with
  |error e=>
   obtain⟨x,T,F3,rfl,os,bare,un,hk,ex,s3,sm3⟩:=hrr
   have keepF:∀b o,b∉Z.own a->H b=some o->F b=none->F3 b=none:=λb o hbl e n=>by obtain⟨ob,g⟩:=oN<|e0.hok b o e;exact un.free b ob g (nU b hbl n)<|by simp
   have keepO:∀b o,b∉Z.own a->H b=some o->F b=none->∀ob,s.heap.get? b=some ob->s'.heap.get? b=some ob:=λb o hbl e n ob g=>un.keep b ob g (nU b hbl n) (λhb=>by have:=e0.frf b hb;rw[e] at this;cases this)<|by simp
   have sH:∀b o,b∉Z.own a->H b=some o->fS (Z.own a) F3 H b=some o:=λb o hbl e=>by
    cases g:F b with
    |none=>rw[gE hbl<|keepF b o hbl e g];exact e
    |some o'=>have:=sF b o' g;rw[e] at this;cases this;exact fN _ _<|s3 _ _ g
   have nl:∀ {b:BE}{o:HO},H b=some o->¬ Wr b o->b∉Z.own a:=λe no z=>by obtain⟨_,ob,g,wr⟩:=ow _ z;rw[e] at g;cases g;exact no wr
   have nn:∀ {b:BE},H b=none->b∉Z.own a:=λe z=>by obtain⟨_,ob,g,_⟩:=ow _ z;rw[e] at g;cases g
   have hN:∀ {b:BE},s.heap.get? b=none->H b=none:=λ{b} e=>by
    cases g:H b with
    |none=>rfl
    |some u=>obtain⟨ob,q2⟩:=oN<|e0.hok b u g;rw[e] at q2;cases q2
   have smM:Smp (fS (Z.own a) F3 H):=λb o e=>by
    by_cases hbl:b∈Z.own a
    ·unfold fS at e;rw[if_pos hbl] at e;exact sm3 _ o e
    ·cases g:F3 b with
     |some o'=>have:=fN (as:=Z.own a) (H:=H) b o' g;rw[e] at this;cases this;exact sm3 b o g
     |none=>rw[gE hbl g] at e;exact sm b o e
   refine⟨x,T,fS (Z.own a) F3 H,rfl,os,bare,⟨λb o g n hb hx=>un.keep b o g (sU.free n) hb hx,λb o g n hb hx=>un.slot b o g (sU.free n) hb hx,λb o g n hx=> ?_,un.there,λb xs e=>sH _ _ (nl e λz=>z) e,λb o u e=>sH _ _ (nl e λz=>z) e,λb ps e=>⟨#[],by rw[sH _ _ (nl e λz=>z) e];simp⟩⟩,λb o e=> ?_,⟨?_,ex.new, ?_,ex.newT,ex.obj⟩,q x _ sH smM⟩
   ·rw[gE (nn n)<|un.free b o g (sU.free n) hx];exact n
   ·have z:=smM b o e
    by_cases hbl:b∈Z.own a
    ·have e':F3 b=some o:=by unfold fS at e;rw[if_pos hbl] at e;exact e
     exact(hk b o e').smp z
    ·cases g:F3 b with
     |some o'=>have:=fN (as:=Z.own a) (H:=H) b o' g;rw[e] at this;cases this;exact(hk b o g).smp z
     |none=>
      rw[gE hbl g] at e
      have n:F b=none:=by
       cases g2:F b with
       |none=>rfl
       |some o2=>rw[s3 _ _ g2] at g;cases g
      have st:=(e0.hok b o e).smp (F:=λ_=>none) z
      have:ObjOk P w (fun _=>none) s'.heap b o:=st.stay (fun b2 u hb2 gg=>by
       rcases hb2 with rfl|hb2
       ·exact keepO _ o hbl e n u gg
       ·cases hb2) (λb2 hb2=>nomatch hb2) λb2 xs hb2=>nomatch hb2
      exact this.smp z
   ·rw[gE (nn<|hN ex.new) ex.free];exact hN ex.new
   ·rw[gE (nn<|hN ex.newT) ex.freeT];exact hN ex.newT
  |ok flw=>
   cases flw with
   |ret u=>obtain⟨_,_,_,_,_,_,_,z⟩:=hrr;exact z.elim
   |_=>exact hrr
variable {Z:Lent K}{mg:Str->Option BC}{base:BG}{qual:Str}{st:BI}{f:BE}{fd:AN}{N ps:List Str}{k:Nat}{C:Z.α->List D->Prop}{cls:BC}
theorem aJz(F:Fun K x qual st f fd)(S:gO N ps (aO st))
  (body:∀ (cdv:BC) (A:BF) (outer:List Env) (s:BD) (H:Hp) (E:XK) (B:Hp) (hB:∀b o,H b=some o→mS o→B b=some o),Room k (A.deeper (Ai qual (aO st) s.heap.objs.size f cdv))→(∀x H',Same B H'→Smp H'→E (.ref x) (some x) H')→∀a ds,ds.length+1=ps.length→C a ds→
   PSd (reB (iF (CX1 P w cls) P w K mg base N qual (aO st) f cdv A outer s H E) B hB) (jV Z N.length a ds) (cN st) {nx:=λ_=>False,rt:=λ_=>False})
  (hw:∀ (a:Z.α) (v:V) (F H:Hp) (b:BE) (o:HO),Z.G a v F H->b∈Z.own a->H b=some o->¬ mS o):FnOk P w K mg base (CX1 P w cls) (k+1) f fd ps (aLB Z ps.length C):=by
 obtain⟨oc,od,kV,doc,pm,an,cdv,ct,osl,rfl,lk,hcd⟩:=F.ex;refine aGq lk hcd S (λvs H Q E h=>h.1) λA outer s H vs Q E hr h=> ?_
 obtain⟨hl,v,us,F0,a,ds,rfl,sF,hH,sm,so,nd,rl,c,q⟩:=h;have hds:ds.length+1=ps.length:=by rw[<-rl.len];exact hl
 have hB:∀b o,H b=some o->mS o->F0 b=some o:=λb o e no=>by
  by_cases hbl:b∈Z.own a
  ·obtain⟨_,_,_,gg⟩:=so;exact absurd no<|hw a _ F0 H b o (gg F0 H (Same.refl _) λ_ _ _ e=>e) hbl e
  ·rw[<-hH b hbl];exact e
 refine⟨_,pss_w,aAG (B:=F0) (hb:=hB) ?_⟩;have hlen:N.length-(us.length+1)=N.length-(ds.length+1):=by rw[rl.len]
 have S0:StF K F0 F0 H (L2.start N (v::us)) (jV Z N.length a ds):=by
  refine⟨Same.refl _,sF,sm, ?_, ?_⟩
  ·unfold L2.start jV;show SlotsOk K F0 _ (_::_) (some v::(us.map some++bG (N.length-(us.length+1)) none));rw[hlen];exact⟨_,_,rfl,so,jG (m:=0) rl⟩
  ·unfold jV;rw[lQ,jH,bN];exact nd
 exact(body cdv A outer s _ E F0 hB hr q a ds hds c (L2.start N (v::us)) F0 _ S0).imp (λ_ _ ⟨_,_,_,_,z⟩=>z.elim) (λ_ _ ⟨_,_,z⟩=>z.elim) (λ_ _ ⟨_,_,_,_,z⟩=>z.elim) λ_ _ ⟨_,_,_,_,z⟩=>z.elim
theorem qO{scope:Scope}{cdv:BC}{outer:List Env}{B:Hp}{E:XK}{hB:∀b o,H b=some o->mS o->B b=some o}(hE:∀x H',Same B H'->Smp H'->E (.ref x) (some x) H'):Takes (reB (iF (CX1 P w cls) P w K mg base N qual scope f cdv A outer s H E) B hB) cls sd:=λpins σ F H' s' a T I S x _=>wF (X:=reB (iF (CX1 P w cls) P w K mg base N qual scope f cdv A outer s H E) B hB) (E:=E) I rfl ⟨rfl,rfl⟩ x<|hE a H' (λb o e=>S.sub _ _<|S.base _ _ e) S.smp
structure iY(P:AE)(w:AM)(K:aA)(Z:Lent K)(mg:Str->Option BC)(base:BG)(x:Str)(k n:Nat)(C:Z.α->List D->Prop)(cls:BC):Prop where
 ex:∃ (f:BE) (fd:AN) (ps:List Str),mg x=some (.ref f)/\cO K (.ref f)=true/\Binds K fd ps []/\FnOk P w K mg base (CX1 P w cls) k f fd ps (aLB Z n C)
variable {b:Expr}{es:List Expr}{p apos:Pos}{Cl:BE}{m g:Str}{pins:List (BE×BH)}{s':BD}{ev:BC}
theorem vQ{as:List BE}{sd2:List Slot}(hex:X.ex=[])(I:Inv X pins σ H s)(S:StF X.K X.B₀ F H σ sd2)(na:∀b∈as,F b=none/\b∉cA sd2)(h:CX1 X.prog X.w cls X.stack H s (λ_ _ H'=>(∀b o,b∉as->H b=some o->H' b=some o)/\Smp H') ev s')(ht:Takes X cls sd2):X.xe ev s':=by
 obtain⟨a,T,H',rfl,os,bare,un,hok,x,sH,smH⟩:=h;have I2:Inv X pins σ H' s':=I.call' os un hok bare (λb z=>absurd z<|by simp)
 have fr:∀b,s.heap.get? b=none->X.s₀.heap.get? b=none:=λb q=>by
  cases g:X.s₀.heap.get? b with
  |none=>rfl
  |some o=>obtain⟨o1,q1⟩:=I.base.there b o g (λhb=>by rw[hex] at hb;cases hb);rw[q] at q1;cases q1
 have nw:∀b,s.heap.get? b=none->∀p∈X.pn++pins,p.1≠b:=λb q p hp z=>by have:=(I.pin p hp).1;rw[z,q] at this;cases this
 exact ht pins σ F H' s' a T I2 ⟨S.base,λb o e=>sH b o (λz=>by rw[(na b z).1] at e;cases e)<|S.sub _ _ e,smH,S.slots.mono (Same.refl _) λl hl=>⟨(S.slots.owns hl).1,λob e=>sH _ _ (λz=>(na l z).2 hl) e⟩,S.nd⟩ ⟨x.free,fr a x.new,x.freeT,fr T x.newT,x.obj⟩ λp hp=>⟨nw a x.new p hp,nw T x.newT p hp⟩
theorem aEH{Z:Lent X.K}{a:Z.α}(hs:sd[i]? =some (Z.sl a))(S:StF X.K X.B₀ F H σ sd):∀b∈Z.own a,F b=none/\b∉cA (sd.set i .un):=λb hb=>by obtain⟨o,_,v,_,ow,_⟩:=S.slots.get hs;exact⟨(ow b hb).1,gR S.nd hs (show b∈fK (Z.sl a) from hb)⟩
theorem aFQ{Z:Lent X.K}{C:Z.α->List D->Prop}{a:Z.α}(i:Nat)(hs:sd[i]? =some (Z.sl a))(hxi:PE X (.Name x p2) (iT i))(G:iY X.prog X.w X.K Z X.mg X.base g k n C cls)(hr:Room k X.A)(hg:Gl X g)(ha:PAd X sd es (ds.map R.val))(hc:C a ds)(hn:ds.length+1=n)(ht:Takes X cls (sd.set i .un))(hex:X.ex=[]:=by rfl)
  (hdb:(g==("__debug__":Str))=false:=by decide) (he:AB (.Name x p2::es) X.env=(false,eval (.Name x p2) X.env)::AB es X.env:=by rfl) (hpl:(AX pos<|AB es X.env).any (·.1)=false:=by rfl):
  PEx X sd (.Call (.Name g p) (.Name x p2::es) [] pos):=⟨fun σ F H S pins s I=>by
 obtain⟨fa,fd,ps,hm,hkp,bd,G⟩:=G.ex;obtain⟨o0,h1,v,h2,_⟩:=S.slots.get hs;refine AQ<|lG I hg hm ?_ hdb;refine eM (h₀:=X.base) I.ok.mod.kin hkp (thn ((dA hxi oK he) pos pins s σ H (λvs H'=>∃us F1,vs=v::us/\StF X.K X.B₀ F1 H' σ sd/\RepL X.K F1 ds us) I ⟨v,by rw[h1,h2],(ha σ F H S).imp λus H1 ⟨F1,S1,s1,q1⟩=>⟨us,F1,rfl,S1,q1.vals⟩⟩) λus s1 ⟨vs,H1,I1,r,us',F1,ev,S1,rl⟩=>⟨I1.kIn, ?_⟩) he hpl;subst ev;obtain⟨o1,g1,so⟩:=S1.slots.get hs
 have eo:o1=some v:=by rw[h1,h2] at g1;exact(bZ.inj g1).symm
 subst eo
 refine qV (dvs:=[]) (dws:=[]) (Q:=fun _ _=>False) (Ex:=fun _ _ H'=>(∀b o,b∉Z.own a→H1 b=some o→H' b=some o)∧Smp H') (FnOk.framedX G) hr bd .nil I1 r (by
  rw[bN]
  exact⟨by rw[bF,rl.len];exact hn,S1.smp,v,us',F1,a,ds,rfl,S1.sub,so,gN S1.nd hs,rl,hc,λx H' z1 z2=>⟨z1,z2⟩⟩) λe s' hcx=> ?_
 exact vQ hex I1 (S1.le (gB sd i)) (aEH hs S1) hcx ht⟩
theorem aFK{pl:Sem Bool}{Z:Lent X.K}{C:Z.α->List D->Prop}{a:Z.α}(i:Nat)(hs:sd[i]? =some (Z.sl a))(hxi:PE X (.Name x p2) (iT i))(hi:∀F H,Z.G a (.ref<|Z.ad a) F H->aJm X.K Cl m (Z.ad a) F)(c:Cls X.K Cl)(hm:aLG X.K Cl m f)(G:FnOk X.prog X.w X.K X.mg X.base (CX1 X.prog X.w cls) k f fd ps (aLB Z n C))(hr:Room k X.A)(bd:Binds X.K fd ps [])(ha:PAd X sd (e::es) (ds.map R.val))(hc:C a ds)(hn:ds.length+1=n)(ht:Takes X cls (sd.set i .un))(hex:X.ex=[]:=by rfl)
  (hst:AB (e::es) X.env=(false,eval e X.env)::AB es X.env:=by rfl) (hpl:(AX pos<|AB es X.env).any (·.1)=false:=by rfl)
  (ht2:eval (.Call (.Attribute (.Name x p2) m apos) (e::es) [] pos) X.env=(do
   let ov <-eval (.Name x p2) X.env
   standAt apos.atName
   let (f,first) <-holding [ov] (getMethod ov m pl)
   callWith pos f first (AX pos (AB (e::es) X.env)) (backToKw pos (keywordEach [] X.env))):=by rfl):
  PEx X sd (.Call (.Attribute (.Name x p2) m apos) (e::es) [] pos):=⟨fun σ F H S pins s I=>by
 obtain⟨o0,h1,v,h2,_,gg⟩:=S.slots.get hs;have g0:=gg F H (Same.refl _) λ_ _ _ e=>e
 have ev:=Z.hv g0;subst h2 ev;obtain⟨dx,od,mA,e1,e2,ne,ns,hmA⟩:=hi F H g0;refine aBa (pl:=pl) (thn (hxi pins s σ H (λv' H'=>v'=.ref (Z.ad a)/\H'=H) I ⟨.ref<|Z.ad a,h1,rfl,rfl⟩) λu s1 ⟨v',H',I1,r1,ev,eH⟩=> ?_) ht2;subst ev eH;cases(show u=Value.ref (Z.ad a) from r1);have g1:s1.heap.get? (Z.ad a)=some (cH Cl dx):=(I1.hok _ _<|S.sub _ _ e1).1;have g2:s1.heap.get? dx=some od:=(I1.hok dx _<|S.sub _ _ e2).1;refine aBH I1.kIn ⟨g1,ns _ g2,ne⟩ (c.get m) hm.at_ hm.fn hmA ?_;refine eM (first:=[.ref<|Z.ad a]) (h₀:=X.base) I.ok.mod.kin hm.kp (thn ((oK:PA X (e::es) _) pos pins s1 σ H' _ I1<|ha σ F H' S) λus s2 ⟨vs,H2,I2,r,F1,S1,s1',q1⟩=>⟨I2.kIn, ?_⟩) hst hpl;obtain⟨o1,q2,so⟩:=S1.slots.get hs
 have eo:o1=some (.ref<|Z.ad a):=by rw[h1] at q2;exact(bZ.inj q2).symm
 subst eo
 refine qV (us:= .ref (Z.ad a)::us) (vs:= .ref (Z.ad a)::vs) (dvs:=[]) (dws:=[]) (Q:=fun _ _=>False) (Ex:=fun _ _ H'=>(∀b o,b∉Z.own a→H2 b=some o→H' b=some o)∧Smp H') (FnOk.framedX G) hr bd .nil I2 (.cons rfl r) (by
  rw[bN]
  exact⟨by rw[bF,q1.vals.len];exact hn,S1.smp,.ref (Z.ad a),vs,F1,a,ds,rfl,S1.sub,so,gN S1.nd hs,q1.vals,hc,λx H' z1 z2=>⟨z1,z2⟩⟩) λe s' hcx=> ?_
 exact vQ hex I2 (S1.le (gB sd i)) (aEH hs S1) hcx ht⟩
theorem zM{e0:Expr}{Z:Lent X.K}{C:Z.α->List D->Prop}(js:List Nat)(h0:PSo X sd e0 Z)(G:iY X.prog X.w X.K Z X.mg X.base g k n C cls)(hr:Room k X.A)(hg:Gl X g)(ha:PA X es (aGp js))(hj:js.map (λj=>sd[j]?)=ds.map λd=>some<|Slot.val d)(hc:∀a,C a ds)(hn:ds.length+1=n)(ht:Takes X cls sd)(hex:X.ex=[]:=by rfl)
  (hdb:(g==("__debug__":Str))=false:=by decide) (he:AB (e0::es) X.env=(false,eval e0 X.env)::AB es X.env:=by rfl) (hpl:(AX pos<|AB es X.env).any (·.1)=false:=by rfl):
  PEx X sd (.Call (.Name g p) (e0::es) [] pos):=⟨fun σ F H S pins s I=>by
 obtain⟨fa,fd,ps,hm,hkp,bd,G⟩:=G.ex;refine AQ<|lG I hg hm ?_ hdb
 refine eM (h₀:=X.base) I.ok.mod.kin hkp (thn ((dA eK ha he) pos pins s σ H (fun vs H'=>∃v us F1 a,vs=v::us∧StF X.K X.B₀ F1 H' σ sd∧RepL X.K F1 ds us∧dR X.K F1 H' (Z.sl a) (some v)∧(Z.own a).Nodup∧∀l∈Z.own a,l∉cA sd) I ((h0.run σ F H S).imp fun v H1 ⟨F1,a,S1,s1,so,nd,no⟩=>by
  obtain⟨us,rl,q⟩:=tP S1 hj
  exact q H1 _ ⟨v,us,F1,a,rfl,S1,rl,so,nd,no⟩)) λus s1 ⟨vs,H1,I1,r,v,us',F1,a,ev,S1,rl,so,nd,no⟩=>⟨I1.kIn, ?_⟩) he hpl
 subst ev
 refine qV (dvs:=[]) (dws:=[]) (Q:=fun _ _=>False) (Ex:=fun _ _ H'=>(∀b o,b∉Z.own a→H1 b=some o→H' b=some o)∧Smp H') (FnOk.framedX G) hr bd .nil I1 r (by
  rw[bN]
  exact⟨by rw[bF,rl.len];exact hn,S1.smp,v,us',F1,a,ds,rfl,S1.sub,so,nd,rl,hc a,λx H' z1 z2=>⟨z1,z2⟩⟩) λe s' hcx=> ?_
 obtain⟨_,_,ow,_⟩:=so
 exact vQ hex I1 S1 (λb hb=>⟨(ow b hb).1,no b hb⟩) hcx ht⟩
theorem aMT(h:PEx X sd a):PEx X sd (.Compare a [.Is] [b] pos):=⟨λσ F H S=>(aDT aDu eK eK<|gP _).to<|(h.run σ F H S).imp λ_ _ z=>z.elim⟩
theorem aLs{r0:R}{e2:Expr}(hg:Gl X g)(hm:X.mg g=some (.ref f))(hkp:cO X.K (.ref f)=true)(h1:PEd X sd e r0)(h:PEx X sd e2)
  (hdb:(g==("__debug__":Str))=false:=by decide) (he:AB (e::e2::es) X.env=(false,eval e X.env)::AB (e2::es) X.env:=by rfl) (he2:AB (e2::es) X.env=(false,eval e2 X.env)::AB es X.env:=by rfl) (hpl:(AX pos<|AB (e2::es) X.env).any (·.1)=false:=by rfl):
  PEx X sd (.Call (.Name g p) (e::e2::es) [] pos):=⟨fun σ F H S pins s I=>by
 refine AQ<|lG I hg hm ?_ hdb
 exact eM (h₀:=X.base) I.ok.mod.kin hkp (thn ((dA eK (dA eK oK he2) he) pos pins s σ H (λ_ _=>False) I ((h1 σ F H S).imp λv H1 ⟨F1,S1,s1,q1⟩=>(h.run σ F1 H1 S1).imp λ_ _ z=>z.elim)) λus s1 ⟨vs,H1,I1,r,z⟩=>z.elim) he hpl⟩
def Gr(p:Int×Int)(L:List SK)(b:Int):Prop:=b<=300/\500<(bkF p L b).length
def aIp:List D->Prop:=λds=>∃p L b,p∈bY/\StkOk p L/\Gr p L b/\ds=[.lst (L.map<|mvD p),.int b,.tup (bM<|st0 p)]
def aAr:List D->Prop:=λds=>∃p L b,p∈bY/\StkOk p L/\(L.map λs=>sqD s.1).Nodup/\Gr p L b/\ds=[cC p,.lst<|L.map skD,.int b]
variable {tg iter o:Expr}{r ra rb:R}{d:D}{rest:List BI}
structure aLD(dv:Array BC)(K:aA)(x qual:Str)(st:BI)(f:BE)(fd:AN):Prop where
 ex:∃ (oc:BC) (od:Option BE) (T:BE) (kV doc pm:BC) (an:Option BE) (cdv ct:BC) (osl:Array (Option BC)) (tc:BC) (td:Option BE) (n:Nat) (tsl:Array (Option BC)),
  fd=cE x qual (eA st) (cN st) (aO st) (.ref T) kV doc pm an cdv ct/\K.lookup f=some ⟨oc,od,.func fd,osl⟩/\eG K cdv qual=true/\K.lookup T=some ⟨tc,td,.seq dv n,tsl⟩
 kp:cO K (.ref f)=true
structure CalleeE(xs:List BC)(P:AE)(w:AM)(K:aA)(mg:Str->Option BC)(base:BG)(x:Str)(k n:Nat)(C:List D->R->Prop):Prop where
 ex:∃ (f:BE) (fd:AN) (ps:List Str),mg x=some (.ref f)/\cO K (.ref f)=true/\Binds K fd ps []/\Binds K fd ps xs/\FnOk P w K mg base CX0 k f fd ps (spC K n C)
theorem CalleeE.full{xs:List BC}{C:List D->R->Prop}(G:CalleeE xs P w K mg base x k n C):bJ P w K mg base x k n C:=by obtain⟨f,fd,ps,a,b,c,_,d⟩:=G.ex;exact⟨f,fd,ps,a,b,c,d⟩
theorem aAu{dv:Array BC}{xs:List BC}{C:List D->R->Prop}(F:aLD dv K x qual st f fd)(S:gO N ps (aO st))
  (hm:mg x=some (.ref f)) (hb:∀ (s:BD) (T:BE) (o:BH) (nn:Nat) (kV doc pm:BC) (an:Option BE) (cdv ct:BC) (us:List BC),s.heap.get? T=some o->o.data=.seq dv nn->us.length=ps.length->BindsTo s (cE x qual (eA st) (cN st) (aO st) (.ref T) kV doc pm an cdv ct) ⟨us,[]⟩ (ps.zip us))
  (hb2:∀ (s:BD) (T:BE) (o:BH) (nn:Nat) (kV doc pm:BC) (an:Option BE) (cdv ct:BC) (us:List BC),s.heap.get? T=some o->o.data=.seq dv nn->us.length+xs.length=ps.length->BindsTo s (cE x qual (eA st) (cN st) (aO st) (.ref T) kV doc pm an cdv ct) ⟨us,[]⟩ (ps.zip<|us++xs))
  (body:∀ (cdv:BC) (A:BF) (outer:List Env) (s:BD) (H:Hp) (E:XK),Room k (A.deeper (Ai qual (aO st) s.heap.objs.size f cdv))→∀ds r,ds.length=ps.length→C ds r→
   PSd (iF CX0 P w K mg base N qual (aO st) f cdv A outer s H E).nox (init N.length ds) (cN st) {nx:=λ_=>r=.val .non,rt:=λr'=>r'=r}):CalleeE xs P w K mg base x (k+1) ps.length C:=by
 obtain⟨oc,od,T,kV,doc,pm,an,cdv,ct,osl,tc,td,n,tsl,rfl,lk,hcd,lT⟩:=F.ex;refine⟨f,cE x qual (eA st) (cN st) (aO st) (.ref T) kV doc pm an cdv ct,ps,hm,F.kp,λs us KX hl=> ?_,λs us KX hl=> ?_, ?_⟩
 ·rw[bN] at hl ⊢;exact hb s T _ n kV doc pm an cdv ct us (KX T _ lT) rfl hl
 ·exact hb2 s T _ n kV doc pm an cdv ct us (KX T _ lT) rfl (by rw[<-hl,aH])
 ·refine aGq lk hcd S (λvs H Q E h=>h.1) λA outer s H vs Q E hr h=> ?_
  obtain⟨hl,sm,ds,r,rl,c,q⟩:=h;have hds:ds.length=ps.length:=by rw[<-rl.len];exact hl
  refine⟨_,pss_w.nox, ?_⟩;have hlen:N.length-vs.length=N.length-ds.length:=by rw[rl.len]
  have S0:StF K H H H (L2.start N vs) (init N.length ds):=by
   refine⟨Same.refl _,Same.refl _,sm, ?_, ?_⟩
   ·unfold L2.start init;rw[hlen];exact jG (m:=0) rl
   ·unfold init;rw[jH];exact cR
  refine(body cdv A outer s H E hr ds r hds c (L2.start N vs) H H S0).imp ?_ ?_ (λ_ _ ⟨_,_,_,_,z⟩=>z) λ_ _ ⟨_,_,_,_,z⟩=>z
  ·rintro σ' H' ⟨sd',F',S',s',e⟩;have e:r=.val .non:=e;subst e;exact q .non H' ⟨F',S'.base,S'.sub,S'.smp,by simp only[ResOk,Rep]⟩
  ·rintro v H' ⟨r',ro,e⟩;have e:r'=r:=e;subst e;exact q v H' ro
theorem aGK{dx:List D}{vx:List V}{xs:List BC}{C:List D->R->Prop}(G:CalleeE xs X.prog X.w X.K X.mg X.base x k n C)(hr:Room k X.A)(hg:Gl X x)(ha:PAd X sd (e::es) (ds.map R.val))(hx:Vals vx xs)(hd:∀F,RepL X.K F dx vx)(hc:C (ds++dx) r)(hb:match r with | .bor _=>False|_=>True)(hn:ds.length+dx.length=n)
  (hdb:(x==("__debug__":Str))=false:=by decide) (he:AB (e::es) X.env=(false,eval e X.env)::AB es X.env:=by rfl) (hpl:(AX pos<|AB es X.env).any (·.1)=false:=by rfl):
  PEd X sd (.Call (.Name x p) (e::es) [] pos) r:=.mk λσ F H S=>by
 obtain⟨f,fd,ps,hm,hk,_,bd,G⟩:=G.ex;refine(rM (FnOk.framed G) hr hg hm hk bd hx xJ oK hdb he hpl).to<|(ha σ F H S).imp λvs H1 ⟨F1,S1,s1,q1⟩=> ?_;have rl:RepL X.K F1 (ds++dx) (vs++vx):=q1.vals.app<|hd F1;refine⟨by rw[rl.len,aH];exact hn,S1.smp,F1,_,r,S1.sub,rl,hc,λv F2 F3 H' s2 s3 s4 sH sm kp res=> ?_⟩
 have no:∀l,l∈cA sd->F2 l=none/\F3 l=none:=λl hl=>by obtain⟨n1,xs,q,_⟩:=S1.slots.owns hl;have n3:=kp l _ q n1;exact⟨s3.free n3,n3⟩
 refine⟨F2,⟨λb o e=>s2 _ _<|S1.base _ _ e,s3.trans s4,sm,S1.slots.mono s2 λl hl=>⟨(no l hl).1,λys e=>sH _ _ e⟩,S1.nd⟩,s1.trans s2, ?_⟩;cases r with
 |val d=>exact res
 |own ds'=>obtain⟨l,xs,e,n,q,rl',_⟩:=res;exact⟨l,xs,e,n,s4 _ _ q,rl',λhl=>by rw[(no l hl).2] at q;cases q⟩
 |pr d ls=>obtain⟨t,l,xs,y,e,f,g,n,q,rl',_⟩:=res;exact⟨t,l,xs,y,e,f,g,n,s4 _ _ q,rl',λhl=>by rw[(no l hl).2] at q;cases q⟩
 |ox G=>obtain⟨ls,nd,h,g⟩:=res;refine⟨ls,nd,λl hl=> ?_,λF' H'' sF k=>g F' H'' sF λl hl ob q=>k l hl ob<|s4 _ _ q⟩;obtain⟨n,⟨ob,q,w⟩,_⟩:=h l hl;exact⟨n,⟨ob,s4 _ _ q,w⟩,λhm=>by rw[(no l hm).2] at q;cases q⟩
 |bor ds'=>exact hb.elim
theorem aEc{T:BE}{oc kV doc pm cdv ct tc:BC}{od an td:Option BE}{osl tsl:Array (Option BC)}{dv:Array BC}
  (l:K.lookup f=some ⟨oc,od,.func<|cE x qual (eA st) (cN st) (aO st) (.ref T) kV doc pm an cdv ct,osl⟩) (c:eG K cdv qual=true) (k:cO K (.ref f)=true) (t:K.lookup T=some ⟨tc,td,.seq dv n,tsl⟩):
  aLD dv K x qual st f (cE x qual (eA st) (cN st) (aO st) (.ref T) kV doc pm an cdv ct):=⟨⟨_,_,_,_,_,_,_,_,_,_,_,_,_,_,rfl,l,c,t⟩,k⟩
theorem aCR{m:Int}(hg:Gl X "range")(hm:X.mg "range"=none)(h:PEd X sd a (.val<|.int m))(hn: -(2^62)<=m/\m<2^62)(hs:AB [a] X.env=[(false,eval a X.env)]:=by rfl):PId X sd PT0 tg (.Call (.Name "range" p) [a] [] pos) (fR 0 m.toNat):=.mk λσ F H S=>
 (yP hg hm oK hs).to ((aB h aK trivial hs σ F H S).imp fun vs H1 ⟨F1,S1,s1,q1⟩=>by
  cases q1 with
  |cons q1 q2=>
   cases q2;simp only[ResOk,Rep] at q1;subst q1
   exact⟨m,rfl,by omega,hn.2,F1,S1,s1,sS⟩)
theorem aCa{body suite:List BI}{b₀:BI}{xE:Str}{np hpos:Pos}{CE:BE}(hg:Gl X xE)(hm:X.mg xE=some (.ref CE))(hmt:xP X.K cls (.ref CE)=some true)
  (hb:∀ (ξ:BC->BD->Prop) (pn:List (BE×BH)) (F:Hp),Takes {X with H₀:=F,B₀:=F,hB:=λ_ _ e _=>e,xe:=ξ,pn:=pn} cls sd->PSd {X with H₀:=F,B₀:=F,hB:=λ_ _ e _=>e,xe:=ξ,pn:=pn} sd body {nx:=λ_=>False,rt:=λ_=>False})
  (hh:∀ (a:BE) (pn:List (BE×BH)),PSd {X with A:=X.A.mark (some<|.ref a),calm:=false,pn:=pn,xe:=λ_ _=>False} sd (b₀::suite) {nx:=E.nx,rt:=λ_=>False})
  (hB₀:X.B₀=X.H₀:=by rfl) (hex:X.ex=[]:=by rfl) (hst:X.stack=X.env::X.outer/\X.env.frame=some X.env.locals:=by exact⟨rfl,rfl⟩) (hdb:(xE==("__debug__":Str))=false:=by decide):
  PSd1 X sd (.Try body [.ExceptHandler (some<|.Name xE np) none (b₀::suite) hpos] [] [] pos) E:=.mk λσ F H S pins s I=>by
 rw[hB₀] at S;obtain⟨ξ,hξ⟩:∃ξ:BC->BD->Prop,ξ=λe s'=>∃a T σ' F' H',e=.ref a/\Inv X pins σ' H' s'/\StF X.K F F' H' σ' sd/\Exc X.s₀.heap s'.heap H' a T cls/\∀p∈X.pn++pins,p.1≠a/\p.1≠T:=⟨_,rfl⟩
 have I':Inv {X with H₀:=F,B₀:=F,hB:=λ_ _ e _=>e,xe:=ξ,pn:=X.pn++pins} [] σ H s:=aNj I S rfl;have S':StF X.K F F H σ sd:=⟨Same.refl _,S.sub,S.smp,S.slots,S.nd⟩
 have tk:Takes {X with H₀:=F,B₀:=F,hB:=λ_ _ e _=>e,xe:=ξ,pn:=X.pn++pins} cls sd:=λpins' σ' F' H' s' a T I2 S2 x2 hp=>by show ξ _ _;rw[hξ];exact⟨a,T,σ',F',H',rfl,aNz I S rfl I2,S2,x2,λp hp'=>hp p<|bO _ hp'⟩
 refine wpAny_Try_except<|Aa (hb ξ (X.pn++pins) F tk σ F H S' [] s I') (λf s1 q=> ?_) λe s1 hx=> ?_
 ·cases f with
  |next=>obtain⟨_,_,_,_,_,_,_,z⟩:=q;exact z.elim
  |brk=>obtain⟨_,_,_,_,_,_,_,z⟩:=q;exact z.elim
  |cont=>obtain⟨_,_,_,_,_,_,_,z⟩:=q;exact z.elim
  |ret u=>obtain⟨_,_,_,_,_,_,_,z⟩:=q;exact z.elim
 ·have hx:ξ e s1:=hx;rw[hξ] at hx;obtain⟨a,T,σ1,F1,H1,rfl,I1,S1,x1,hp⟩:=hx;have hd:aLz X pins σ1 H1 s1 a T cls .none:=⟨I1,⟨x1.free,x1.new,λp h=>(hp p h).1⟩,⟨x1.freeT,x1.newT,λp h=>(hp p h).2⟩,x1.obj⟩;refine aFI hst I.ok.frames hex hd λh2 T2 hd2=> ?_
  refine tW hst hd2 λh3 hd3=> ?_
  have LT:PySem.W.Looks (AH X.prog X.w) h3 (typeOf<|.ref a) cls:=by obtain⟨oe,vs,oT,ts,a0,he,hc,_⟩:=hd3.obj;exact hc.1▸(PySem.W.Looks.ld he).andThen .now
  refine wpAny_handleBy_cons (codeAny_handlers_test<|Calls.Name_function_global hd3.inv.ok.kind hg (Calls.loadGlobal_global (by rw[hd3.inv.ok.glob];exact hd3.inv.mod.glob.keeps hd3.inv.bk) hm<|(PySem.W.exm_one hd3.inv.kIn LT hmt).at ?_) hdb) (by intro q;cases q);refine codeAny_handlers_suite<|tW hst hd3 λh4 hd4=> ?_;have I6:=hd4.inv
  have I7:Inv {X with A:=X.A.mark (some<|.ref a),calm:=false,pn:=X.pn++pins,xe:=λ_ _=>False} [] σ1 H1 {s1 with heap:=h4}:=
   ⟨⟨I6.ok.mod,I6.ok.kind,I6.ok.glob,I6.ok.blt,I6.ok.above,I6.ok.inj,I6.ok.has,I6.ok.cab,λz=>(by cases z),I6.ok.frames,I6.ok.stk,I6.ok.exf,I6.ok.bs,I6.ok.bsz,I6.ok.noex,I6.ok.exfs,I6.ok.funs,I6.ok.frf⟩,I6.os,I6.bare,I6.base,I6.loc,I6.cell,I6.free,I6.freeC,λp hp=>by rw[bN] at hp;exact I6.pin p hp,I6.hok,I6.len⟩
  have S1':StF X.K X.B₀ F1 H1 σ1 sd:=hB₀▸⟨λb o e=>S1.base _ _<|S.base _ _ e,S1.sub,S1.smp,S1.slots,S1.nd⟩;refine Aa (hh a (X.pn++pins) σ1 F1 H1 S1' [] _ I7) (λf s8 q=> ?_) λ_ _ z=>False.elim z
  cases f with
  |next=>obtain⟨σ8,H8,I8,sd8,F8,S8,s8',qn⟩:=q;exact⟨σ8,H8,⟨I.ok,I8.os,I8.bare,I8.base,I8.loc,I8.cell,I8.free,I8.freeC,λp hp=>I8.pin p (by rw[bN];exact hp),I8.hok,I8.len⟩,sd8,F8,S8,λb o e=>s8' _ _<|S1.base _ _ e,qn⟩
  |brk=>obtain⟨_,_,_,_,_,_,_,z⟩:=q;exact z.elim
  |cont=>obtain⟨_,_,_,_,_,_,_,z⟩:=q;exact z.elim
  |ret u=>obtain⟨_,_,_,_,_,_,_,z⟩:=q;exact z.elim
theorem aCc{dv:Array BC}{C:List D->Prop}(F:aLD dv K x qual st f fd)(S:gO N ps (aO st))
  (hm:mg x=some (.ref f)) (hb:∀ (s:BD) (T:BE) (o:BH) (nn:Nat) (kV doc pm:BC) (an:Option BE) (cdv ct:BC) (us:List BC),s.heap.get? T=some o->o.data=.seq dv nn->us.length=ps.length->BindsTo s (cE x qual (eA st) (cN st) (aO st) (.ref T) kV doc pm an cdv ct) ⟨us,[]⟩ (ps.zip us))
  (body:∀ (cdv:BC) (A:BF) (outer:List Env) (s:BD) (H:Hp) (E:XK),Room k (A.deeper (Ai qual (aO st) s.heap.objs.size f cdv))→(∀a H',Same H H'→Smp H'→E (.ref a) (some a) H')→∀ds,ds.length=ps.length→C ds→
   PSd (iF (CX1 P w cls) P w K mg base N qual (aO st) f cdv A outer s H E) (init N.length ds) (cN st) {nx:=λ_=>False,rt:=λ_=>False}):gJ P w K mg base x (k+1) ps.length C cls [] []:=by
 obtain⟨oc,od,T,kV,doc,pm,an,cdv,ct,osl,tc,td,n,tsl,rfl,lk,hcd,lT⟩:=F.ex;refine⟨f,cE x qual (eA st) (cN st) (aO st) (.ref T) kV doc pm an cdv ct,ps,hm,F.kp,λs us KX hl=> ?_,.nil,aPM lk hcd S<|body cdv⟩;rw[bN] at hl ⊢;exact hb s T _ n kV doc pm an cdv ct us (KX T _ lT) rfl hl
theorem aHI(ds:List D):DL.cutD ds none (some (-1))=ds.take (ds.length-1):=by
 unfold DL.cutD;rw[HT.sIx_none]
 have e:HT.sIx ds.length ds.length (some (-1))=ds.length-1:=by show(if(-1:Int)<0 then(-1+(ds.length:Int)).toNat else min (-1:Int).toNat ds.length)=_;rw[if_pos<|by decide];omega
 rw[e];simp
theorem lH{β:Type}{f:Nat->Option β}{i:Nat}{y:β}:∀ {n:Nat},i<n->(∀j,j<i->f j=none)->f i=some y->(bQ n).findSome? f=some y
 |n+1,h,h1,h2=>by
  rw[aLL,List.findSome?_append]
  by_cases q:i<n
  ·rw[lH q h1 h2];rfl
  ·have:i=n:=by omega
   subst this;rw[zU.mpr λj hj=>h1 j<|cX.mp hj];simp[h2]
theorem uP{β:Type}{f:Nat->Option β}(h:∀j,j<n->f j=none):(bQ n).findSome? f=none:=zU.mpr λj hj=>h j<|cX.mp hj
noncomputable def ocD:Option Ch->D
 |none=>.non
 |some c=>chD c
noncomputable def pwQ(L:List SK)(row:List Nat)(pl mn:Nat):Int:=uC (tY L<|(row.drop pl).take mn)-1
noncomputable def fzP(p:Int×Int)(L:List SK)(row:List Nat)(bs:List Nat)(m pl:Nat):Option (Option Ch):=if 500<(bkF p L (pwQ L row pl<|m+1)).length then some none else(pcQ p L row pl (m+1) bs).map λe=>some (pl,m+1,e.2.1)
noncomputable def fzM(p:Int×Int)(L:List SK)(row:List Nat)(bs:List Nat)(m:Nat):Option (Option Ch):=(bQ<|row.length-m).findSome?<|fzP p L row bs m
noncomputable def fzQ(p:Int×Int)(L:List SK)(bs:List Nat)(w:Nat)(row:List Nat):Option (Option Ch):=(bQ w).findSome?<|fzM p L row bs
structure aQa(p:Int×Int)(L:List SK)(b:Nat):Prop where
 hp:p∈bY
 st:StkOk p L
 nd:(L.map λs=>sqD s.1).Nodup
 gr:Gr p L (b:Int)
structure McZ(p:Int×Int)(L:List SK)(row:List Nat)(o:Option (List Nat)):Prop where
 hp:p∈bY
 st:StkOk p L
 nd:(L.map λs=>sqD s.1).Nodup
 rw:iJ L row
 rl:row.length<=30
 lk:aLv p o
structure PcX(p:Int×Int)(L:List SK)(row:List Nat)(pl mn:Nat)(o:Option (List Nat)):Prop where
 rw:∀t∈row,t<L.length
 rl:row.length<=100
 m1:1<=mn
 le:pl+mn<=row.length
 lk:aLv p o
 bk:∃b:Nat,uC (tY L<|(row.drop pl).take mn)-1=(b:Int)/\aQa p L b
theorem aMl{p:Int×Int}{L:List SK}(S:StkOk p L):∀ {row:List Nat},iJ L row->(row.length:Int)<=S45.prQ (prK L) row/\S45.prQ (prK L) row<=9*row.length
 |[],_=>⟨xS _,xS _⟩
 |k::r,h=>by
  obtain⟨h1,h2⟩:=aMl S (row:=r) λi hi=>h i<|aF _ hi
  obtain⟨_,h3,h4⟩:=S.st _<|getD_mem (d:=(AO:SK)) (h k<|aJ ..);have e:S45.prQ (prK L) (k::r)=(L.getD k AO).2+S45.prQ (prK L) r:=by unfold S45.prQ;rw[aZ,aOq];rfl
  rw[e,bF];omega
theorem McZ.bd{p:Int×Int}{o:Option (List Nat)}(I:McZ p L row o){pl mn:Nat}(m1:1<=mn)(hw:pl+mn<=row.length):∃b:Nat,pwQ L row pl mn=(b:Int)/\b<=300:=by
 have hl:((row.drop pl).take mn).length=mn:=by rw[cV,fD];omega
 have ok:iJ L ((row.drop pl).take mn):=λt ht=>I.rw t (eP<|dW ht)
 obtain⟨h1,h2⟩:=aMl I.st ok;rw[hl] at h1 h2;have:=I.rl;unfold pwQ;rw[aNs];exact⟨(S45.prQ (prK L) ((row.drop pl).take mn)-1).toNat,by omega,by omega⟩
theorem McZ.pc{p:Int×Int}{o:Option (List Nat)}(I:McZ p L row o){pl mn:Nat}(m1:1<=mn)(hw:pl+mn<=row.length)(g:¬ 500<(bkF p L<|pwQ L row pl mn).length):aOf p L row pl mn o:=by obtain⟨b,eb,hb⟩:=I.bd m1 hw;rw[eb] at g;exact⟨I.rw,by have:=I.rl;omega,m1,hw,I.lk,b,eb,I.hp,I.st,I.nd,⟨I.st.le,by omega,by omega⟩,by omega⟩
theorem McZ.px{p:Int×Int}{o:Option (List Nat)}(I:McZ p L row o){pl mn:Nat}(m1:1<=mn)(hw:pl+mn<=row.length)(g:500<(bkF p L<|pwQ L row pl mn).length):PcX p L row pl mn o:=by obtain⟨b,eb,hb⟩:=I.bd m1 hw;rw[eb] at g;exact⟨I.rw,by have:=I.rl;omega,m1,hw,I.lk,b,eb,I.hp,I.st,I.nd,by omega,g⟩
structure aLO(K:aA)(mg:Str->Option BC)(CN:BE):Prop where
 ex:mQ K CN aOz "ValueError.__new__"=true
 nw:mg "TooGreat"=some (.ref CN)/\xP K (.ref CN) (.ref CN)=some true
def aPV{α:Type}(p:Int×Int)(L:List SK):α->List D->Prop:=λ_ ds=>∃b:Nat,aQa p L b/\ds=[.int (b:Int)]
def XPf{α:Type}(p:Int×Int)(L:List SK):α->List D->Prop:=λ_ ds=>∃row pl mn o,PcX p L row pl mn o/\ds=[.tup<|bM row,.int (pl:Int),.int (mn:Int),lkD o]
def aJk:List D->Prop:=λds=>∃p L row pl mn o,PcX p L row pl mn o/\ds=[cC p,.lst<|L.map skD,.tup<|bM row,.int (pl:Int),.int (mn:Int),lkD o]
def aMg{α:Type}(p:Int×Int)(L:List SK):α->List D->D->Prop:=λ_ ds d=>∃row o w x,McZ p L row o/\w<=100/\fzQ p L (bxQ p.2.toNat o) w row=lS some x/\ds=[.tup<|bM row,lkD o,.int (w:Int)]/\d=ocD x
def aLW{α:Type}(p:Int×Int)(L:List SK):α->List D->Prop:=λ_ ds=>∃row o w,McZ p L row o/\w<=100/\fzQ p L (bxQ p.2.toNat o) w row=some none/\ds=[.tup<|bM row,lkD o,.int (w:Int)]
def aGx:List D->R->Prop:=λds r=>∃p L row o w x,McZ p L row o/\w<=100/\fzQ p L (bxQ p.2.toNat o) w row=lS some x/\ds=[cC p,.lst<|L.map skD,.tup<|bM row,lkD o,.int (w:Int)]/\r=.val (.bl x.isNone)
def aJG:List D->Prop:=λds=>∃p L row o w,McZ p L row o/\w<=100/\fzQ p L (bxQ p.2.toNat o) w row=some none/\ds=[cC p,.lst<|L.map skD,.tup<|bM row,lkD o,.int (w:Int)]
def aIn:List D->R->Prop:=λds r=>∃p L row pl mn o d g,((aOf p L row pl mn o/\d=pfD (pcQ p L row pl mn<|bxQ p.2.toNat o)/\g=false)\/(PcX p L row pl mn o/\d=.non/\g=true))/\ds=[cC p,.lst<|L.map skD,.tup<|bM row,.int (pl:Int),.int (mn:Int),lkD o]/\r=.val (.tup [d,.bl g])
noncomputable def zzD:Option (Option Ch)->D
 |none=>.non
 |some none=>.str "great"
 |some (some c)=>chD c
def aDt:List D->R->Prop:=λds r=>∃p L row o,∃w:Nat,McZ p L row o/\w<=100/\ds=[cC p,.lst<|L.map skD,.tup<|bM row,lkD o,.int (w:Int)]/\r=.val (zzD<|fzQ p L (bxQ p.2.toNat o) w row)
noncomputable def tzD:Option (Option Ch)->D
 |none=>.bl true
 |some none=>.str "great"
 |some (some _)=>.bl false
def aJx:List D->R->Prop:=λds r=>∃p L row o,∃w:Nat,McZ p L row o/\w<=100/\ds=[cC p,.lst<|L.map skD,.tup<|bM row,lkD o,.int (w:Int)]/\r=.val (tzD<|fzQ p L (bxQ p.2.toNat o) w row)
theorem aLA{us:List α}(h:us.length=n+1):∃a r,us=a::r/\r.length=n:=by
 cases us with
 |nil=>cases h
 |cons a r=>exact⟨a,r,rfl,Nat.succ.inj h⟩
theorem aOC{us:List α}(h:us.length=1):∃a,us=[a]:=by obtain⟨a,r,rfl,h2⟩:=aLA h;exact⟨a,by rw[gY h2]⟩
theorem aOx{us:List α}(h:us.length=2):∃a b,us=[a,b]:=by obtain⟨a,r,rfl,h2⟩:=aLA h;obtain⟨b,rfl⟩:=aOC h2;exact⟨a,b,rfl⟩
theorem aOM{us:List α}(h:us.length=3):∃a b c,us=[a,b,c]:=by obtain⟨a,r,rfl,h2⟩:=aLA h;obtain⟨b,c,rfl⟩:=aOx h2;exact⟨a,b,c,rfl⟩
theorem aOJ{us:List α}(h:us.length=4):∃a b c d,us=[a,b,c,d]:=by obtain⟨a,r,rfl,h2⟩:=aLA h;obtain⟨b,c,d,rfl⟩:=aOM h2;exact⟨a,b,c,d,rfl⟩
theorem aOB{us:List α}(h:us.length=5):∃a b c d e,us=[a,b,c,d,e]:=by obtain⟨a,r,rfl,h2⟩:=aLA h;obtain⟨b,c,d,e,rfl⟩:=aOJ h2;exact⟨a,b,c,d,e,rfl⟩
theorem aPH{us:List α}(h:us.length=6):∃a b c d e f,us=[a,b,c,d,e,f]:=by obtain⟨a,r,rfl,h2⟩:=aLA h;obtain⟨b,c,d,e,f,rfl⟩:=aOB h2;exact⟨a,b,c,d,e,f,rfl⟩
theorem pdv(i:Nat)(hs:sd[i]? =some (.val d):=by rfl)(h:PE X (.Name x pos) (iT i):=by exact pv _):PEd X sd (.Name x pos) (.val d):=aDC i hs h
theorem gW(i:Nat)(h:PEd X sd e (.val d))(hE:E.nx (sd.set i<|.val d))(hN:X.N.Nodup:=by assumption)(hi:X.N[i]? =some x:=by rfl)(hx:Loc X.env.scope x:=by first|exact Or.inl rfl|exact Or.inr rfl)(hs:Ab e (some<|.Name x p) pos.line X.env=pure false:=by rfl)
  (hf:X.fn x=true\/X.env.scope.names.lookup x=some .local:=by first|exact .inl rfl|exact .inr rfl|assumption):PSd1 X sd (.Assign [.Name x p] e pos) E:=fV i hN hi hx h hE hs hf
theorem qB(i:Nat)(h:PEd X sd e (.own ds))(hE:∀l,E.nx (sd.set i<|.own l ds))(hN:X.N.Nodup:=by assumption)(hi:X.N[i]? =some x:=by rfl)(hx:Loc X.env.scope x:=by first|exact Or.inl rfl|exact Or.inr rfl)(hs:Ab e (some<|.Name x p) pos.line X.env=pure false:=by rfl)
  (hf:X.fn x=true\/X.env.scope.names.lookup x=some .local:=by first|exact .inl rfl|exact .inr rfl|assumption):PSd1 X sd (.Assign [.Name x p] e pos) E:=rE i hN hi hx h hE hs hf
theorem pgn(i:Nat)(hN:X.N.Nodup:=by assumption)(hi:X.N[i]? =some x:=by rfl)(hx:Loc X.env.scope x:=by first|exact Or.inl rfl|exact Or.inr rfl)(hf:X.fn x=true\/X.env.scope.names.lookup x=some .local:=by first|exact .inl rfl|exact .inr rfl|assumption):PG X (.Name x pos) (aDh i):=rJ hN hi hx hf
noncomputable abbrev tN(l:List Nat):D:=.tup<|bM l
noncomputable abbrev lK(L:List SK):D:=.lst<|L.map skD
noncomputable abbrev tL(l:List (List Int)):D:=.lst<|l.map bS
noncomputable abbrev s4(p:Int×Int)(L:List SK)(row:List Nat)(o:Option (List Nat))(r:List Slot):List Slot:=.val (cC p)::.val (lK L)::.val (tN row)::.val (lkD o)::r
noncomputable abbrev a4(p:Int×Int)(L:List SK)(row:List Nat)(o:Option (List Nat)):List D:=[cC p,lK L,tN row,lkD o]
noncomputable abbrev a5(p:Int×Int)(L:List SK)(row:List Nat)(o:Option (List Nat))(w:Nat):List D:=[cC p,lK L,tN row,lkD o,.int (w:Int)]
noncomputable abbrev rtE(r:R):iA:={nx:=λ_=>r=.val .non,rt:=λr'=>r'=r}
theorem uN(r:Room k A)(n:Nat)(h:n<=8:=by decide):A.units+n<AS:=by have:=r.un;omega
noncomputable def NB:R->Prop
 |.bor _=>False
 |_=>True
theorem gT(h:PEd X sd e r)(hE:E.rt r:=by rfl)(hr:NB r:=by trivial):PSd1 X sd (.Return (some e) pos) E:=eU h (by cases r<;>first|trivial|exact hr) hE
theorem tR{x:List BI}(h:PTd X sd c false)(k:PSd X sd rest E):PSd X sd (.If c x [] pos::rest) E:=aG (nN h rfl<|dQ k)
theorem pdc{C:List D->R->Prop}(G:bJ X.prog X.w X.K X.mg X.base x k n C){j:Nat}(hr:Room j X.A)(ha:PAd X sd (e::es) (ds.map R.val))(hc:C ds r)(hj:k<=j:=by decide)(hg:Gl X x:=by rfl)(hb:NB r:=by trivial)(hn:ds.length=n:=by rfl)
  (hdb:(x==("__debug__":Str))=false:=by decide) (he:AB (e::es) X.env=(false,eval e X.env)::AB es X.env:=by rfl) (hpl:(AX pos<|AB es X.env).any (·.1)=false:=by rfl):
  PEd X sd (.Call (.Name x p) (e::es) [] pos) r:=aKi G (hr.mono hj) hg ha hc (by cases r<;>first|trivial|exact hb) hn hdb he hpl
theorem pdx{j:Nat}{p1:Pos}(ha:PEd X sd a (.val<|.tup ds))(hd:ds[n]? =some d:=by rfl):PEd X sd (.Subscript a (.Constant (.int (n:Int)) j p1) pos) (.val d):=xG ha bR hd λ_ _=>rfl
theorem pdT{x1}(h:PAd X sd es (ds.map R.val))(hl:ds.length<=10000:=by exact gC rfl):PEd X sd (.Tuple es x1 pos) (.val<|.tup ds):=aDH h hl
theorem pdL(h:PAd X sd es (ds.map R.val))(hl:ds.length<=10000:=by exact gC rfl):PEd X sd (.List es pos) (.own ds):=sX h hl
theorem pgN(i:Nat)(hN:X.N.Nodup:=by assumption)(hi:X.N[i]? =some x:=by rfl)(hx:Loc X.env.scope x:=by first|exact Or.inl rfl|exact Or.inr rfl)(hf:X.fn x=true\/X.env.scope.names.lookup x=some .local:=by first|exact .inl rfl|exact .inr rfl|assumption):PGd X sd (.Name x pos) d (sd.set i<|.val d):=aBr i<|rJ hN hi hx hf
theorem pdC{elt:Expr}{ifs:List Expr}{scope:Scope}{M:List Str}{cap:List (Option Nat)}{sc:Scope}{Tb:D->List Slot}(p:D->Bool)(f:D->D)
  (hi:PId X (unO sd) PT0 tg iter ds) (hl:ds.length<=10000)
  (ht:∀cl C fp s H d,d∈ds->(ifs=[]/\p d=true)\/∃c,ifs=[c]/\PTd (cxB X N scope cl C fp s H) (Tb d) c (p d))
  (he:∀cl C fp s H d,d∈ds->p d=true->PEd (cxB X N scope cl C fp s H) (Tb d) elt (.val<|f d))
  (hg:∀cl C fp s H d,d∈ds->PGd (cxB X N scope cl C fp s H) (qN cap sd) tg d (Tb d):=by exact λ_ _ _ _ _ _ _=>pgN 0)
  (hle:∀d,d∈ds->Le (Tb d) (qN cap sd):=by intro _ _;repeat' (first|exact trivial|refine⟨.inr rfl, ?_⟩|refine⟨.inl rfl, ?_⟩))
  (hsc:X.env.scope=sc:=by rfl) (hcn:pS scope sc=true:=by decide+kernel) (hM:X.N=M:=by rfl) (hcap:mZ N M scope sc cap=true:=by decide+kernel) (hk:scope.kind=.function:=by rfl)
  (hc:X.calm=true:=by rfl) (hs:∀x,Ay iter X.env x=pure x:=by intro _;rfl):
  PEd X sd (.ListComp elt [⟨tg,iter,ifs,0⟩] scope pos) (.own<|(ds.filter p).map f):=kH p f hi hl hsc hcn hM hcap hk hg hle ht he hc hs
theorem cY{C:List D->R->Prop}(F:FI K mg x st)
  (body:∀ (f:BE),N.Nodup→∀ (cdv:BC) (A:BF) (outer:List Env) (s:BD) (H:Hp) (E:XK),Room k (A.deeper (Ai x (aO st) s.heap.objs.size f cdv))→∀ds r,ds.length=ps.length→C ds r→
   PSd (iF CX0 P w K mg base N x (aO st) f cdv A outer s H E).nox (init N.length ds) (cN st) {nx:=λ_=>r=.val .non,rt:=λr'=>r'=r})
  (nd:N.Nodup:=by decide+kernel) (S:N.Nodup->gO N ps (aO st):=by exact λnd=>⟨rfl,rfl,rfl,nd,rfl,by decide+kernel,by decide+kernel⟩)
  (hb:∀ (kV doc pm:BC) (an:Option BE) (cdv ct:BC) (us:List BC),us.length=ps.length→bindArgs (cE x x (eA st) (cN st) (aO st) .none kV doc pm an cdv ct) ⟨us,[]⟩=pure (ps.zip us):=by
   intro _ _ _ _ _ _ _ h
   first
   |(obtain⟨_,rfl⟩:=aOC h;rfl)
   |(obtain⟨_,_,rfl⟩:=aOx h;rfl)
   |(obtain⟨_,_,_,rfl⟩:=aOM h;rfl)
   |(obtain⟨_,_,_,_,rfl⟩:=aOJ h;rfl)
   |(obtain⟨_,_,_,_,_,rfl⟩:=aOB h;rfl)
   |(obtain⟨_,_,_,_,_,_,rfl⟩:=aPH h;rfl)):bJ P w K mg base x (k+1) ps.length C:=by
 obtain⟨f,fd,hm,F⟩:=F;exact aNg F (S nd) hm hb<|body f nd
def FID(K:aA)(mg:Str->Option BC)(n:Str)(st:BI):Prop:=∃f fd,mg n=some (.ref f)/\aLD #[.none] K n n st f fd
theorem FID.mk{h:BG}{n:Str}{od an td:Option BE}{sl ts:Array (Option BC)}{oc kV dc pm cd ct tc:BC}{T:BE}{m:Nat}(X:K.In h)(G:h.Ns AR mg)(a:iQ K AR n=some (some<|.ref f))(l:K.lookup f=some ⟨oc,od,.func<|cE n n (eA st) (cN st) (aO st) (.ref T) kV dc pm an cd ct,sl⟩)(c:eG K cd n=true)(k:cO K (.ref f)=true)(t:K.lookup T=some ⟨tc,td,.seq #[.none] m,ts⟩):FID K mg n st:=⟨f,_,hX X G a,aEc (st:=st) l c k t⟩
theorem aBN{C:List D->Prop}(F:FI K mg x st)
  (body:∀ (f:BE),N.Nodup→∀ (cdv:BC) (A:BF) (outer:List Env) (s:BD) (H:Hp) (E:XK),Room k (A.deeper (Ai x (aO st) s.heap.objs.size f cdv))→(∀a H',Same H H'→Smp H'→E (.ref a) (some a) H')→∀ds,ds.length=ps.length→C ds→
   PSd (iF (CX1 P w cls) P w K mg base N x (aO st) f cdv A outer s H E) (init N.length ds) (cN st) {nx:=λ_=>False,rt:=λ_=>False})
  (nd:N.Nodup:=by decide+kernel) (S:N.Nodup->gO N ps (aO st):=by exact λnd=>⟨rfl,rfl,rfl,nd,rfl,by decide+kernel,by decide+kernel⟩)
  (hb:∀ (kV doc pm:BC) (an:Option BE) (cdv ct:BC) (us:List BC),us.length=ps.length→bindArgs (cE x x (eA st) (cN st) (aO st) .none kV doc pm an cdv ct) ⟨us,[]⟩=pure (ps.zip us):=by
   intro _ _ _ _ _ _ _ h
   first
   |(obtain⟨_,rfl⟩:=aOC h;rfl)
   |(obtain⟨_,_,rfl⟩:=aOx h;rfl)
   |(obtain⟨_,_,_,rfl⟩:=aOM h;rfl)
   |(obtain⟨_,_,_,_,rfl⟩:=aOJ h;rfl)
   |(obtain⟨_,_,_,_,_,rfl⟩:=aOB h;rfl)
   |(obtain⟨_,_,_,_,_,_,rfl⟩:=aPH h;rfl)):gJ P w K mg base x (k+1) ps.length C cls [] []:=by
 obtain⟨f,fd,hm,F⟩:=F;exact aLq F (S nd) hm hb<|body f nd
end DL
set_option maxHeartbeats 400000
namespace K82
open PySem PySem.Spec PyProof.Rows L2 DL
noncomputable def top(i:Nat):BI:=PySem.Challenge.pw_leastrow_k82_cheap_or_not.main.body.getD i<|.Pass ⟨0,0,0,0⟩
noncomputable abbrev aIC:BI:=top 5
noncomputable abbrev aDi:BI:=top 6
noncomputable abbrev aMu:BI:=top 7
noncomputable abbrev aPN:BI:=top 8
noncomputable abbrev aDX:BI:=top 11
noncomputable abbrev aBL:BI:=top 12
noncomputable abbrev aBt:BI:=top 13
noncomputable abbrev aCh:BI:=top 15
noncomputable abbrev aED:BI:=top 14
noncomputable abbrev aOE:BI:=top 21
noncomputable abbrev aDE:BI:=top 22
noncomputable abbrev aJF:BI:=top 23
noncomputable abbrev aPS:BI:=top 24
noncomputable abbrev sFd:BI:=top 25
noncomputable abbrev aDq:BI:=top 26
noncomputable abbrev aJo:BI:=top 27
noncomputable abbrev aIi:BI:=top 18
noncomputable abbrev aDN:BI:=top 31
noncomputable abbrev aIy:BI:=top 32
noncomputable abbrev vP:BI:=top 33
noncomputable abbrev aIV:BI:=top 40
noncomputable abbrev aDz:BI:=top 42
noncomputable abbrev aQj:BI:=top 43
noncomputable abbrev aOF:BI:=top 44
noncomputable abbrev aMi:BI:=top 35
noncomputable abbrev aMd:BI:=top 36
noncomputable abbrev sFt:BI:=top 38
noncomputable abbrev aDK:BI:=top 17
noncomputable abbrev aCg:BI:=top 41
noncomputable abbrev aBj:BI:=top 45
noncomputable abbrev aJp:BI:=top 46
noncomputable abbrev sFc:BI:=top 48
noncomputable abbrev sIc:BI:=top 49
noncomputable abbrev aGt:BI:=top 51
noncomputable abbrev aEo:BI:=top 52
noncomputable abbrev aEK:BI:=top 53
noncomputable abbrev aIJ:BI:=top 54
noncomputable abbrev aBg:BI:=top 55
noncomputable abbrev aJA:BI:=top 56
noncomputable abbrev aDL:BI:=top 57
noncomputable abbrev aPF:BI:=top 58
noncomputable abbrev aPD:BI:=top 59
noncomputable abbrev aGo:BI:=top 60
noncomputable abbrev aGs:BI:=top 61
noncomputable abbrev qC:BI:=top 62
noncomputable abbrev aJe:BI:=aEg (top 29) 0
noncomputable abbrev aJj:BI:=aEg (top 29) 1
section
variable {P:AE}{w:AM}{K:aA}{mg:Str->Option BC}{base:BG}{f:BE}{fd:AN}
theorem zP(q:SQ):pl (sqD q)=true:=by
 show pl (mP _ _ _ _)=true;unfold mP
 split
 ·rfl
 ·split<;>rfl
theorem aIF(q:SQ):dep (sqD q)=1:=by
 show dep (mP _ _ _ _)=1;unfold mP
 split
 ·rfl
 ·split<;>rfl
theorem aAI{α:Type}(g:α->D)(h:∀a,pl (g a)=true):∀l:List α,plL (l.map g)=true
 |[]=>rfl
 |a::l=>by show(pl (g a)&&plL (l.map g))=true;rw[h a,aAI g h l];rfl
theorem vZ{α:Type}(g:α->D)(n:Nat)(h:∀a,dep (g a)<=n):∀l:List α,lI (l.map g)<=n
 |[]=>cP _
 |a::l=>Nat.max_le.mpr ⟨h a,vZ g n h l⟩
noncomputable def aQd:D->List Slot->List Slot
 |.tup [x,y],r=>.val x::.val y::r
 |_,r=>.un::.un::r
def aBk:List D->R->Prop:=λds r=>∃p:Int×Int,ds=[cC p]/\0<=p.1/\p.1<=60/\r=.val (.int<|2^p.1.toNat)
theorem aGO(F:FI K mg "word_count" aIC)(zrange:mg "range"=none):bJ P w K mg base "word_count" 1 1 aBk:=by
 refine cY (N:=["size","count","bit"]) (ps:=["size"]) (k:=0) F λf nd cdv A outer s H E hr ds r hl c=> ?_
 obtain⟨p,rfl,h0,h1,rfl⟩:=c;have ep:p.1=((p.1.toNat:Nat):Int):=by omega
 refine aG<|fV 1 nd rfl (Or.inl rfl) bR ?_;refine aG<|nV (ds:=fR 0 p.1.toNat) (λk=>[.val<|cC p,.val (.int<|2^k),.un]) (λk=>[.val<|cC p,.val (.int<|2^k),.val (.int<|0+(k:Int))]) (lM (n:=p.1.toNat) rfl zrange (PEd.cast (pdx (n:=0) (d:=.int p.1)<|pdv 0)<|by rw[<-ep])<|by omega) ⟨.inr rfl,.inr rfl,.inr rfl,trivial⟩ (λi d hd=> ?_) (λi d hd=> ?_) ?_
 ·obtain⟨_,rfl⟩:=fQ hd;exact pgN 2
 ·refine aQ<|fV 1 nd rfl (Or.inl rfl) (dO mE (pdv 1) bR (aJw (by decide)<|by decide)) ?_;exact⟨.inr rfl,.inr rfl,.inl rfl,trivial⟩
 ·refine aQ<|eU (pdv 1) trivial ?_;rw[fM]
def aMt:List D->R->Prop:=λds r=>∃ (L:List (List Int)) (m:Nat),ds=[.lst<|L.map bS,.int (m:Int)]/\L.length*m<=900/\m<=64/\(∀s∈L,s.length<=100)/\r=.own ((L.flatMap λs=>(bQ m).map λ(w:Nat)=>s++[(w:Int)]).map bS)
abbrev nl0:List Str:=["starts","count","longer","start"]
theorem aKQ(F:FI K mg "with_each_word" aDi)(zrange:mg "range"=none):bJ P w K mg base "with_each_word" 1 2 aMt:=by
 refine cY (N:=nl0) (ps:=["starts","count"]) (k:=0) F λf nd cdv A outer s H E hr ds r hl c=> ?_
 obtain⟨L,m,rfl,hL,hm64,hs,rfl⟩:=c;have nd2:(["word","start"]:List Str).Nodup:=by decide+kernel
 refine aG<|rE 2 nd rfl (Or.inl rfl) (sX (ds:=[]) aK<|cP _) λl=> ?_;refine aG<|nV (ds:=L.map bS) (λk=>[.val<|tL L,.val<|.int (m:Int),.own l<|((L.take k).flatMap λs=>(bQ m).map λ(w:Nat)=>s++[(w:Int)]).map bS,.un]) (λk=>[.val<|tL L,.val<|.int (m:Int),.own l<|((L.take k).flatMap λs=>(bQ m).map λ(w:Nat)=>s++[(w:Int)]).map bS,.val (bS<|L.getD k [])]) (gX<|pdv 0) ⟨.inr rfl,.inr rfl,.inr rfl,.inr rfl,trivial⟩ (λk d hd=> ?_) (λk d hd=> ?_) ?_
 ·obtain⟨_,rfl⟩:=oZ hd;exact pgN 3
 ·obtain⟨hk,rfl⟩:=oZ hd;have hmem:L.getD k []∈L:=getD_mem hk
  have et:L.take (k+1)=L.take k++[L.getD k []]:=by rw[eF];simp[cG,hk]
  have lk:(L.take k).length*m+m<=900:=by
   have h1:(L.take k).length+1<=L.length:=by rw[cV];omega
   have h2:=aGe m h1;rw[aFY] at h2;omega
  have comp:∀ {pos:Pos},PEd (iF CX0 P w K mg base nl0 "with_each_word" (aO aDi) f cdv A outer s H E).nox [.val<|tL L,.val<|.int (m:Int),.own l<|((L.take k).flatMap λs=>(bQ m).map λ(w:Nat)=>s++[(w:Int)]).map bS,.val (bS<|L.getD k [])] (match(cN aDi).getD 1 (.Pass ⟨0,0,0,0⟩) with | .For _ _ [.Expr (.Call _ [c] _ _) _] _ _=>c|_=> .Constant .none 0 ⟨0,0,0,0⟩) (.own (((fR 0 m).filter λ_=>true).map λd=>D.tup<|(L.getD k []).map D.int++[d])):=λ{pos}=>by
   refine pdC (N:=["word","start"]) (M:=nl0) (cap:=[none,some 3]) (sc:=aO aDi) (Tb:=λd=>[.val d,.val (bS<|L.getD k [])]) (λ_=>true) (λd=>D.tup<|(L.getD k []).map D.int++[d]) (lM (n:=m) rfl zrange (pdv 1)<|by omega) (by rw[fM];omega) (λcl C fp s H d _=>.inl ⟨rfl,rfl⟩) λcl C fp s H d _ _=> ?_
   refine pW (pdv 1) (pdT (ds:=[d])<|aB (pdv 0) aK) ?_;have:=hs _ hmem;simp only[aC,bF,gH];omega
  have ec:((fR 0 m).filter λ_=>true).map (λd=>D.tup<|(L.getD k []).map D.int++[d])=((bQ m).map λ(w:Nat)=>L.getD k []++[(w:Int)]).map bS:=by
   rw[cQ.mpr λ_ _=>rfl];unfold fR;rw[aU,aU];refine cK λw _=> ?_
   simp[bS]
  refine aQ<|aCp 2 rfl (pv 2) (PEd.val<|comp (pos:=⟨0,0,0,0⟩)) ?_ ?_
  ·rw[aC,tU,ec,aC,aC,fP];omega
  ·refine⟨.inr rfl,.inr rfl,.inr ?_,.inl rfl,trivial⟩;rw[et,ec,List.flatMap_append,aX];simp
 ·refine aQ<|pA 2 rfl (pv 2) ?_;show R.own _=R.own _;rw[aC,fW]
def vV:List D->R->Prop:=λds r=>∃p,p∈bY/\ds=[cC p]/\r=.own ((iB (2^p.1.toNat) p.2.toNat).map bS)
theorem aKT(F:FI K mg "fillings" aMu)(zrange:mg "range"=none)(GC:bJ P w K mg base "word_count" 1 1 aBk)(GE:bJ P w K mg base "with_each_word" 1 2 aMt):bJ P w K mg base "fillings" 2 1 vV:=by
 refine cY (N:=["size","count","told","box"]) (ps:=["size"]) (k:=1) F λf nd cdv A outer s H E hr ds r hl c=> ?_
 obtain⟨p,hp,rfl,rfl⟩:=c;obtain⟨h1,h2,h3,h4,h5⟩:=uA p hp;have e2:p.2=((p.2.toNat:Nat):Int):=by omega
 have m64:2^p.1.toNat<=64:=by
  have:p.1.toNat<=6:=by omega
  exact cF (qS (by decide) this)<|by decide
 have ec:(2:Int)^p.1.toNat=((2^p.1.toNat:Nat):Int):=by push_cast;rfl
 refine aG<|fV 1 nd rfl (Or.inl rfl) (pdc (ds:=[cC p]) GC hr (aB (pdv 0) aK) ⟨p,rfl,by omega,by omega,rfl⟩) ?_;refine aG<|qB (ds:=[bS []]) 2 (pdL (ds:=[bS []])<|aB (aDH (ds:=[]) aK<|cP _) aK) λl=> ?_;refine aG<|jB (ds:=fR 0 p.2.toNat) (λk sd=>∃l,sd=[.val<|cC p,.val (.int<|2^p.1.toNat),.own l<|(iB (2^p.1.toNat) k).map bS,.un]) (lM (n:=p.2.toNat) rfl zrange (PEd.cast (pdx (n:=1) (d:=.int p.2)<|pdv 0)<|by rw[<-e2])<|by omega) ⟨_,Le.refl _,l,rfl⟩ (λk d sdk hd hk=> ?_) λsdn hn=> ?_
 ·obtain⟨hk2,rfl⟩:=fQ hd;obtain⟨l2,rfl⟩:=hk;refine⟨[.val<|cC p,.val (.int<|2^p.1.toNat),.own l2<|(iB (2^p.1.toNat) k).map bS,.val (.int<|0+(k:Int))],pgN 3, ?_⟩;refine iM 2 rfl ?_;refine aQ (rE 2 nd rfl (Or.inl rfl) (pdc (ds:=[tL<|iB (2^p.1.toNat) k,.int ((2^p.1.toNat:Nat):Int)]) GE hr (aB (pdv 2)<|aB (PEd.cast (pdv 1)<|by rw[ec]) aK) ⟨iB (2^p.1.toNat) k,2^p.1.toNat,rfl, ?_,m64,λs hs=> ?_,rfl⟩) λl3=> ?_)
  ·rw[aAo];exact aFo p hp k hk2
  ·rw[aBB _ _ s hs];omega
  ·exact⟨[.val<|cC p,.val (.int<|2^p.1.toNat),.own l3<|(iB (2^p.1.toNat)<|k+1).map bS,.un],⟨.inr rfl,.inr rfl,.inr rfl,.inl rfl,trivial⟩,l3,rfl⟩
 ·rw[fM] at hn;obtain⟨l2,rfl⟩:=hn;exact aQ<|pA 2 rfl (pv 2) rfl
def aPL:List D->R->Prop:=λds r=>∃ (p:Int×Int) (ws:List Int),ds=[cC p,bS ws]/\0<=p.1/\p.1<=60/\r=.val (.int<|uE (2^p.1.toNat) ws)
theorem aNf(F:FI K mg "number_of" aPN)(GC:bJ P w K mg base "word_count" 1 1 aBk):bJ P w K mg base "number_of" 2 2 aPL:=by
 refine cY (N:=["size","filling","count","number","word"]) (ps:=["size","filling"]) (k:=1) F λf nd cdv A outer s H E hr ds r hl c=> ?_
 obtain⟨p,ws,rfl,h0,h1,rfl⟩:=c
 have b1: -(2^64)<(2:Int)^p.1.toNat/\(2:Int)^p.1.toNat<2^64:=by
  have h3:p.1.toNat<=60:=by omega
  have h4:2^p.1.toNat<=2^60:=qS (by decide) h3;have h5:(2:Int)^p.1.toNat=((2^p.1.toNat:Nat):Int):=by push_cast;rfl
  rw[h5];have h6:(2:Nat)^60=1152921504606846976:=by decide
  rw[h6] at h4;generalize 2^p.1.toNat=q at h4 ⊢;omega
 refine aG<|fV 2 nd rfl (Or.inl rfl) (pdc (ds:=[cC p]) GC hr (aB (pdv 0) aK) ⟨p,rfl,h0,h1,rfl⟩) ?_;refine aG<|fV 3 nd rfl (Or.inl rfl) bR ?_;refine aG<|nV (ds:=ws.map D.int) (λk=>[.val<|cC p,.val<|bS ws,.val (.int<|2^p.1.toNat),.val<|.int (uE (2^p.1.toNat)<|ws.take k),.un]) (λk=>[.val<|cC p,.val<|bS ws,.val (.int<|2^p.1.toNat),.val<|.int (uE (2^p.1.toNat)<|ws.take k),.val (.int<|ws.getD k 0)]) (nK<|pdv 1) ⟨.inr rfl,.inr rfl,.inr rfl,.inr rfl,.inr rfl,trivial⟩ (λk d hd=> ?_) (λk d hd=> ?_) ?_
 ·obtain⟨_,rfl⟩:=sJ hd;exact pgN 4
 ·obtain⟨hk,rfl⟩:=sJ hd
  have et:ws.take (k+1)=ws.take k++[ws.getD k 0]:=by rw[eF];simp[cG,hk]
  refine aQ<|fV 3 nd rfl (Or.inl rfl) (fU gL (dO mE (pdv 3) (pdv 2)<|aJw b1.1 b1.2)<|pdv 4) ?_;refine⟨.inr rfl,.inr rfl,.inr rfl,.inr ?_,.inl rfl,trivial⟩;rw[et];unfold uE;rw[fO];rfl
 ·refine aQ<|eU (pdv 3) trivial ?_;show R.val _=R.val _;rw[aC,fW]
def aEv:List D->R->Prop:=λds r=>∃ (k:Nat) (m a:Int),ds=[.str<|nm k,.int m,.int a]/\7<=k/\k<10/\0<m/\r=.val (.int<|aLY k m a)
theorem aEZ(F:FI K mg "word_by_itself" aDX):bJ P w K mg base "word_by_itself" 1 3 aEv:=by
 refine cY (N:=["name","count","word"]) (ps:=["name","count","word"]) (k:=0) F λf nd cdv A outer s H E hr ds r hl c=> ?_
 obtain⟨k,m,a,rfl,h7,h10,hm0,rfl⟩:=c;refine aG<|fG (k:=decide<|k=7) (iN (pdv 0) gM rfl rfl rfl<|aNA k h10) (λh=> ?_) λh=>dQ ?_
 ·have:k=7:=by simpa using h
  subst this;exact aQ<|gT (fU oQ (fU oQ (pdv 1) bR)<|pdv 2)
 have n7:¬ k=7:=by simpa using h
 refine aG<|fG (k:=decide<|k=8) (iN (pdv 0) gM rfl rfl rfl<|aPx k h10) (λh=> ?_) λh=>dQ ?_
 ·have:k=8:=by simpa using h
  subst this;exact aQ (gT<|dO fZ (dO mE (pdv 2) bR (aJw (by decide)<|by decide)) (pdv 1) hm0)
 have n8:¬ k=8:=by simpa using h
 have:k=9:=by omega
 subst this;exact aQ (gT<|dO aKg (pdv 2) bR ⟨by decide,by decide⟩)
def aBF:List D->R->Prop:=λds r=>∃ (k:Nat) (m a c:Int),ds=[.str<|nm k,.int m,.int a,.int c]/\k<6/\0<m/\r=.val (.int<|aHZ k m a c)
theorem aCP(F:FI K mg "word_by_another" aBL):bJ P w K mg base "word_by_another" 1 4 aBF:=by
 refine cY (N:=["name","count","word","other"]) (ps:=["name","count","word","other"]) (k:=0) F λf nd cdv A outer s H E hr ds r hl c=> ?_
 obtain⟨k,m,a,c,rfl,h6,hm0,rfl⟩:=c;have h10:k<10:=by omega
 refine aG<|fG (k:=decide<|k=0) (iN (pdv 0) gM rfl rfl rfl<|aNm k h10) (λh=> ?_) λh=>dQ ?_
 ·have:k=0:=by simpa using h
  subst this;exact aQ<|gT (fU aNx (pdv 2)<|pdv 3)
 have n0:¬ k=0:=by simpa using h
 refine aG<|fG (k:=decide<|k=1) (iN (pdv 0) gM rfl rfl rfl<|aOQ k h10) (λh=> ?_) λh=>dQ ?_
 ·have:k=1:=by simpa using h
  subst this;exact aQ<|gT (fU aOZ (pdv 2)<|pdv 3)
 have n1:¬ k=1:=by simpa using h
 refine aG<|fG (k:=decide<|k=2) (iN (pdv 0) gM rfl rfl rfl<|aMU k h10) (λh=> ?_) λh=>dQ ?_
 ·have:k=2:=by simpa using h
  subst this;exact aQ<|gT (fU aNe (pdv 2)<|pdv 3)
 have n2:¬ k=2:=by simpa using h
 refine aG<|fG (k:=decide<|k=3) (iN (pdv 0) gM rfl rfl rfl<|aNB k h10) (λh=> ?_) λh=>dQ ?_
 ·have:k=3:=by simpa using h
  subst this;exact aQ (gT<|dO fZ (fU gL (pdv 2)<|pdv 3) (pdv 1) hm0)
 have n3:¬ k=3:=by simpa using h
 refine aG<|fG (k:=decide<|k=4) (iN (pdv 0) gM rfl rfl rfl<|aKX k h10) (λh=> ?_) λh=>dQ ?_
 ·have:k=4:=by simpa using h
  subst this;exact aQ (gT<|dO fZ (fU oQ (pdv 2)<|pdv 3) (pdv 1) hm0)
 have n4:¬ k=4:=by simpa using h
 have:k=5:=by omega
 subst this;exact aQ (gT<|pdv 3)
structure aOL(p:Int×Int)(k:Nat)(i j n:Int)(ws:List Int):Prop where
 sz:p∈bY
 k10:k<10
 i0:0<=i/\i<p.2
 j0:0<=j/\j<p.2
 n0:0<=n/\n<((2^p.1.toNat:Nat):Int)
 len:ws.length=p.2.toNat
 wd:∀w∈ws,0<=w/\w<((2^p.1.toNat:Nat):Int)
noncomputable def aLQ(p:Int×Int)(k:Nat)(i j n:Int)(ws:List Int):Int:=newW k ((2^p.1.toNat:Nat):Int) (ws.getD i.toNat 0) (ws.getD j.toNat 0) n
def aCi:List D->R->Prop:=λds r=>∃p k i j n ws,aOL p k i j n ws/\ds=[cC p,mP k i j n,bS ws]/\r=.val (.int<|aLQ p k i j n ws)
theorem aIH(n:Nat):(0:Int)<((2^n:Nat):Int):=by have:0<2^n:=Nat.pow_pos (by decide);generalize 2^n=q at this ⊢;omega
theorem aIT{ws:List Int}{i:Int}{n:Nat}(h:ws.length=n)(h1:i<(n:Int))(h0:0<=i):(ws.map D.int)[i.toNat]? =some (.int<|ws.getD i.toNat 0):=by
 have:i.toNat<ws.length:=by omega
 simp[cG,this]
theorem aCQ(F:FI K mg "new_word" aBt)(byself:∃ad,mg "BY_ITSELF"=some (.ref ad)/\∀H:Hp,SqT K H ad [V.str "not",V.str "up",V.str "down"])(GC:bJ P w K mg base "word_count" 1 1 aBk)(GI:bJ P w K mg base "word_by_itself" 1 3 aEv)(GA:bJ P w K mg base "word_by_another" 1 4 aBF):bJ P w K mg base "new_word" 2 3 aCi:=by
 refine cY (N:=["size","step","filling","name","word"]) (ps:=["size","step","filling"]) (k:=1) F λf nd cdv A outer s H E hr ds r hl c=> ?_
 obtain⟨p,k,i,j,n,ws,O,rfl,rfl⟩:=c;obtain⟨h1,h2,h3,h4,h5⟩:=uA p O.sz;have hm0:=aIH p.1.toNat;have ec:(2:Int)^p.1.toNat=((2^p.1.toNat:Nat):Int):=by push_cast;rfl
 have e2:p.2=((p.2.toNat:Nat):Int):=by omega
 obtain⟨ad,hB,hq⟩:=byself;have ai:(ws.map D.int)[i.toNat]? =some (.int<|ws.getD i.toNat 0):=aIT O.len (by have:=O.i0.2;omega) O.i0.1;have aj:(ws.map D.int)[j.toNat]? =some (.int<|ws.getD j.toNat 0):=aIT O.len (by have:=O.j0.2;omega) O.j0.1
 by_cases k6:k<6
 ·have es:mP k i j n=.tup [.str<|nm k,.int i,.int j]:=by unfold mP;rw[if_pos k6]
  rw[es];refine aG<|fV 3 nd rfl (Or.inl rfl) (pdx (n:=0)<|pdv 1) ?_;refine aG (nN (iN (pdv 3) gM rfl rfl rfl<|aDA k O.k10) (by simp;omega)<|dQ ?_);refine aG<|fV 4 nd rfl (Or.inl rfl) (aAD (i:=i) (pdv 2) (pdx (n:=1)<|pdv 1) O.i0.1 ai λ_ _=>rfl) ?_;refine aG (nN (aEr rfl hB (λH=>hq H) (pdv 3) rfl rfl rfl) (by rw[aEl k O.k10];simp;omega)<|dQ ?_);refine aQ<|eU (pdc (ds:=[.str<|nm k,.int ((2^p.1.toNat:Nat):Int),.int<|ws.getD i.toNat 0,.int<|ws.getD j.toNat 0]) GA hr (aB (pdv 3)<|aB (PEd.cast (pdc (ds:=[cC p]) GC hr (aB (pdv 0) aK) ⟨p,rfl,by omega,by omega,rfl⟩)<|by rw[ec]) (aB (pdv 4)<|aB (aAD (i:=j) (pdv 2) (pdx (n:=2)<|pdv 1) O.j0.1 aj λ_ _=>rfl) aK)) ⟨k,_,_,_,rfl,k6,hm0,rfl⟩) trivial ?_;unfold aLQ newW;rw[if_neg<|by omega,if_neg<|by omega]
 ·by_cases k6':k=6
  ·subst k6';have es:mP 6 i j n=.tup [.str<|nm 6,.int i,.int n]:=rfl;rw[es];refine aG<|fV 3 nd rfl (Or.inl rfl) (pdx (n:=0)<|pdv 1) ?_;refine aG<|lE (iN (pdv 3) gM rfl rfl rfl<|aDA 6 O.k10) rfl ?_;exact aQ<|gT (pdx (n:=2)<|pdv 1)
  ·have es:mP k i j n=.tup [.str<|nm k,.int i]:=by unfold mP;rw[if_neg k6,if_neg k6']
   rw[es];refine aG<|fV 3 nd rfl (Or.inl rfl) (pdx (n:=0)<|pdv 1) ?_;refine aG (nN (iN (pdv 3) gM rfl rfl rfl<|aDA k O.k10) (by simp;omega)<|dQ ?_);refine aG<|fV 4 nd rfl (Or.inl rfl) (aAD (i:=i) (pdv 2) (pdx (n:=1)<|pdv 1) O.i0.1 ai λ_ _=>rfl) ?_;refine aG<|lE (aEr rfl hB (λH=>hq H) (pdv 3) rfl rfl rfl) (by rw[aEl k O.k10];simp;omega) ?_;refine aQ<|eU (pdc (ds:=[.str<|nm k,.int ((2^p.1.toNat:Nat):Int),.int<|ws.getD i.toNat 0]) GI hr (aB (pdv 3) (aB (PEd.cast (pdc (ds:=[cC p]) GC hr (aB (pdv 0) aK) ⟨p,rfl,by omega,by omega,rfl⟩)<|by rw[ec])<|aB (pdv 4) aK)) ⟨k,_,_,rfl,by omega,O.k10,hm0,rfl⟩) trivial ?_;unfold aLQ newW;rw[if_neg k6',if_pos<|by omega]
def aBK:List D->R->Prop:=λds r=>∃k i j n,ds=[mP k i j n]/\r=.val (.int i)
theorem aKz(k:Nat)(i j n:Int):∃es,mP k i j n=.tup (.str (nm k)::.int i::es):=by
 unfold mP
 split
 ·exact⟨_,rfl⟩
 ·split
  ·exact⟨_,rfl⟩
  ·exact⟨_,rfl⟩
theorem aCw(F:FI K mg "written_box" aCh):bJ P w K mg base "written_box" 1 1 aBK:=by
 refine cY (N:=["step"]) (ps:=["step"]) (k:=0) F λf nd cdv A outer s H E hr ds r hl c=> ?_
 obtain⟨k,i,j,n,rfl,rfl⟩:=c;obtain⟨es,e⟩:=aKz k i j n;rw[e];exact aQ<|gT (pdx (n:=1)<|pdv 0)
noncomputable def aPJ(p:Int×Int)(k:Nat)(i j n:Int)(ws:List Int):List Int:=ws.set i.toNat<|aLQ p k i j n ws
def aAn:List D->R->Prop:=λds r=>∃p k i j n ws,aOL p k i j n ws/\ds=[cC p,mP k i j n,bS ws]/\r=.val (bS<|aPJ p k i j n ws)
theorem aDw(ws:List Int){i:Nat}(h:i<ws.length):DL.cutD (ws.map D.int) none (some (i:Int))=(ws.take i).map D.int:=by
 unfold DL.cutD;have h1:HT.sIx (ws.map D.int).length 0 none=0:=rfl
 have h2:HT.sIx (ws.map D.int).length (ws.map D.int).length (some (i:Int))=i:=by rw[HT.sIx_nat,aC];omega
 rw[h1,h2,iG];simp
theorem aBz(ws:List Int){i:Nat}(h:i<ws.length):DL.cutD (ws.map D.int) (some<|(i:Int)+1) none=(ws.drop<|i+1).map D.int:=by
 unfold DL.cutD;have e:((i:Int)+1)=((i+1:Nat):Int):=by push_cast;rfl
 have h1:HT.sIx (ws.map D.int).length 0 (some<|(i:Int)+1)=i+1:=by rw[e,HT.sIx_nat,aC];omega
 have h2:HT.sIx (ws.map D.int).length (ws.map D.int).length none=ws.length:=by rw[HT.sIx_none,aC]
 rw[h1,h2,jM,dZ<|by rw[fD,aC];omega]
theorem aET(F:FI K mg "step_on" aED)(GB:bJ P w K mg base "written_box" 1 1 aBK)(GN:bJ P w K mg base "new_word" 2 3 aCi):bJ P w K mg base "step_on" 3 3 aAn:=by
 refine cY (N:=["size","step","filling","box"]) (ps:=["size","step","filling"]) (k:=2) F λf nd cdv A outer s H E hr ds r hl c=> ?_
 obtain⟨p,k,i,j,n,ws,O,rfl,rfl⟩:=c;obtain⟨h1,h2,h3,h4,h5⟩:=uA p O.sz;have li:i.toNat<ws.length:=by have:=O.i0;rw[O.len];omega
 have ei:i=((i.toNat:Nat):Int):=by have:=O.i0;omega
 have l6:ws.length<=6:=by rw[O.len];omega
 refine aG<|gW (d:=.int ((i.toNat:Nat):Int)) 3 (PEd.cast (pdc (ds:=[mP k i j n]) GB hr (aB (pdv 1) aK) ⟨k,i,j,n,rfl,rfl⟩)<|by rw[<-ei]) ?_;refine aQ<|eU (PEd.cast (pW (pW (xH (ol:=none) (oh:=some ((i.toNat:Nat):Int)) (pdv 2) trivial (pdv 3) ?_) (pdT (ds:=[.int<|aLQ p k i j n ws])<|aB (pdc (ds:=[cC p,mP k i j n,bS ws]) GN hr (aB (pdv 0) (aB (pdv 1)<|aB (pdv 2) aK)) ⟨p,k,i,j,n,ws,O,rfl,rfl⟩) aK) ?_) (xH (ol:=some<|((i.toNat:Nat):Int)+1) (oh:=none) (pdv 2) (fU gL (pdv 3) bR) trivial ?_) ?_) ?_) trivial rfl
 ·rw[HT.sIx_nat,aC];omega
 ·rw[aDw ws li];simp only[aC,cV,bF,gH];omega
 ·have e:(((i.toNat:Nat):Int)+1)=((i.toNat+1:Nat):Int):=by push_cast;rfl
  rw[e,HT.sIx_nat,aC];omega
 ·rw[aDw ws li,aBz ws li];simp only[aH,aC,cV,fD,bF,gH];omega
 ·rw[aDw ws li,aBz ws li];unfold bS aPJ;rw[List.set_eq_take_append_cons_drop,if_pos li];simp
theorem aIY{p:Int×Int}{q:SQ}{ws:List Int}(O:sD p q)(G:Fil p ws):aOL p q.1 q.2.1 q.2.2.1 q.2.2.2 ws:=⟨O.sz,O.k10,O.i0,O.j0,O.n0,G.len,G.wd⟩
theorem aHc(F:FI K mg "numbers_of_step" aOE)(ztuple:mg "tuple"=none)(GN:bJ P w K mg base "number_of" 2 2 aPL)(GS:bJ P w K mg base "step_on" 3 3 aAn)(GF:bJ P w K mg base "fillings" 2 1 vV):bJ P w K mg base "numbers_of_step" 4 2 aPU:=by
 have nd2:(["filling","size","step"]:List Str).Nodup:=by decide+kernel
 refine cY (N:=["size","step"]) (ps:=["size","step"]) (k:=3) F λf nd cdv A outer s H E hr ds r hl c=> ?_
 obtain⟨p,q,hp,O,rfl,rfl⟩:=c;have f9:(cB p).length<=64:=lD hp;obtain⟨h1,h2,h3,h4,h5⟩:=uA p hp
 have ec:(((cB p).map bS).filter λ_=>true).map (λd=>D.int ((xI p (onQ p q<|kS d):Nat):Int))=bM (jO p q):=by
  rw[cQ.mpr λ_ _=>rfl];unfold bM jO;rw[aU,aU];refine cK λg _=> ?_
  show D.int ((xI p (onQ p q (kS<|bS g)):Nat):Int)=_;rw[iK];rfl
 refine aQ (gT<|kC rfl ztuple (PEd.bor<|PEd.val (PEd.cast (kH (ds:=(cB p).map bS) (N:=["filling","size","step"]) (M:=["size","step"]) (cap:=[none,some 0,some 1]) (sc:=aO aOE) (Tb:=λd=>[.val d,.val<|cC p,.val<|sqD q]) (λ_=>true) (λd=>D.int ((xI p (onQ p q<|kS d):Nat):Int)) (gX (PEd.val<|pdc (ds:=[cC p]) GF hr (aB (pdv 0) aK) ⟨p,hp,rfl,rfl⟩)) (by rw[aC];omega) rfl (by decide+kernel) rfl (by decide+kernel) rfl (λcl C fp s H d hd=>pgN 0) (λd hd=>⟨.inl rfl,.inr rfl,.inr rfl,trivial⟩) (λcl C fp s H d hd=>.inl ⟨rfl,rfl⟩) λcl C2 fp s H d hd _=> ?_)<|by rw[ec])));obtain⟨g,hg,rfl⟩:=xF hd;rw[iK];have G:=lU hp hg;have e:=(aDO hp<|uU O G).1;exact pdc (ds:=[cC p,bS<|onQ p q g]) GN hr (aB (pdv 1)<|aB (pdc (ds:=[cC p,sqD q,bS g]) GS hr (aB (pdv 1) (aB (pdv 2)<|aB (pdv 0) aK)) ⟨p,_,_,_,_,g,aIY O G,rfl,rfl⟩) aK) ⟨p,_,rfl,by omega,by omega,by rw[e]⟩
theorem aCK(F:FI K mg "moves_of" aDE)(GN:bJ P w K mg base "numbers_of_step" 4 2 aPU):bJ P w K mg base "moves_of" 5 2 aIq:=by
 have nd2:(["step","price","size"]:List Str).Nodup:=by decide+kernel
 refine cY (N:=["size","stock"]) (ps:=["size","stock"]) (k:=4) F λf nd cdv A outer s H E hr ds r hl c=> ?_
 obtain⟨p,L,hp,S,dn,rfl,rfl⟩:=c;have l8:=S.le
 have ec:((L.map skD).filter λ_=>true).map (λd=>mvD p<|wK L d)=L.map (mvD p):=by
  rw[cQ.mpr λ_ _=>rfl,aU];refine cK λs hs=> ?_
  show mvD p (wK L<|skD s)=_;rw[wM dn hs]
 refine aQ<|eU (PEd.cast (kH (ds:=L.map skD) (N:=["step","price","size"]) (M:=["size","stock"]) (cap:=[none,none,some 0]) (sc:=aO aDE) (Tb:=λd=>[.val<|sqD (wK L d).1,.val<|.int (wK L d).2,.val<|cC p]) (λ_=>true) (λd=>mvD p<|wK L d) (gX<|pdv 1) (by rw[aC];omega) rfl (by decide+kernel) rfl (by decide+kernel) rfl (λcl C fp s H d hd=> ?_) (λd hd=>⟨.inl rfl,.inl rfl,.inr rfl,trivial⟩) (λcl C fp s H d hd=>.inl ⟨rfl,rfl⟩) λcl C2 fp s H d hd _=> ?_)<|by rw[ec]) trivial rfl
 ·obtain⟨z,hz,rfl⟩:=aP.mp hd;rw[wM dn hz];exact jU (ds:=[sqD z.1,.int z.2]) (js:=[0,1]) rfl (dD (pgn 0)<|dD (pgn 1) iL) rfl rfl
 ·obtain⟨z,hz,rfl⟩:=aP.mp hd;rw[wM dn hz];exact pdT (ds:=[.int z.2,tN<|jO p z.1]) (aB (pdv 1)<|aB (pdc (ds:=[cC p,sqD z.1]) GN hr (aB (pdv 2)<|aB (pdv 0) aK) ⟨p,z.1,hp,(S.st z hz).1,rfl,rfl⟩) aK)
theorem aFu(F:FI K mg "numbers_behind" aJF)(ztuple:mg "tuple"=none):bJ P w K mg base "numbers_behind" 1 2 aMx:=by
 have nd2:(["number","other"]:List Str).Nodup:=by decide+kernel
 refine cY (N:=["one","other"]) (ps:=["one","other"]) (k:=0) F λf nd cdv A outer s H E hr ds r hl c=> ?_
 obtain⟨one,other,h1,h2,rfl,rfl⟩:=c
 have ec:((bM one).filter λ_=>true).map (λd=>match d with | .int i=>D.int ((other.getD i.toNat 0:Nat):Int)|_=>.non)=bM (jC other one):=by rw[cQ.mpr λ_ _=>rfl];unfold bM jC;rw[aU,aU];rfl
 refine aQ (gT<|kC rfl ztuple (PEd.bor<|PEd.val (PEd.cast (kH (ds:=bM one) (N:=["number","other"]) (M:=["one","other"]) (cap:=[none,some 1]) (sc:=aO aJF) (Tb:=λd=>[.val d,.val (.tup<|bM other)]) (λ_=>true) (λd=>match d with | .int i=>D.int ((other.getD i.toNat 0:Nat):Int)|_=>.non) (nK<|pdv 0) (by rw[aBS];omega) rfl (by decide+kernel) rfl (by decide+kernel) rfl (λcl C fp s H d hd=>pgN 0) (λd hd=>⟨.inl rfl,.inr rfl,trivial⟩) (λcl C fp s H d hd=>.inl ⟨rfl,rfl⟩) λcl C2 fp s H d hd _=> ?_)<|by rw[ec])));obtain⟨i,hi,rfl⟩:=aP.mp hd;exact xG (n:=i) (pdv 1) (pdv 0) (aNw<|h2 i hi) λ_ _=>rfl
abbrev nl1:List Str:=["waiting","moves","bound","rank","row","numbers","place","move","price","longer"]
theorem aHK(F:FI K mg "put_longer_rows" aPS)(zenumerate:mg "enumerate"=none)(GB:bJ P w K mg base "numbers_behind" 1 2 aMx):qY P w K (wtL P w K) mg base "put_longer_rows" 2 6 aOy:=by
 obtain⟨f,fd,hm,F⟩:=F;have nd:nl1.Nodup:=by decide+kernel
 refine aLr (Z:=wtL P w K) (N:=nl1) (ps:=["waiting","moves","bound","rank","row","numbers"]) (k:=1) F ⟨rfl,rfl,rfl,nd,rfl,by decide+kernel,by decide+kernel⟩ hm (λ_ _ _ _ _ _ us hl=>match us,hl with | [_,_,_,_,_,_],_=>rfl) (λcdv A outer s H E B hB hr a ds post hl c=> ?_)<|aGW P w K;obtain⟨p,L,b,r,row,nb,hp,L9,hnb,r9,ndT,hT,rfl,rfl⟩:=c;have hu:=uN hr 4;have f9:(cB p).length<=64:=lD hp;refine aQ<|jB (ds:=lX (L.map<|mvD p)) (λt sd=>∃a':Wt,a'.l=a.l/\a'.T=lgQ p L b r row nb t a.T/\sd=[wtS P w K a',.val<|.lst (L.map<|mvD p),.val<|.int b,.val<|.tup [.int r.1,.int r.2],.val (.tup<|bM row),.val (.tup<|bM nb),.un,.un,.un,.un]) (rZ rfl zenumerate<|pdv 1) ⟨_,Le.refl _,a,rfl,rfl,rfl⟩ (λt d sdt hd ht=> ?_) λsdn hn=> ?_
 ·obtain⟨x,hx,rfl⟩:=nC hd;obtain⟨a',el,eT,rfl⟩:=ht
  have tl:t<L.length:=by have:=(aE.mp hx).1;simpa using this
  have ex:x=mvD p (L.getD t AO):=by rw[aW,fJ tl] at hx;rw[<-bZ.inj hx];simp[cG,tl]
  subst ex;have es:lgQ p L b r row nb (t+1) a.T=if r.1+(L.getD t AO).2<=b then jX (lgQ p L b r row nb t a.T) (r.1+(L.getD t AO).2,r.2+1) (nP (row++[t],jC (jO p (L.getD t AO).1) nb)) else lgQ p L b r row nb t a.T:=rfl
  have ndt:=aGw (p:=p) (L:=L) (b:=b) (r:=r) (row:=row) (nb:=nb) ndT t;have tt:=aIa (p:=p) (L:=L) (b:=b) (r:=r) (row:=row) (nb:=nb) (T:=a.T) t;rw[<-eT] at es ndt tt;obtain⟨pl0,pl1⟩:=hnb;generalize L.getD t AO=m at es;refine⟨[wtS P w K a',.val<|.lst (L.map<|mvD p),.val<|.int b,.val<|.tup [.int r.1,.int r.2],.val (.tup<|bM row),.val (.tup<|bM nb),.val<|.int (t:Int),.val<|mvD p m,.un,.un],jU (js:=[6,7]) rfl (dD (pgn 6)<|dD (pgn 7) iL) rfl rfl, ?_⟩;refine aG<|gW (d:=.int<|r.1+m.2) 8 (fU gL (pdx (n:=0) (d:=.int r.1)<|pdv 3) (pdx (n:=0) (d:=.int m.2)<|pdv 7)) ?_;refine aQ<|fG (k:=decide<|r.1+m.2<=b) (oO aMf (pdv 8) (pdv 2)<|gP _) (λq=> ?_) λq=>dQ ?_
  ·rw[if_pos<|of_decide_eq_true q] at es;have e1:bM row++[.int (t:Int)]=bM (row++[t]):=by unfold bM;rw[aX];rfl
   refine aG<|gW (d:=p2D<|nP (row++[t],jC (jO p m.1) nb)) 9 (PEd.cast (pdT (ds:=[.tup (bM<|row++[t]),.tup (bM<|jC (jO p m.1) nb)]) (aB (PEd.cast (pW (d1:=bM row) (d2:=[.int (t:Int)]) (pdv 4) (pdT (ds:=[.int (t:Int)])<|aB (pdv 6) aK)<|by unfold bM;rw[aC];show _+1<=10000;omega)<|by rw[e1])<|aB (pdc (ds:=[.tup<|bM nb,.tup (bM<|jO p m.1)]) (r:=.val<|.tup (bM<|jC (jO p m.1) nb)) GB hr (aB (pdv 5)<|aB (pdx (n:=1) (d:=.tup (bM<|jO p m.1))<|pdv 7) aK) ⟨nb,jO p m.1,by omega,λi hi=>by rw[aKE];exact pl1 i hi,rfl,rfl⟩) aK))<|by rw[aON]) ?_;generalize nP (row++[t],jC (jO p m.1) nb)=y at es;refine aQ<|zF (k:=rkK (r.1+m.2,r.2+1)) (ks:=wtK a'.T) (ls:=a'.ls) (dss:=wtD a'.T) (d:=p2D y) 0 (by show(A.deeper _).units+1<AS;omega) rfl (pv 0) (PEd.cast (pdT (ds:=[.int<|r.1+m.2,.int<|r.2+1]) (aB (pdv 8)<|aB (fU gL (pdx (n:=1) (d:=.int r.2)<|pdv 3) bR) aK)) rfl) (λz=>aDC 9 rfl<|pv 9) (by have:=aKD a'.T;unfold wtD;rw[aC];omega) (λds hd=>by have:=aLc ds hd;omega) (λn ds hk hd=> ?_) λhk a9=> ?_
   ·obtain⟨k1,k2⟩:=wB y ndt hk hd;refine⟨[wtS P w K ⟨a'.l,a'.ls,jX a'.T (r.1+m.2,r.2+1) y⟩,.val<|.lst (L.map<|mvD p),.val<|.int b,.val<|.tup [.int r.1,.int r.2],.val (.tup<|bM row),.val (.tup<|bM nb),.un,.un,.un,.un],⟨.inr ?_,.inr rfl,.inr rfl,.inr rfl,.inr rfl,.inr rfl,.inl rfl,.inl rfl,.inl rfl,.inl rfl,trivial⟩,⟨a'.l,a'.ls,jX a'.T (r.1+m.2,r.2+1) y⟩,el,es.symm,rfl⟩;unfold wtS;rw[k1,k2];rfl
   ·have k1:=vX y hk;refine⟨[wtS P w K ⟨a'.l,a'.ls++[a9],jX a'.T (r.1+m.2,r.2+1) y⟩,.val<|.lst (L.map<|mvD p),.val<|.int b,.val<|.tup [.int r.1,.int r.2],.val (.tup<|bM row),.val (.tup<|bM nb),.un,.un,.un,.un],⟨.inr ?_,.inr rfl,.inr rfl,.inr rfl,.inr rfl,.inr rfl,.inl rfl,.inl rfl,.inl rfl,.inl rfl,trivial⟩,⟨a'.l,a'.ls++[a9],jX a'.T (r.1+m.2,r.2+1) y⟩,el,es.symm,rfl⟩;unfold wtS;rw[k1];unfold wtK wtD;rw[aX,aX];rfl
  ·rw[if_neg<|of_decide_eq_false q] at es;exact⟨[wtS P w K a',.val<|.lst (L.map<|mvD p),.val<|.int b,.val<|.tup [.int r.1,.int r.2],.val (.tup<|bM row),.val (.tup<|bM nb),.un,.un,.un,.un],⟨.inr rfl,.inr rfl,.inr rfl,.inr rfl,.inr rfl,.inr rfl,.inl rfl,.inl rfl,.inl rfl,.inr rfl,trivial⟩,a',el,es.symm,rfl⟩
 ·obtain⟨a',el,eT,rfl⟩:=hn;refine⟨a',⟨el, ?_⟩,rfl⟩;rw[eT,lJ,aC]
abbrev nl2:List Str:=["moves","bound","start","waiting","known","found","rank","ready","row","numbers"]
theorem aIA{CN:BE}(zlen:mg "len"=none)(zmin:mg "min"=none)(zlist:mg "list"=none)(zsorted:mg "sorted"=none)(hmt:∃t,mg "MOST_TABLES"=some (.int 500 t))(xk:aLO K mg CN)(GP:qY P w K (wtL P w K) mg base "put_longer_rows" 2 6 aOy){cdv:BC}{A:BF}{outer:List Env}{s:BD}{H:Hp}{E:XK}(hr:Room 2 (A.deeper<|Ai "found_rows" (aO sFd) s.heap.objs.size f cdv)){ξ:BC->BD->Prop}(hξ:PassesOwn (AH P w) (A.deeper<|Ai "found_rows" (aO sFd) s.heap.objs.size f cdv) (Ai "found_rows" (aO sFd) s.heap.objs.size f cdv) ξ){p:Int×Int}{L:List SK}{b:Int}(hp:p∈bY)(S0:StkOk p L)(b3:b<=300)(tk:500<(bkF p L b).length->∀sd,vU ((iF CX0 P w K mg base nl2 "found_rows" (aO sFd) f cdv A outer s H E).wish ξ) (.ref CN) sd){Ed:iA}(hEd:(bkF p L b).length<=500->Ed.rt (.own<|(bkF p L b).map fdD)):PSd ((iF CX0 P w K mg base nl2 "found_rows" (aO sFd) f cdv A outer s H E).wish ξ) (init 10 [.lst (L.map<|mvD p),.int b,.tup (bM<|st0 p)]) (cN sFd) Ed:=by
 obtain⟨tm,hmt⟩:=hmt;have nd:nl2.Nodup:=by decide+kernel
 have hu8:=uN hr 8;have hu4:=uN hr 4;have hu2:=uN hr 2;have hu1:=uN hr 1;have hpr:=S0.pr;have l8:=S0.le;have m8:∀ {n:Nat},n<=500->n*L.length<=4000:=λh=>cF (aOr h l8)<|by decide
 refine aG<|zL 3 nd rfl (Or.inl rfl) λl3=> ?_;refine aMr (K:=∀ls T,(fd0 p b).T=T->PSd _ [.val<|.lst (L.map<|mvD p),.val<|.int b,.val<|.tup (bM<|st0 p),wtS P w K ⟨l3,ls,T⟩,.un,.un,.un,.un,.un,.un] _ _) (λkey=>aG (fG (k:=decide<|0<=b) (oO aJq (pdv 1) bR<|gP _) (λq=> ?_) λq=>dQ<|key [] [] (if_neg<|of_decide_eq_false q))) λls T e0=> ?_
 ·refine aQ<|aHG (ds:=[p2D<|nP ([],st0 p)]) 3 hu1 rfl (pv 3) (pdL (ds:=[p2D<|nP ([],st0 p)])<|aB (PEd.cast (pdT (ds:=[.tup<|bM [],.tup (bM<|st0 p)]) (aB (pdT (ds:=[]) aK)<|aB (pdv 2) aK))<|by rw[aON]) aK) (λz=>nomatch z) (gC rfl) λa=> ?_;exact key [a] [((0,0),[nP ([],st0 p)])] (if_pos<|of_decide_eq_true q)
 subst e0;refine aG<|aHU (hkT P w) 4 nd rfl (Or.inl rfl) λl4=> ?_;refine aG<|qB (ds:=[]) 5 (pdL (ds:=[]) aK) λl5=> ?_;refine aG<|aFP (λm sd=>∃S dn r ls,Wk p L b dn r [] S/\4001<dn.length+m/\jA p L b m S=jA p L b 4002 (fd0 p b)/\S.fd.length<=500/\sd=[.val<|.lst (L.map<|mvD p),.val<|.int b,.val<|.tup (bM<|st0 p),wtS P w K ⟨l3,ls,S.T⟩,oG (hkT P w) K l4 (S.kn.map mK)<|S.kn.map λ_=>.bl true,.own l5<|S.fd.map fdD,.un,.un,.un,.un]) ⟨4002,_,Le.refl _,fd0 p b,[],(0,0),ls,wk0 p L b,by simp,rfl,cP _,rfl⟩ (λm sdm hw=> ?_) (hp:=hξ);obtain⟨S,dn,r,ls,W,hU,hR,s5,rfl⟩:=hw;refine⟨decide<|(0:Int)<((wtK S.T).length:Int),oO aJv (aJL 3 rfl zlen rfl<|pv 3) bR<|gP _,λq=> ?_,λq=> ?_⟩
 ·have e:S.T=[]:=by have:=of_decide_eq_false q;unfold wtK at this;rw[aC] at this;exact gY (by omega)
  have e2:jA p L b m S=S:=by
   cases m with
   |zero=>rfl
   |succ m=>exact if_pos e
  have e3:bkF p L b=S.fd:=by unfold bkF;rw[<-hR,e2]
  refine aQ<|pA 5 rfl (pv 5) ?_;rw[<-e3];exact hEd (by rw[e3];exact s5)
 ·have hne:S.T≠[]:=λz=>by rw[z] at q;cases q
  obtain⟨t,ht,hm,tnd,tne,W1,eT,W2⟩:=W.turn hpr hne;obtain⟨M,t',g1,g2,g3,g4,_⟩:=aMZ (X:=((iF CX0 P w K mg base nl2 "found_rows" (aO sFd) f cdv A outer s H E).wish ξ)) hu4 hne;have et:t=t':=(bZ.inj<|g1.symm.trans ht).symm;subst et
  have tl:t.2.length<=10000:=by have h1:=(hV t.2).length_eq;have h2:_<=1+S.fd.length*L.length:=W1.few2;have:=m8 s5;omega
  refine aG<|gW (d:=rkD t.1) 6 (aKr rfl zmin (PEd.bor<|PEd.val (aHy 3 rfl zlist rfl<|pv 3)) M g2) ?_;refine aG<|aGT (ps:=t.2) (rk:=rkP t.2) (k:=rkK t.1) 3 7 (eV S.T) hu1 rfl zsorted rfl (pv 3) (PEd.cast (pdv 6) rfl) g3 g4 (aME tnd tl hu8) nd rfl (Or.inl rfl) λl7 qs qp qw=>iM 7 rfl ?_;have eq:=aKM tnd qp qw;subst eq;have ek:wtK (S.T.eraseIdx<|eV S.T)=(wtK S.T).eraseIdx (eV S.T):=by unfold wtK;rw[dJ,dJ,aX,iG,jM]
  have ed:wtD (S.T.eraseIdx<|eV S.T)=(wtD S.T).eraseIdx (eV S.T):=by unfold wtD;rw[dJ,dJ,aX,iG,jM]
  have e5:odG P w K l3 ((wtK S.T).eraseIdx<|eV S.T) (ls.eraseIdx<|eV S.T) ((wtD S.T).eraseIdx<|eV S.T)=wtS P w K ⟨l3,ls.eraseIdx<|eV S.T,S.T.eraseIdx<|eV S.T⟩:=by unfold wtS;rw[ek,ed]
  refine aDn (sd':=[.val<|.lst (L.map<|mvD p),.val<|.int b,.val<|.tup (bM<|st0 p),wtS P w K ⟨l3,ls.eraseIdx<|eV S.T,({S with T:=S.T.eraseIdx (eV S.T)}:FdS).T⟩,oG (hkT P w) K l4 (({S with T:=S.T.eraseIdx (eV S.T)}:FdS).kn.map mK)<|({S with T:=S.T.eraseIdx (eV S.T)}:FdS).kn.map λ_=>.bl true,.own l5<|({S with T:=S.T.eraseIdx (eV S.T)}:FdS).fd.map fdD,.val<|rkD t.1,.val (.lst<|(gK t.2).map p2D),.un,.un]) ⟨.inr rfl,.inr rfl,.inr rfl,.inr e5,.inr rfl,.inr rfl,.inr rfl,.inr rfl,.inr rfl,.inr rfl,trivial⟩ ?_
  have hR2:∃m',m=m'+1/\jA p L b m' (fdT p L b S)=jA p L b 4002 (fd0 p b):=by
   cases m with
   |zero=>have:=W.few2;have:=m8 s5;omega
   |succ m'=>have e6:jA p L b (m'+1) S=jA p L b m' (fdT p L b S):=if_neg hne;exact⟨m',rfl,by rw[<-e6];exact hR⟩
  obtain⟨m',rfl,hR2⟩:=hR2
  have tpos:0<(gK t.2).length:=by rw[(hV t.2).length_eq];exact jE.mpr tne
  have s51:({S with T:=S.T.eraseIdx (eV S.T)}:FdS).fd.length<=500:=s5;rw[eT] at hR2 W2;clear hR e5 ek ed g1 g2 g3 g4 M qp qw eT;generalize ({S with T:=S.T.eraseIdx (eV S.T)}:FdS)=S1 at W1 W2 hR2 s51
  have pre:∀j,(fdP p L b t.1 S1<|(gK t.2).take j).fd.length<=(bkF p L b).length:=λj=>by
   have e1:fdP p L b t.1 (fdP p L b t.1 S1<|(gK t.2).take j) ((gK t.2).drop j)=fdP p L b t.1 S1 (gK t.2):=by
    conv=>rhs;rw[<-fC j (gK t.2)]
    unfold fdP;rw[fO]
   have h1:=(aAA (p:=p) (L:=L) b t.1 ((gK t.2).drop j) (fdP p L b t.1 S1<|(gK t.2).take j)).length_le;have h2:=(aDR (p:=p) (L:=L) (b:=b) m' (fdP p L b t.1 S1<|gK t.2)).length_le;rw[e1] at h1;rw[hR2] at h2;exact cF h1 h2
  generalize ls.eraseIdx (eV S.T)=ls1;refine aQ<|jB (ds:=(gK t.2).map p2D) (λj sd=>∃S' ls,S'=fdP p L b t.1 S1 ((gK t.2).take j)/\S'.fd.length<=500/\sd=[.val<|.lst (L.map<|mvD p),.val<|.int b,.val<|.tup (bM<|st0 p),wtS P w K ⟨l3,ls,S'.T⟩,oG (hkT P w) K l4 (S'.kn.map mK)<|S'.kn.map λ_=>.bl true,.own l5<|S'.fd.map fdD,.val<|rkD t.1,.val (.lst<|(gK t.2).map p2D),.un,.un]) (gX<|pdv 7) ⟨_,Le.refl _,S1,ls1,rfl,s51,rfl⟩ (λj d sdj hd hj=> ?_) (λsdn hn=> ?_) (hp:=hξ)
  ·obtain⟨S',ls2,eS,f1,rfl⟩:=hj;have pj:=pre<|j+1;obtain⟨y,hy,rfl,ey⟩:=aBq hd;have jl:j<(gK t.2).length:=(aE.mp hy).1;have Wj:=W1.take hpr j (by omega);have Wj1:=W1.take hpr (j+1) (by omega);rw[ey,vY,<-eS] at Wj1;rw[<-eS] at Wj;have eS1:fdP p L b t.1 S1 ((gK t.2).take<|j+1)=fdI p L b t.1 S' (unP y):=by rw[ey,vY,<-eS]
   obtain⟨row,rfl,ro,er,rb⟩:=W1.rs y<|bA hy;rw[eS1] at pj ⊢;rw[aMv] at Wj1 pj ⊢
   have rU:row.length<=300:=by
    have:=aDI (pr:=prK L) row λk hk=>hpr k<|ro k hk
    have rb:S45.prQ (prK L) row<=b:=by rw[er] at rb;exact rb
    omega
   have nbo:=(aDl hp (λs hs=>(S0.st s hs).1) ro).1;have tt:=Wj.tot2;have:=m8 f1;have okj:=Wj.ok
   have kl:S'.kn.length<=500:=by rw[okj.kn,aC];exact f1
   have dy:p2D (itP p L row)=.tup [.tup<|bM row,.tup (bM<|nrQ p L row)]:=aON _;rw[dy];clear Wj Wj1 eS1 ey hy hd eS dy;refine⟨[.val<|.lst (L.map<|mvD p),.val<|.int b,.val<|.tup (bM<|st0 p),wtS P w K ⟨l3,ls2,S'.T⟩,oG (hkT P w) K l4 (S'.kn.map mK)<|S'.kn.map λ_=>.bl true,.own l5<|S'.fd.map fdD,.val<|rkD t.1,.val (.lst<|(gK t.2).map p2D),.val (.tup<|bM row),.val<|.tup (bM<|nrQ p L row)],jU (ds:=[.tup<|bM row,.tup (bM<|nrQ p L row)]) (js:=[8,9]) rfl (dD (pgn 8)<|dD (pgn 9) iL) rfl rfl, ?_⟩
   have inj:decide (nrQ p L row∈S'.kn)=true↔mK (nrQ p L row)∈S'.kn.map mK:=by
    rw[decide_eq_true_iff]
    constructor
    ·exact λh=>aP.mpr ⟨_,h,rfl⟩
    ·intro h;obtain⟨e,e1,e2⟩:=aP.mp h;rw[<-aBM e2];exact e1
   refine aMr (K:=∀S2 ls3,S2=fdI p L b t.1 S' (row,nrQ p L row)->PSd _ [.val<|.lst (L.map<|mvD p),.val<|.int b,.val<|.tup (bM<|st0 p),wtS P w K ⟨l3,ls3,S2.T⟩,oG (hkT P w) K l4 (S2.kn.map mK)<|S2.kn.map λ_=>.bl true,.own l5<|S2.fd.map fdD,.val<|rkD t.1,.val (.lst<|(gK t.2).map p2D),.val (.tup<|bM row),.val<|.tup (bM<|nrQ p L row)] _ _) (λkey=>aG (fG (k:= !decide (nrQ p L row∈S'.kn)) (aHp (hk:=hkT P w) (k:=mK<|nrQ p L row) inj hu2 (PEd.cast (pdv 9)<|by rw[show(hkT P w).dat (mK<|nrQ p L row)=tD (mK<|nrQ p L row) from rfl,aIg]) (aKh 4 rfl<|pv 4)) (λq=> ?_) λq=>dQ<|key S' ls2 (if_pos<|by simpa using q).symm)) λS2 ls3 e2=> ?_
   ·have nk:nrQ p L row∉S'.kn:=by simpa using q
    refine aG<|aGP (hk:=hkT P w) (k:=mK<|nrQ p L row) (d:=.bl true) 4 hu2 rfl (pv 4) qJ (PEd.cast (pdv 9)<|by rw[show(hkT P w).dat (mK<|nrQ p L row)=tD (mK<|nrQ p L row) from rfl,aIg]) (λz=>nk (of_decide_eq_true<|inj.mpr z)) (by rw[aC];omega) ?_;refine aG<|nX (d:=fdD (t.1.1,row,nrQ p L row)) 5 rfl (pv 5) (pdT (ds:=[.int t.1.1,.tup<|bM row,.tup (bM<|nrQ p L row)])<|aB (pdx (n:=0) (d:=.int t.1.1)<|pdv 6) (aB (pdv 8)<|aB (pdv 9) aK)) (by rw[aC];omega) ?_;refine aQ<|aFi (Z:=wtL P w K) (a:=⟨l3,ls2,S'.T⟩) (ds:=[.lst (L.map<|mvD p),.int b,.tup [.int t.1.1,.int t.1.2],.tup<|bM row,.tup (bM<|nrQ p L row)]) 3 rfl (pv 3) GP hr rfl (aB (pdv 0) (aB (pdv 1)<|aB (pdv 6) (aB (pdv 8)<|aB (pdv 9) aK))) ⟨p,L,b,t.1,row,nrQ p L row,hp,by omega,nbo,by omega,okj.nk,by show tot S'.T+_<=_;omega,rfl,rfl⟩ (λa' h=>h.1) rfl λa' h=> ?_;obtain⟨al,als,aT⟩:=a';obtain⟨h1,h2⟩:=h;have h1:al=l3:=h1;have h2:aT=lgQ p L b t.1 row (nrQ p L row) L.length S'.T:=h2;subst h1 h2;have k:=key ⟨lgQ p L b t.1 row (nrQ p L row) L.length S'.T,S'.kn++[nrQ p L row],S'.fd++[(t.1.1,row,nrQ p L row)]⟩ als (if_neg nk).symm;simp only[aX,aZ,eO] at k;exact k
   ·rw[<-e2] at pj;refine aQ (fG (k:=decide<|(500:Int)<(((S2.fd.map fdD).length:Nat):Int)) (oO aJv (mC rfl zlen (oA 5 rfl<|pv 5)) (aHS (i:=500) rfl hmt ⟨tm,rfl⟩)<|gP _) (λq=> ?_) λq=>dQ ?_)
    ·have q:=of_decide_eq_true q;rw[aC] at q;exact aQ (aFs (ds:=[.str _]) rfl xk.nw.1 xk.ex (tk (by omega) _) (aB gM aK)<|gC rfl)
    ·have q:=of_decide_eq_false q;rw[aC] at q;exact⟨[.val<|.lst (L.map<|mvD p),.val<|.int b,.val<|.tup (bM<|st0 p),wtS P w K ⟨l3,ls3,S2.T⟩,oG (hkT P w) K l4 (S2.kn.map mK)<|S2.kn.map λ_=>.bl true,.own l5<|S2.fd.map fdD,.val<|rkD t.1,.val (.lst<|(gK t.2).map p2D),.un,.un],⟨.inr rfl,.inr rfl,.inr rfl,.inr rfl,.inr rfl,.inr rfl,.inr rfl,.inr rfl,.inl rfl,.inl rfl,trivial⟩,S2,ls3,e2,by omega,rfl⟩
  ·obtain⟨S',ls3,eS,f1,rfl⟩:=hn;rw[aC,fW] at eS;subst eS;exact⟨m',[.val<|.lst (L.map<|mvD p),.val<|.int b,.val<|.tup (bM<|st0 p),wtS P w K ⟨l3,ls3,(fdP p L b t.1 S1<|gK t.2).T⟩,oG (hkT P w) K l4 ((fdP p L b t.1 S1<|gK t.2).kn.map mK)<|(fdP p L b t.1 S1<|gK t.2).kn.map λ_=>.bl true,.own l5<|(fdP p L b t.1 S1<|gK t.2).fd.map fdD,.un,.un,.un,.un],gS _,⟨.inr rfl,.inr rfl,.inr rfl,.inr rfl,.inr rfl,.inr rfl,.inl rfl,.inl rfl,.inr rfl,.inr rfl,trivial⟩,fdP p L b t.1 S1<|gK t.2,dn++(gK t.2).map rwP,t.1,ls3,W2,by rw[aH,aC];omega,hR2,f1,rfl⟩
theorem aCA{CN:BE}(F:FI K mg "found_rows" sFd)(zlen:mg "len"=none)(zmin:mg "min"=none)(zlist:mg "list"=none)(zsorted:mg "sorted"=none)(hmt:∃t,mg "MOST_TABLES"=some (.int 500 t))(xk:aLO K mg CN)(GP:qY P w K (wtL P w K) mg base "put_longer_rows" 2 6 aOy):bJ P w K mg base "found_rows" 3 3 aIe/\gJ P w K mg base "found_rows" 3 3 aIp (.ref CN) [] []:=by
 constructor
 ·refine cY (N:=nl2) (ps:=["moves","bound","start"]) (k:=2) F λf nd cdv A outer s H E hr ds r hl c=> ?_
  obtain⟨p,L,b,hp,S0,FU,rfl,rfl⟩:=c;exact aIA (E:=E) zlen zmin zlist zsorted hmt xk GP hr PassesOwn.never hp S0 FU.b3 (λh=>absurd FU.le<|aLM h) λ_=>rfl
 ·refine aBN (N:=nl2) (ps:=["moves","bound","start"]) (k:=2) F λf nd cdv A outer s H E hr hE ds hl c=> ?_
  obtain⟨p,L,b,hp,S0,⟨b3,g⟩,rfl⟩:=c;exact aIA (E:=E) zlen zmin zlist zsorted hmt xk GP hr PassesOwn.leaving hp S0 b3 (λ_ sd=>aCG (sd:=sd) hE) λh=>absurd h<|aLM g
theorem aCJ(F:FI K mg "table_from" aDq)(ztuple:mg "tuple"=none):bJ P w K mg base "table_from" 1 2 aIZ:=by
 have nd2:(["number","every"]:List Str).Nodup:=by decide+kernel
 refine cY (N:=["every","numbers"]) (ps:=["every","numbers"]) (k:=0) F λf nd cdv A outer s H E hr ds r hl c=> ?_
 obtain⟨B,nb,h1,h2,rfl,rfl⟩:=c
 have ec:((bM nb).filter λ_=>true).map (λd=>match d with | .int i=>bS (B.getD i.toNat [])|_=>.non)=(nb.map λi=>B.getD i []).map bS:=by rw[cQ.mpr λ_ _=>rfl];unfold bM;rw[aU,aU];rfl
 refine aQ (gT<|kC rfl ztuple (PEd.bor<|PEd.val (PEd.cast (kH (ds:=bM nb) (N:=["number","every"]) (M:=["every","numbers"]) (cap:=[none,some 0]) (sc:=aO aDq) (Tb:=λd=>[.val d,.val<|tL B]) (λ_=>true) (λd=>match d with | .int i=>bS (B.getD i.toNat [])|_=>.non) (nK<|pdv 1) (by rw[aBS];omega) rfl (by decide+kernel) rfl (by decide+kernel) rfl (λcl C fp s H d hd=>pgN 0) (λd hd=>⟨.inl rfl,.inr rfl,trivial⟩) (λcl C fp s H d hd=>.inl ⟨rfl,rfl⟩) λcl C2 fp s H d hd _=> ?_)<|by rw[ec])));obtain⟨i,hi,rfl⟩:=aP.mp hd;exact mO (n:=i) (PEd.bor<|pdv 1) (pdv 0) (aDU<|h2 i hi) λ_ _=>rfl
abbrev nl3:List Str:=["size","stock","bound","every","found"]
theorem aFL{CN:BE}(F:FI K mg "book_of" aJo)(zlen:mg "len"=none)(zrange:mg "range"=none)(ztuple:mg "tuple"=none)(GF:bJ P w K mg base "fillings" 2 1 vV)(GM:bJ P w K mg base "moves_of" 5 2 aIq)(GR:bJ P w K mg base "found_rows" 3 3 aIe/\gJ P w K mg base "found_rows" 3 3 aIp (.ref CN) [] [])(GT:bJ P w K mg base "table_from" 1 2 aIZ):bJ P w K mg base "book_of" 6 3 aJr/\gJ P w K mg base "book_of" 6 3 aAr (.ref CN) [] []:=by
 have nd2:(["price","row","numbers","every"]:List Str).Nodup:=by decide+kernel
 constructor
 ·refine cY (N:=nl3) (ps:=["size","stock","bound"]) (k:=5) F λf nd cdv A outer s H E hr ds r hl c=> ?_
  obtain⟨p,L,b,hp,S,dn,FU,rfl,rfl⟩:=c;have hr2:=hr.mono (show 2<=5 by decide);have hr3:=hr.mono (show 3<=5 by decide);have f9:(cB p).length<=64:=lD hp;have O:=aIX (p:=p) S.pr FU;have l4:=O.len;refine aG<|qB (ds:=(cB p).map bS) 3 (pdc (ds:=[cC p]) GF hr2 (aB (pdv 0) aK) ⟨p,hp,rfl,rfl⟩) λl5=>iM 3 rfl ?_;refine aG<|qB (ds:=(bkF p L b).map fdD) 4 (pdc (ds:=[.lst (L.map<|mvD p),.int b,tN<|st0 p]) GR.1 hr3 (aB (PEd.val<|pdc (ds:=[cC p,lK L]) GM hr (aB (pdv 0)<|aB (pdv 1) aK) ⟨p,L,hp,S,dn,rfl,rfl⟩) (aB (pdv 2)<|aB (tT (n:=(cB p).length) rfl ztuple rfl zrange (PEd.ic (mC rfl zlen (PEd.bor<|pdv 3))<|by rw[aC])<|by omega) aK)) ⟨p,L,b,hp,S,FU,rfl,rfl⟩) λl4=>iM 4 rfl ?_
  have ec:(((bkF p L b).map fdD).filter λ_=>true).map (λd=>enD ((unE d).1,(unE d).2.1,jP p (unE d).2.2))=(bkQ p L b).map enD:=by
   rw[cQ.mpr λ_ _=>rfl,aU];unfold bkQ;rw[aU];refine cK λe _=> ?_
   show enD ((unE<|fdD e).1,(unE<|fdD e).2.1,jP p (unE<|fdD e).2.2)=_;rw[aJn];rfl
  refine aQ<|eU (PEd.cast (kH (ds:=(bkF p L b).map fdD) (N:=["price","row","numbers","every"]) (M:=nl3) (cap:=[none,none,none,some 3]) (sc:=aO aJo) (Tb:=λd=>[.val<|.int (unE d).1,.val (.tup<|bM (unE d).2.1),.val (.tup<|bM (unE d).2.2),.val (tL<|cB p)]) (λ_=>true) (λd=>enD ((unE d).1,(unE d).2.1,jP p (unE d).2.2)) (gX<|pdv 4) (by rw[aC];omega) rfl (by decide+kernel) rfl (by decide+kernel) rfl (λcl C fp s H d hd=> ?_) (λd hd=>⟨.inl rfl,.inl rfl,.inl rfl,.inr rfl,trivial⟩) (λcl C fp s H d hd=>.inl ⟨rfl,rfl⟩) λcl C2 fp s H d hd _=> ?_)<|by rw[ec]) trivial rfl
  ·obtain⟨e,he,rfl⟩:=aP.mp hd;rw[aJn];exact jU (ds:=[.int e.1,tN e.2.1,tN e.2.2]) (js:=[0,1,2]) rfl (dD (pgn 0) (dD (pgn 1)<|dD (pgn 2) iL)) rfl rfl
  ·obtain⟨e,he,rfl⟩:=aP.mp hd;rw[aJn];obtain⟨h1,h2,h3,h4,h5⟩:=O.ent e he;have nbo:=(aDl hp (λs hs=>(S.st s hs).1) h1).1;rw[<-h4] at nbo;exact pdT (ds:=[.int e.1,tN e.2.1,.tup<|(jP p e.2.2).map bS])<|aB (pdv 0) (aB (pdv 1)<|aB (pdc (ds:=[tL<|cB p,tN e.2.2]) GT hr (aB (pdv 3)<|aB (pdv 2) aK) ⟨cB p,e.2.2,by rw[nbo.1];omega,nbo.2,rfl,rfl⟩) aK)
 ·refine aBN (N:=nl3) (ps:=["size","stock","bound"]) (k:=5) F λf nd cdv A outer s H E hr hE ds hl c=> ?_
  obtain⟨p,L,b,hp,S,dn,g,rfl⟩:=c;have hr2:=hr.mono (show 2<=5 by decide);have hr3:=hr.mono (show 3<=5 by decide);have f9:(cB p).length<=64:=lD hp;refine aG<|qB (ds:=(cB p).map bS) 3 (pdc (ds:=[cC p]) GF hr2 (aB (pdv 0) aK) ⟨p,hp,rfl,rfl⟩) λl5=>iM 3 rfl ?_;exact aG<|oS 4 nd rfl (Or.inl rfl) (aEf (ds:=[.lst (L.map<|mvD p),.int b,tN<|st0 p]) (dds:=[]) GR.2 rfl hr3 rfl (aB (PEd.val<|pdc (ds:=[cC p,lK L]) GM hr (aB (pdv 0)<|aB (pdv 1) aK) ⟨p,L,hp,S,dn,rfl,rfl⟩) (aB (pdv 2)<|aB (tT (n:=(cB p).length) rfl ztuple rfl zrange (PEd.ic (mC rfl zlen (PEd.bor<|pdv 3))<|by rw[aC])<|by omega) aK)) (λ_=>RepL.nil) ⟨p,L,b,hp,S,g,rfl⟩ rfl<|sR hE)
def aIs:List D->R->Prop:=λds r=>∃p L row ws,p∈bY/\StkOk p L/\(∀t∈row,t<L.length)/\Fil p ws/\ds=[cC p,.lst<|L.map skD,.tup<|bM row,bS ws]/\r=.val (bS<|hZ p L row ws)
theorem aHu(F:FI K mg "row_on" aIi)(GS:bJ P w K mg base "step_on" 3 3 aAn):bJ P w K mg base "row_on" 4 4 aIs:=by
 refine cY (N:=["size","stock","row","filling","made","number"]) (ps:=["size","stock","row","filling"]) (k:=3) F λf nd cdv A outer s H E hr ds r hl c=> ?_
 obtain⟨p,L,row,ws,hp,S,hrow,G,rfl,rfl⟩:=c;refine aG<|fV 4 nd rfl (Or.inl rfl) (pdv 3) ?_;refine aG<|nV (ds:=bM row) (λt=>[.val<|cC p,.val<|lK L,.val<|tN row,.val<|bS ws,.val (bS<|hZ p L (row.take t) ws),.un]) (λt=>[.val<|cC p,.val<|lK L,.val<|tN row,.val<|bS ws,.val (bS<|hZ p L (row.take t) ws),.val<|.int ((row.getD t 0:Nat):Int)]) (nK<|pdv 2) ⟨.inr rfl,.inr rfl,.inr rfl,.inr rfl,.inr rfl,.inr rfl,trivial⟩ (λt d hd=> ?_) (λt d hd=> ?_) ?_
 ·obtain⟨_,rfl⟩:=aEj hd;exact pgN 5
 ·obtain⟨ht,rfl⟩:=aEj hd;have hn:=hrow (row.getD t 0)<|DL.getD_mem ht;have G1:=oW S (row.take t) ws (λu hu=>hrow u<|List.take_subset _ _ hu) G;refine aQ<|gW (d:=bS<|hZ p L (row.take<|t+1) ws) 4 (pdc (ds:=[cC p,sqD (L.getD (row.getD t 0) AO).1,bS<|hZ p L (row.take t) ws]) GS hr (aB (pdv 0) (aB (pdx (n:=0) (ds:=[sqD (L.getD (row.getD t 0) AO).1,.int (L.getD (row.getD t 0) AO).2])<|mO (PEd.bor<|pdv 1) (pdv 5) (aDr hn) λ_ _=>rfl)<|aB (pdv 4) aK)) ⟨p,_,_,_,_,_,aIY (S.st _<|DL.getD_mem hn).1 G1,rfl,by rw[aGN ht,aFe];rfl⟩) ?_;exact⟨.inr rfl,.inr rfl,.inr rfl,.inr rfl,.inr rfl,.inl rfl,trivial⟩
 ·refine aQ<|eU (pdv 4) trivial ?_;show R.val (bS<|hZ p L (row.take (bM row).length) ws)=_;rw[show(bM row).length=row.length from aC _,fW]
abbrev nl4:List Str:=["size","stock","row"]
theorem aHn(F:FI K mg "table_of" aDN)(ztuple:mg "tuple"=none)(GF:bJ P w K mg base "fillings" 2 1 vV)(GR:bJ P w K mg base "row_on" 4 4 aIs):bJ P w K mg base "table_of" 5 3 aIu:=by
 refine cY (N:=nl4) (ps:=nl4) (k:=4) F λf nd cdv A outer s H E hr ds r hl c=> ?_
 obtain⟨p,L,row,hp,S,hrow,rfl,rfl⟩:=c;have nd2:(["filling","size","stock","row"]:List Str).Nodup:=by decide+kernel
 have f9:=lD hp;have fp:∀w∈iB (2^p.1.toNat) p.2.toNat,Fil p w:=λw hw=>lU hp hw
 have et:tabQ p L row=(iB (2^p.1.toNat) p.2.toNat).map λws=>hZ p L row ws:=rfl
 rw[et];refine aQ<|gT (kC rfl ztuple<|PEd.bor (PEd.val<|PEd.cast (pdC (ds:=(iB (2^p.1.toNat) p.2.toNat).map bS) (N:=["filling","size","stock","row"]) (M:=nl4) (cap:=[none,some 0,some 1,some 2]) (sc:=aO aDN) (Tb:=λd=>[.val d,.val<|cC p,.val<|lK L,.val<|tN row]) (λ_=>true) (λd=>bS (hZ p L row<|kS d)) (gX (PEd.val<|pdc (ds:=[cC p]) GF hr (aB (pdv 0) aK) ⟨p,hp,rfl,rfl⟩)) (by rw[aC];omega) (λcl C fp s H d hd=>.inl ⟨rfl,rfl⟩) λcl C fp2 s H d hd _=> ?_) (?_:_=R.own (((iB (2^p.1.toNat) p.2.toNat).map λws=>hZ p L row ws).map bS))))
 ·obtain⟨ws,hw,rfl⟩:=xF hd;rw[iK];exact pdc (ds:=[cC p,lK L,tN row,bS ws]) GR hr (aB (pdv 1)<|aB (pdv 2) (aB (pdv 3)<|aB (pdv 0) aK)) ⟨p,L,row,ws,hp,S,hrow,fp ws hw,rfl,rfl⟩
 ·rw[cQ.mpr λ_ _=>rfl,aU,aU];congr 1;refine cK λws _=> ?_
  show bS (hZ p L row (kS<|bS ws))=_;rw[iK];rfl
theorem aGS(F:FI K mg "boxes_looked_at" aIy)(zlist:mg "list"=none)(zrange:mg "range"=none):bJ P w K mg base "boxes_looked_at" 1 2 aIj:=by
 refine cY (N:=["size","looked"]) (ps:=["size","looked"]) (k:=0) F λf nd cdv A outer s H E hr ds r hl c=> ?_
 obtain⟨p,o,hp,rfl,rfl⟩:=c;obtain⟨h1,h2,h3,h4,h5⟩:=uA p hp;have e2:p.2=((p.2.toNat:Nat):Int):=by omega
 cases o with
 |none=>exact aG<|lE (lW (d:=.non) (pdv 1) eZ) rfl (aQ<|eU (PEd.cast (aAa (n:=p.2.toNat) rfl zlist rfl zrange (PEd.ic (pdx (n:=1) (d:=.int p.2)<|pdv 0) e2)<|by omega)<|by rw[zI];rfl) trivial rfl)
 |some l=>refine aG (nN (lW (d:=.lst<|bM l) (pdv 1) eZ) rfl<|dQ ?_);exact aQ (gT<|aBI rfl zlist (PEd.bor<|pdv 1))
theorem aCU(F:FI K mg "words_in" vP):bJ P w K mg base "words_in" 1 2 aBU:=by
 refine cY (N:=["boxes","filling"]) (ps:=["boxes","filling"]) (k:=0) F λf nd cdv A outer s H E hr ds r hl c=> ?_
 obtain⟨bs,ws,hb,hw,rfl,rfl⟩:=c;have nd2:(["box","filling"]:List Str).Nodup:=by decide+kernel
 refine aQ<|eU (PEd.cast (pdC (ds:=bM bs) (N:=["box","filling"]) (M:=["boxes","filling"]) (cap:=[none,some 1]) (sc:=aO vP) (Tb:=λd=>[.val d,.val<|bS ws]) (λ_=>true) (λd=>match d with | .int i=>D.int (ws.getD i.toNat 0)|_=>.non) (gX<|pdv 0) (by unfold bM;rw[aC];omega) (λcl C fp s H d hd=>.inl ⟨rfl,rfl⟩) λcl C fp s H d hd _=> ?_) ?_) trivial rfl
 ·obtain⟨b,hb2,rfl⟩:=aP.mp hd;have:=hw b hb2;exact xG (n:=b) (d:=.int<|ws.getD b 0) (pdv 1) (pdv 0) (by simp[cG,this]) λ_ _=>rfl
 ·rw[cQ.mpr λ_ _=>rfl];unfold bM;rw[aU,aU];rfl
abbrev nl5:List Str:=["row","place","many"]
theorem aCr(F:FI K mg "is_window" aIV)(zlen:mg "len"=none):bJ P w K mg base "is_window" 1 3 aPW:=by
 refine cY (N:=nl5) (ps:=nl5) (k:=0) F λf nd cdv A outer s H E hr ds r hl c=> ?_
 obtain⟨row,pl,mn,hw1,hw2,rfl,rfl⟩:=c;have e1:decide ((0:Int)<=(pl:Int))=true:=decide_eq_true (by omega);have e2:decide ((1:Int)<=(mn:Int))=true:=decide_eq_true (by omega);have e3:decide ((pl:Int)+(mn:Int)<=(row.length:Int))=true:=decide_eq_true (by omega);exact aQ<|eU (PEd.cast (aIl (k:=true) (j:=true) (PEd.cast (aJy (g:=λi j=>decide<|j<=i) aJq (pdv 1) bR<|gP _)<|by rw[e1]) λ_=>PEd.cast (aIl (k:=true) (j:=true) (PEd.cast (aJy (g:=λi j=>decide<|j<=i) aJq (pdv 2) bR<|gP _)<|by rw[e2]) λ_=>aMP (PEd.cast (aJy (g:=λi j=>decide<|i<=j) aMf (fU gL (pdv 1)<|pdv 2) (PEd.ic (rC rfl zlen<|pdv 0)<|by unfold bM;rw[aC])<|gP _)<|by rw[e3])) rfl) rfl) trivial rfl
theorem aCL(F:FI K mg "words_told" aDz)(ztuple:mg "tuple"=none)(GW:bJ P w K mg base "words_in" 1 2 aBU):bJ P w K mg base "words_told" 2 2 aIB:=by
 refine cY (N:=["boxes","table"]) (ps:=["boxes","table"]) (k:=1) F λf nd cdv A outer s H E hr ds r hl c=> ?_
 obtain⟨p,bs,T,hp,lb,hb,O,rfl,rfl⟩:=c;have f9:(cB p).length<=64:=lD hp
 have ec:((T.map bS).filter λ_=>true).map (λd=>bS (wdQ bs<|kS d))=(T.map<|wdQ bs).map bS:=by
  rw[cQ.mpr λ_ _=>rfl,aU,aU];refine cK λf _=> ?_
  show bS (wdQ bs (kS<|bS f))=_;rw[iK];rfl
 refine aQ<|eU (PEd.cast (kH (ds:=T.map bS) (N:=["filling","boxes"]) (M:=["boxes","table"]) (cap:=[none,some 0]) (sc:=aO aDz) (Tb:=λd=>[.val d,.val (.lst<|bM bs)]) (λ_=>true) (λd=>bS (wdQ bs<|kS d)) (nK<|pdv 1) (by rw[aC,O.len];omega) rfl (by decide+kernel) rfl (by decide+kernel) rfl (λcl C fp s H d _=>aBr 0 (rJ (i:=0) (show(["filling","boxes"]:List Str).Nodup by decide+kernel) rfl<|Or.inl rfl)) (λd _=>⟨.inl rfl,.inr rfl,trivial⟩) (λcl C fp s H d hd=>.inl ⟨rfl,rfl⟩) λcl C fp s H d hd _=> ?_)<|by rw[ec]) trivial rfl;obtain⟨f,hf,rfl⟩:=xF hd;have G:=O.fil f hf;rw[iK];exact kC rfl ztuple<|PEd.bor (PEd.val<|pdc (ds:=[.lst<|bM bs,bS f]) (r:=.own<|(wdQ bs f).map D.int) GW hr (aB (pdv 1)<|aB (pdv 0) aK) ⟨bs,f,lb,λb h=>by rw[G.len];exact hb b h,rfl,rfl⟩)
theorem aGG(F:FI K mg "fillings_by_words" aQj)(zenumerate:mg "enumerate"=none)(GF:bJ P w K mg base "fillings" 2 1 vV):bJ P w K mg base "fillings_by_words" 3 2 (aPZ P w K):=by
 refine cY (N:=["size","words","gathered","number","filling"]) (ps:=["size","words"]) (k:=2) F λf nd cdv A outer s H E hr ds r hl c=> ?_
 obtain⟨p,h,hp,rfl,rfl⟩:=c;have f9:(cB p).length<=64:=lD hp;have hu:=uN hr 1;refine aG<|zL 2 nd rfl (Or.inl rfl) λl=> ?_;refine aG<|jB (ds:=lX<|(cB p).map bS) (λt sd=>∃ls,sd=[.val<|cC p,.val (tL<|(cB p).map h),odG P w K l ((jJ<|((cB p).take t).map h).map kY) ls<|oB h ((cB p).take t) (jJ<|((cB p).take t).map h),.un,.un]) (rZ rfl zenumerate (PEd.val<|pdc (ds:=[cC p]) GF hr (aB (pdv 0) aK) ⟨p,hp,rfl,rfl⟩)) ⟨_,Le.refl _,[],rfl⟩ (λt d sdk hd hk=> ?_) λsdn hn=> ?_
 ·obtain⟨x,e1,rfl⟩:=nC hd;obtain⟨ht,rfl⟩:=oZ e1;obtain⟨ls,rfl⟩:=hk;have ew:(((cB p).map h).map bS)[t]? =some (bS (h<|(cB p).getD t [])):=by simp[cG,ht]
  have et:(cB p).take (t+1)=(cB p).take t++[(cB p).getD t []]:=yW [] ht;have tl:((cB p).take t).length<=64:=cF (List.length_take_le' _ _) f9;refine⟨[.val<|cC p,.val (tL<|(cB p).map h),odG P w K l ((jJ<|((cB p).take t).map h).map kY) ls<|oB h ((cB p).take t) (jJ<|((cB p).take t).map h),.val<|.int (t:Int),.val (bS<|(cB p).getD t [])],jU (js:=[3,4]) rfl (dD (pgn 3)<|dD (pgn 4) iL) rfl rfl, ?_⟩;have pred:∀k',k'∈jJ (((cB p).take t).map h)↔k'∈((cB p).take t).map h:=λk'=>aBC
  have ndk:=wR<|((cB p).take t).map h;have es:jJ (((cB p).take<|t+1).map h)=oU (jJ<|((cB p).take t).map h) (h<|(cB p).getD t []):=by rw[et,aX];exact aFl _ _
  have kl:(jJ<|((cB p).take t).map h).length<=64:=by refine cF (aGB _) ?_;rw[aC];exact tl
  refine aQ<|zF 2 (k:=kY (h<|(cB p).getD t [])) (d:=bS<|(cB p).getD t []) hu rfl (pv 2) (PEd.cast (mO (n:=t) (d:=bS (h<|(cB p).getD t [])) (PEd.bor<|pdv 1) (pdv 3) ew λ_ _=>rfl)<|by rw[aQh]) (λz=>(pdv 4)) (by unfold oB;rw[aC];omega) (λds hds=> ?_) (λn ds hk2 hd2=> ?_) λhk2 a=> ?_
  ·obtain⟨k',_,rfl⟩:=aP.mp hds;rw[aC];exact cF (kO _ _)<|by omega
  ·rw[aW] at hk2;obtain⟨k',q1,q2⟩:=eY.mp hk2;have q3:=aIw q2;subst q3;refine⟨[.val<|cC p,.val (tL<|(cB p).map h),odG P w K l ((jJ<|((cB p).take<|t+1).map h).map kY) ls<|oB h ((cB p).take<|t+1) (jJ<|((cB p).take<|t+1).map h),.un,.un],⟨.inr rfl,.inr rfl,.inr ?_,.inl rfl,.inl rfl,trivial⟩,ls,rfl⟩;show odG P w K l _ ls _=_;rw[es,show oU (jJ<|((cB p).take t).map h) (h<|(cB p).getD t [])=jJ (((cB p).take t).map h) from if_pos (bA q1),et,<-aJK ndk q1 hd2]
  ·have nm:h ((cB p).getD t [])∉jJ (((cB p).take t).map h):=λhm=>hk2 (aP.mpr ⟨_,hm,rfl⟩)
   refine⟨[.val<|cC p,.val (tL<|(cB p).map h),odG P w K l ((jJ<|((cB p).take<|t+1).map h).map kY) (ls++[a])<|oB h ((cB p).take<|t+1) (jJ<|((cB p).take<|t+1).map h),.un,.un],⟨.inr rfl,.inr rfl,.inr ?_,.inl rfl,.inl rfl,trivial⟩,ls++[a],rfl⟩;show odG P w K l _ (ls++[a]) _=_;rw[es,show oU (jJ<|((cB p).take t).map h) (h<|(cB p).getD t [])=jJ (((cB p).take t).map h)++[h<|(cB p).getD t []] from if_neg nm,et,aX,<-aKW nm λg hg=>(pred _).mpr<|aP.mpr ⟨g,hg,rfl⟩];rfl
 ·obtain⟨ls,rfl⟩:=hn;rw[lJ,aC,fW];exact aQ<|aGU 2 rfl (pv 2) (λv F H g=>⟨l,ls,rfl,g⟩) rfl
abbrev nl6:List Str:=["size","stock","row","place","many","looked","boxes","ahead","alike","words","every"]
abbrev nl7:List Str:=["size","stock","row","place","many","looked"]
abbrev nl8:List Str:=["number","filling","alike","words","ahead"]
theorem aHv(F:FID K mg "wish_at" aOF)(zlist:mg "list"=none)(zenumerate:mg "enumerate"=none)(GI:bJ P w K mg base "is_window" 1 3 aPW)(GB:bJ P w K mg base "boxes_looked_at" 1 2 aIj)(GT:bJ P w K mg base "table_of" 5 3 aIu)(GW:bJ P w K mg base "words_told" 2 2 aIB)(GG:bJ P w K mg base "fillings_by_words" 3 2 (aPZ P w K))(GF:bJ P w K mg base "fillings" 2 1 vV):CalleeE [.none] P w K mg base "wish_at" 6 6 aOb:=by
 obtain⟨f,fd,hm,F⟩:=F;have nd:nl6.Nodup:=by decide+kernel
 refine aAu (N:=nl6) (ps:=nl7) (k:=5) F ⟨rfl,rfl,rfl,nd,rfl,by decide+kernel,by decide+kernel⟩ hm (λs T o nn _ _ _ _ _ _ us hT hS hl=>match us,hl with | [_,_,_,_,_,_],_=>BindsTo.of_defaults rfl hT hS rfl rfl) (λs T o nn _ _ _ _ _ _ us hT hS hl=>match us,hl with | [_,_,_,_,_],_=>BindsTo.of_defaults rfl hT hS rfl rfl) λcdv A outer s H E hr ds r hl c=> ?_
 obtain⟨p,L,row,pl,mn,o,hp,S,hrow,rl,w1,w2,hlk,rfl,rfl⟩:=c;have f9:(cB p).length<=64:=lD hp;have hu:=uN hr 4;obtain⟨lb,hb⟩:=aOU hp hlk;have r1:∀t∈row.take pl,t<L.length:=λt ht=>hrow t<|dW ht
 have r2:∀t∈row.drop (pl+mn),t<L.length:=λt ht=>hrow t<|eP ht
 have r3:∀t∈row.drop pl,t<L.length:=λt ht=>hrow t<|eP ht
 refine tR (aLh (k:=true) (pV<|pdc (ds:=[tN row,.int (pl:Int),.int (mn:Int)]) (r:=.val<|.bl true) GI hr (aB (pdv 2) (aB (pdv 3)<|aB (pdv 4) aK)) ⟨row,pl,mn,w1,w2,rfl,rfl⟩)) ?_;refine aG<|qB (ds:=bM<|bxQ p.2.toNat o) 6 (pdc (ds:=[cC p,lkD o]) GB hr (aB (pdv 0)<|aB (pdv 5) aK) ⟨p,o,hp,rfl,rfl⟩) λl6=>iM 6 rfl ?_;generalize bxQ p.2.toNat o=bs at lb hb;refine aG<|gW (d:=.tup<|(tabQ p L<|row.take pl).map bS) 7 (pdc (ds:=[cC p,lK L,tN<|row.take pl]) GT hr (aB (pdv 0) (aB (pdv 1)<|aB (PEd.cast (aCj (k:=pl) (pdv 2)<|pdv 3)<|by rw[aFE]) aK)) ⟨p,L,_,hp,S,r1,rfl,rfl⟩) ?_;obtain⟨h,hh⟩:∃h,h=(λg=>wdQ bs<|hZ p L (row.drop<|pl+mn) g):=⟨_,rfl⟩
 have e1:(tabQ p L (row.drop<|pl+mn)).map (wdQ bs)=(cB p).map h:=by rw[hh];unfold tabQ;rw[aU];rfl
 refine aG<|aFO (ks:=(jJ<|(cB p).map h).map kY) (dss:=oB h (cB p) (jJ<|(cB p).map h)) 8 nd rfl (Or.inr rfl) (pdc (ds:=[cC p,tL<|(cB p).map h]) GG hr (aB (pdv 0)<|aB (PEd.cast (PEd.val<|pdc (ds:=[.lst<|bM bs,.tup<|(tabQ p L (row.drop<|pl+mn)).map bS]) GW hr (aB (pdv 6)<|aB (pdc (ds:=[cC p,lK L,tN (row.drop<|pl+mn)]) GT hr (aB (pdv 0) (aB (pdv 1)<|aB (PEd.cast (vN (k:=pl+mn) (pdv 2) (PEd.ic (fU gL (pdv 3)<|pdv 4)<|by push_cast;rfl))<|by rw[zG]) aK)) ⟨p,L,_,hp,S,r2,rfl,rfl⟩) aK) ⟨p,bs,_,hp,lb,hb,aIE hp S r2,rfl,rfl⟩)<|by rw[e1]) aK) ⟨p,h,hp,rfl,rfl⟩) ?_;refine aG<|qB (ds:=((tabQ p L<|row.drop pl).map<|wdQ bs).map bS) 9 (pdc (ds:=[.lst<|bM bs,.tup<|(tabQ p L<|row.drop pl).map bS]) GW hr (aB (pdv 6)<|aB (pdc (ds:=[cC p,lK L,tN<|row.drop pl]) GT hr (aB (pdv 0) (aB (pdv 1)<|aB (PEd.cast (vN (k:=pl) (pdv 2)<|pdv 3)<|by rw[zG]) aK)) ⟨p,L,_,hp,S,r3,rfl,rfl⟩) aK) ⟨p,bs,_,hp,lb,hb,aIE hp S r3,rfl,rfl⟩) λl9=>iM 9 rfl ?_;refine aG<|qB (ds:=(cB p).map bS) 10 (pdc (ds:=[cC p]) GF hr (aB (pdv 0) aK) ⟨p,hp,rfl,rfl⟩) λl10=>iM 10 rfl ?_
 have ec:((lX<|(cB p).map bS).filter λ_=>true).map (enF λg=>wsD<|wnQ p L row pl mn bs g)=(waQ p L row pl mn bs).map wsD:=by rw[cQ.mpr λ_ _=>rfl,aKt p λg=>wsD<|wnQ p L row pl mn bs g];unfold waQ;rw[aU];rfl
 have sh:∀d∈lX ((cB p).map bS),∃t:Nat,t<(cB p).length/\d=.tup [.int (t:Int),bS<|(cB p).getD t []]:=λd hd=>by obtain⟨t,ht⟩:=dU hd;obtain⟨x,q1,q2⟩:=nC ht;obtain⟨q3,rfl⟩:=oZ q1;exact⟨t,q3,q2⟩
 refine aQ<|eU (PEd.cast (kH (ds:=lX<|(cB p).map bS) (N:=nl8) (M:=nl6) (cap:=[none,none,some 8,some 9,some 7]) (sc:=aO aOF) (Tb:=λd=>match d with | .tup [a,b]=>[.val a,.val b,odF P w K ((jJ<|(cB p).map h).map kY)<|(oB h (cB p) (jJ<|(cB p).map h)).map D.lst,.val<|tL ((tabQ p L<|row.drop pl).map<|wdQ bs),.val (.tup<|(tabQ p L<|row.take pl).map bS)] | _=>[.un,.un,.un,.un,.un]) (λ_=>true) (enF λg=>wsD<|wnQ p L row pl mn bs g) (rZ rfl zenumerate<|pdv 10) (by rw[lJ,aC];omega) rfl (by decide+kernel) rfl (by decide+kernel) rfl (λcl C fp s H d hd=> ?_) (λd hd=> ?_) (λcl C fp s H d hd=>.inl ⟨rfl,rfl⟩) λcl C fp s H d hd _=> ?_)<|by rw[ec]) trivial rfl
 ·obtain⟨t,ht,rfl⟩:=sh d hd;exact jU (js:=[0,1]) rfl (dD (rJ (i:=0) (show nl8.Nodup by decide+kernel) rfl<|Or.inl rfl)<|dD (rJ (i:=1) (show nl8.Nodup by decide+kernel) rfl<|Or.inl rfl) iL) rfl rfl
 ·obtain⟨t,ht,rfl⟩:=sh d hd;exact⟨.inl rfl,.inl rfl,.inr rfl,.inr rfl,.inr rfl,trivial⟩
 ·obtain⟨t,ht,rfl⟩:=sh d hd;have G:Fil p ((cB p).getD t []):=lU hp (getD_mem (d:=[]) ht)
  have ew:(((tabQ p L<|row.drop pl).map<|wdQ bs).map bS)[t]? =some (bS<|wdQ bs (hZ p L (row.drop pl)<|(cB p).getD t [])):=by unfold tabQ;rw[aW,aW,aW];show(((cB p)[t]?.map _).map _).map _=_;simp[cG,ht]
  show PEd _ _ _ (.val<|wsD (wnQ p L row pl mn bs<|kS (bS<|(cB p).getD t [])));rw[iK];generalize (cB p).getD t []=u at G ew;have dT:=tH (tabQ p L<|row.take pl);refine aDo (k:=decide<|u∈tabQ p L (row.take pl)) (PTd.cast (aGF (pdv 1) (pdv 4) (rX _) (vM _)<|by show(A.deeper _).units+1+_<AS;omega)<|by rw[aBu]) (λq=> ?_) λq=> ?_
  ·have hm2:=of_decide_eq_true q;have e3:wnQ p L row pl mn bs u=some (uD h (cB p) (wdQ bs<|hZ p L (row.drop pl) u)):=by rw[hh];exact if_pos hm2
   rw[e3];have Gm:=oW S ((row.drop pl).take mn) u (λt ht=>r3 t<|dW ht) G
   have mk:wdQ bs (hZ p L (row.drop pl) u)∈jJ ((cB p).map h):=by rw[aBC,hh];refine aP.mpr ⟨hZ p L ((row.drop pl).take mn) u,uT Gm.len Gm.wd, ?_⟩;show wdQ bs _=_;rw[<-aCb,<-vT]
   obtain⟨n,hn⟩:=dU mk;exact PEd.val<|aBI rfl zlist (PEd.bor<|aHA 2 (k:=kY (wdQ bs<|hZ p L (row.drop pl) u)) (n:=n) (d:=tL<|uD h (cB p) (wdQ bs<|hZ p L (row.drop pl) u)) (by show(A.deeper _).units+1<AS;omega) rfl (pv 2) (PEd.cast (mO (n:=t) (d:=bS (wdQ bs<|hZ p L (row.drop pl) u)) (PEd.bor<|pdv 3) (pdv 0) ew λ_ _=>rfl)<|by rw[aQh]) (aGY<|wR _) (by rw[aW,hn];rfl) (by unfold oB;rw[aW,aW,hn];rfl) λ_ _=>rfl)
  ·rw[show wnQ p L row pl mn bs u=none from if_neg (of_decide_eq_false q)];exact eZ
abbrev nl9:List Str:=["size","wish","table"]
theorem aFb(F:FI K mg "misses_at" aMi)(zenumerate:mg "enumerate"=none)(GF:bJ P w K mg base "fillings" 2 1 vV):bJ P w K mg base "misses_at" 3 3 aMs:=by
 refine cY (N:=["size","wish","table","number","filling"]) (ps:=nl9) (k:=2) F λf nd cdv A outer s H E hr ds r hl c=> ?_
 obtain⟨p,w,T,hp,W,OT,rfl,rfl⟩:=c;have hu:=uN hr 4;refine aG<|jB (ds:=lX<|(cB p).map bS) (λk sd=>(∀j,j<k->aOj w T j=false)/\sd=[.val<|cC p,.val (.lst<|w.map wsD),.val (.tup<|T.map bS),.un,.un]) (rZ rfl zenumerate (PEd.val<|pdc (ds:=[cC p]) GF hr (aB (pdv 0) aK) ⟨p,hp,rfl,rfl⟩)) ⟨_,Le.refl _,λj hj=>by omega,rfl⟩ (λk d sdk hd hk=> ?_) λsdn hn=> ?_
 ·obtain⟨x,hx,rfl⟩:=nC hd;obtain⟨hk2,rfl⟩:=oZ hx;obtain⟨hn,rfl⟩:=hk;have kT:k<T.length:=by rw[OT.len];exact hk2
  have kW:k<w.length:=by rw[W.len];exact hk2
  refine⟨[.val<|cC p,.val (.lst<|w.map wsD),.val (.tup<|T.map bS),.val<|.int (k:Int),.val (bS<|(cB p).getD k [])],jU (js:=[3,4]) rfl (dD (pgn 3)<|dD (pgn 4) iL) rfl rfl, ?_⟩;refine aQ<|fG (k:=aOj w T k) ?_ (λh=> ?_) λh=>dQ ?_
  ·have ka:=aOW kW;unfold aOj;cases hq:w.getD k none with
   |none=>rw[hq] at ka;exact PWd.pt<|iP (k:=false) (j:=false) (mV (d:=.non) (mO (n:=k) (d:=.non) (PEd.bor<|pdv 1) (pdv 3) ka λ_ _=>rfl) eZ) λh=>by cases h
   |some L=>rw[hq] at ka;exact PWd.pt<|iP (k:=true) (j:= !decide (T.getD k []∈L)) (mV (d:=tL L) (mO (n:=k) (d:=tL L) (PEd.bor<|pdv 1) (pdv 3) ka λ_ _=>rfl) eZ) λ_=>sI (PTd.cast (vL (d:=bS<|T.getD k []) (ds:=L.map bS) (xG (n:=k) (pdv 2) (pdv 3) (aDU kT) λ_ _=>rfl) (mO (n:=k) (d:=tL L) (PEd.bor<|pdv 1) (pdv 3) ka λ_ _=>rfl) (rX _) (vM L)<|by have:=tH L;show(A.deeper _).units+1+_<AS;omega)<|by rw[aBu])
  ·refine aQ<|eU (pdv 4) trivial ?_;show R.val _=R.val (aOd<|vB w (cB p) T);rw[show vB w (cB p) T=some ((cB p).getD k []) from aCD hk2 h hn];rfl
  ·refine⟨[.val<|cC p,.val (.lst<|w.map wsD),.val (.tup<|T.map bS),.un,.un],⟨.inr rfl,.inr rfl,.inr rfl,.inl rfl,.inl rfl,trivial⟩,λj hj=> ?_,rfl⟩
   by_cases q:j<k
   ·exact hn j q
   ·have:j=k:=by omega
    subst this;exact h
 ·obtain⟨hn,rfl⟩:=hn;rw[lJ,aC] at hn;refine aQ<|eU eZ trivial ?_;show R.val _=R.val (aOd<|vB w (cB p) T);rw[show vB w (cB p) T=none from aCu hn];rfl
theorem aKv(F:FI K mg "does_wish" aMd)(GM:bJ P w K mg base "misses_at" 3 3 aMs):bJ P w K mg base "does_wish" 4 3 aMn:=by
 refine cY (N:=nl9) (ps:=nl9) (k:=3) F λf nd cdv A outer s H E hr ds r hl c=> ?_
 obtain⟨p,w,T,hp,W,OT,rfl,rfl⟩:=c;exact aQ<|eU (PEd.cast (xA (pdc (ds:=[cC p,.lst<|w.map wsD,.tup<|T.map bS]) GM hr (aB (pdv 0) (aB (pdv 1)<|aB (pdv 2) aK)) ⟨p,w,T,hp,W,OT,rfl,rfl⟩) eZ)<|by rw[aKq]) trivial rfl
theorem aJX(F:FI K mg "first_that_does" sFt)(GD:bJ P w K mg base "does_wish" 4 3 aMn):bJ P w K mg base "first_that_does" 5 3 aGm:=by
 refine cY (N:=["size","book","wish","entry"]) (ps:=["size","book","wish"]) (k:=4) F λf nd cdv A outer s H E hr ds r hl c=> ?_
 obtain⟨p,L,b,B,w,hp,S,O,W,rfl,rfl⟩:=c;refine aG<|jB (ds:=B.map enD) (λt sd=>ftQ p w B=ftQ p w (B.drop t)/\sd=[.val<|cC p,.val (.lst<|B.map enD),.val (.lst<|w.map wsD),.un]) (gX<|pdv 1) ⟨_,Le.refl _,rfl,rfl⟩ (λt d sdt hd ht=> ?_) λsdn hn=> ?_
 ·obtain⟨q,rfl⟩:=ht;obtain⟨e,he,rfl,_⟩:=aBq hd;obtain⟨tl,ee⟩:=aE.mp he;obtain⟨x1,x2,x3,x4,x5⟩:=O.ent e<|bA he;have tk:yQ p e.2.2:=by rw[x4];exact aLk hp S x1
  rw[dH tl,ee] at q;refine⟨[.val<|cC p,.val (.lst<|B.map enD),.val (.lst<|w.map wsD),.val<|enD e],pgN 3, ?_⟩;refine aQ<|fG (k:=doQ p w e.2.2) (pV<|pdc (ds:=[cC p,.lst<|w.map wsD,.tup<|e.2.2.map bS]) GD hr (aB (pdv 0) (aB (pdv 2)<|aB (pdx (n:=2) (ds:=[.int e.1,tN e.2.1,.tup<|e.2.2.map bS])<|pdv 3) aK)) ⟨p,w,e.2.2,hp,W,tk,rfl,rfl⟩) (λh=> ?_) λh=>dQ ?_
  ·have e3:ftQ p w B=some e:=by rw[q];exact List.find?_cons_of_pos (p:=λe:Bk=>doQ p w e.2.2) h
   rw[e3];exact aQ (gT<|pdv 3)
  ·refine⟨[.val<|cC p,.val (.lst<|B.map enD),.val (.lst<|w.map wsD),.un],⟨.inr rfl,.inr rfl,.inr rfl,.inl rfl,trivial⟩, ?_,rfl⟩;rw[q];exact List.find?_cons_of_neg (p:=λe:Bk=>doQ p w e.2.2) (by rw[h];decide)
 ·obtain⟨q,rfl⟩:=hn;rw[aC,uZ] at q;rw[q];exact aQ<|gT eZ
theorem aHs(F:FI K mg "price_of" aDK)(zsum:mg "sum"=none):bJ P w K mg base "price_of" 1 2 aBf:=by
 refine cY (N:=["stock","row"]) (ps:=["stock","row"]) (k:=0) F λf nd cdv A outer s H E hr ds r hl c=> ?_
 obtain⟨L,row,hrow,hl2,rfl,rfl⟩:=c;have nd2:(["number","stock"]:List Str).Nodup:=by decide+kernel
 have ec:((bM row).filter λ_=>true).map (λd=>match d with | .int t=>D.int (L.getD t.toNat AO).2|_=>.non)=(tY L row).map D.int:=by
  rw[cQ.mpr λ_ _=>rfl];unfold bM tY;rw[aU,aU];refine cK λt _=> ?_
  simp
 refine aQ (gT<|aKb (ns:=tY L row) rfl zsum (PEd.bor<|PEd.val (PEd.cast (pdC (ds:=bM row) (N:=["number","stock"]) (M:=["stock","row"]) (cap:=[none,some 0]) (sc:=aO aDK) (Tb:=λd=>[.val d,.val<|lK L]) (λ_=>true) (λd=>match d with | .int t=>D.int (L.getD t.toNat AO).2|_=>.non) (nK<|pdv 1) (by rw[show(bM row).length=row.length from aC _];omega) (λcl C fp s H d hd=>.inl ⟨rfl,rfl⟩) λcl C fp s H d hd _=> ?_)<|by rw[ec])));obtain⟨t,ht,rfl⟩:=aP.mp hd;have hn:=hrow t ht;exact pdx (n:=1) (ds:=[sqD (L.getD t AO).1,.int (L.getD t AO).2])<|mO (n:=t) (PEd.bor<|pdv 1) (pdv 0) (aDr hn) λ_ _=>rfl
theorem aCM(F:FI K mg "steps_at" aCg):bJ P w K mg base "steps_at" 1 3 rV:=by
 refine cY (N:=nl5) (ps:=nl5) (k:=0) F λf nd cdv A outer s H E hr ds r hl c=> ?_
 obtain⟨row,i,m,rfl,rfl⟩:=c;refine aQ<|eU (aLf (i:=i) (j:=i+m) (pdv 0) (pdv 1) (PEd.ic (fU gL (pdv 1)<|pdv 2)<|by omega)) trivial ?_;unfold bM;rw[Nat.add_sub_cancel_left,iG,jM]
abbrev xM:List Str:=["self","bound"]
theorem aMJ{C:BE}(F:Fun K "book_up_to" "Shelf.book_up_to" aJj f fd)(T:oX K mg C)(GB:bJ P w K mg base "book_of" 6 3 aJr)(p:Int×Int)(L:List SK):FnOk P w K mg base CX0 7 f fd xM (aLw (shZ K C p L) 2<|aQc p L):=by
 refine aDG (Z:=shZ K C p L) (N:=xM) (ps:=xM) (k:=6) F ⟨rfl,rfl,rfl,by decide+kernel,rfl,by decide+kernel,by decide+kernel⟩ (λcdv A outer s H E B hB hr a ds d hl c=> ?_) sW
 ·obtain⟨b,I,rfl,rfl⟩:=c;have hu:=uN hr 1;refine zB (C:=C) (fs:=aOG p L) (J:=JSh p L) (a:=a) 0 rfl λks ds J=> ?_
  by_cases hk:(Sum.inl (b:Int):Key)∈ks
  ·obtain⟨n,h1,h2⟩:=J.at_ hk;refine aG (fG (k:=false) (oV (ks:=ks) (ds:=ds) (k:=(b:Int)) 0 hu rfl (pv 0) T.cl T.nM (pdv 1) false λxs lx=> ?_) (λh=>by cases h) λ_=> ?_)
   ·obtain⟨x,hx⟩:∃x,xs[n]? =some x:=⟨_,fJ<|by rw[<-lx];exact(aE.mp h1).1⟩;rw[aAO J.1 h1 hx];rfl
   ·exact dQ (aQ<|aCk (J:=JSh p L) 0 rfl J (wV (n:=n) (k:=(b:Int)) 0 hu rfl (pv 0) T.cl T.nM (pdv 1) J.1 h1 h2 λ_ _=>rfl) rfl)
  ·have J2:=J.put I.le I.fit hk;obtain⟨n,h1,h2⟩:=J2.at_ (b:=b) (aM _<|cD _);refine aG (fG (k:=true) (oV (ks:=ks) (ds:=ds) (k:=(b:Int)) 0 hu rfl (pv 0) T.cl T.nM (pdv 1) true λxs lx=> ?_) (λ_=> ?_) λh=>by cases h)
   ·rw[pU hk λ_ z=>z];rfl
   ·exact aQ<|aAX (d:=.lst<|(bkQ p L (b:Int)).map enD) (k:=(b:Int)) 0 hu rfl (pv 0) T.cl T.nM (PEd.val<|pdc (ds:=[cC p,lK L,.int (b:Int)]) GB hr (aB (uW (d:=cC p) 0 rfl (pv 0) T.cl T.nZ rfl) (aB (uW (d:=lK L) 0 rfl (pv 0) T.cl T.nS rfl)<|aB (pdv 1) aK)) ⟨p,L,(b:Int),I.hp,I.st,I.nd,I.fit,rfl,rfl⟩) (pdv 1) hk J.len (aQ<|aCk (J:=JSh p L) 0 rfl J2 (wV (n:=n) (k:=(b:Int)) 0 hu rfl (pv 0) T.cl T.nM (pdv 1) J2.1 h1 h2 λ_ _=>rfl) rfl)
theorem aLn{C CN:BE}(F:Fun K "book_up_to" "Shelf.book_up_to" aJj f fd)(T:oX K mg C)(GB:gJ P w K mg base "book_of" 6 3 aAr (.ref CN) [] [])(p:Int×Int)(L:List SK):FnOk P w K mg base (CX1 P w<|.ref CN) 7 f fd xM (aLB (shZ K C p L) 2<|aPV p L):=by
 refine aJz (Z:=shZ K C p L) (N:=xM) (ps:=xM) (k:=6) F ⟨rfl,rfl,rfl,by decide+kernel,rfl,by decide+kernel,by decide+kernel⟩ (λcdv A outer s H E B hB hr hE a ds hl c=> ?_) sW;obtain⟨b,I,rfl⟩:=c;have hu:=uN hr 1;refine zB (C:=C) (fs:=aOG p L) (J:=JSh p L) (a:=a) 0 rfl λks ds J=> ?_
 have hk:(Sum.inl (b:Int):Key)∉ks:=λhk=>by
  obtain⟨n,hn⟩:=dU hk;obtain⟨b',_,e,q,ft⟩:=J.2.2 n _ hn;have:b=b':=by have:=Sum.inl.inj e;omega
  subst this;have:=ft.le;have:=I.gr.2;omega
 refine aG<|fG (k:=true) (oV (ks:=ks) (ds:=ds) (k:=(b:Int)) 0 hu rfl (pv 0) T.cl T.nM (pdv 1) true λxs lx=> ?_) (λ_=> ?_) λh=>by cases h
 ·rw[pU hk λ_ z=>z];rfl
 ·exact aQ<|aHT (aEf (ds:=[cC p,lK L,.int (b:Int)]) (dds:=[]) GB rfl hr rfl (aB (uW (d:=cC p) 0 rfl (pv 0) T.cl T.nZ rfl) (aB (uW (d:=lK L) 0 rfl (pv 0) T.cl T.nS rfl)<|aB (pdv 1) aK)) (λ_=>RepL.nil) ⟨p,L,(b:Int),I.hp,I.st,I.nd,I.gr,rfl⟩ rfl<|qO hE)
abbrev nl11:List Str:=["shelf","row","place","many","looked","wish","price","found"]
abbrev aNY:List Str:=["shelf","row","place","many","looked"]
theorem aCs{CS fB:BE}{fdB:AN}(F:Fun K "piece_from" "piece_from" aBj f fd)(shT:oX K mg CS)(hm:mg "piece_from"=some (.ref f))(mB:aLG K CS "book_up_to" fB)(bB:Binds K fdB xM [])(GB:∀ (p:Int×Int) (L:List SK),FnOk P w K mg base CX0 7 fB fdB xM (aLw (shZ K CS p L) 2<|aQc p L))(GW:CalleeE [.none] P w K mg base "wish_at" 6 6 aOb)(GS:bJ P w K mg base "steps_at" 1 3 rV)(GP:bJ P w K mg base "price_of" 1 2 aBf)(GF:bJ P w K mg base "first_that_does" 5 3 aGm)(p:Int×Int)(L:List SK):kJ P w K (shZ K CS p L) mg base "piece_from" 8 5 (CPf p L):=by
 have nd:nl11.Nodup:=by decide+kernel
 refine⟨f,fd,aNY,hm,F.kp,F.binds (λ_ _ _ _ _ _ us hl=>match us,hl with | [_,_,_,_,_],_=>rfl),aDG (Z:=shZ K CS p L) (N:=nl11) (ps:=aNY) (k:=7) F ⟨rfl,rfl,rfl,nd,rfl,by decide+kernel,by decide+kernel⟩ (λcdv A outer s H E B hB hr a ds d hl c=> ?_) sW⟩;obtain⟨row,pl,mn,o,I,rfl,rfl⟩:=c;obtain⟨b,eb,Ib⟩:=I.bk;have W:=aPr Ib.hp Ib.st I.rw pl mn<|bxQ p.2.toNat o;have O:=aNp Ib.hp Ib.st Ib.fit;have rw1:∀t∈(row.drop pl).take mn,t<L.length:=λt ht=>I.rw t (eP<|dW ht)
 have rl1:((row.drop pl).take mn).length<=500:=by have:=I.rl;rw[cV,fD];omega
 unfold pcQ;rw[eb];have es:uC (tY L<|(row.drop pl).take mn)=(b:Int)+1:=by omega
 refine aG<|qB (ds:=(waQ p L row pl mn<|bxQ p.2.toNat o).map wsD) 5 (pdc (ds:=[cC p,lK L,tN row,.int (pl:Int),.int (mn:Int),lkD o]) GW.full hr (aB (mD (d:=cC p) 0 rfl (pv 0) shT.cl shT.nZ rfl)<|aB (mD (d:=lK L) 0 rfl (pv 0) shT.cl shT.nS rfl) (aB (pdv 1)<|aB (pdv 2) (aB (pdv 3)<|aB (pdv 4) aK))) ⟨p,L,row,pl,mn,o,Ib.hp,Ib.st,I.rw,I.rl,I.m1,I.le,I.lk,rfl,rfl⟩) λl5=>iM 5 rfl ?_;generalize waQ p L row pl mn (bxQ p.2.toNat o)=wi at W;refine aG<|gW (d:=.int<|(b:Int)+1) 6 (PEd.ic (pdc (ds:=[lK L,tN<|(row.drop pl).take mn]) GP hr (aB (mD (d:=lK L) 0 rfl (pv 0) shT.cl shT.nS rfl)<|aB (pdc (ds:=[tN row,.int (pl:Int),.int (mn:Int)]) GS hr (aB (pdv 1) (aB (pdv 2)<|aB (pdv 3) aK)) ⟨row,pl,mn,rfl,rfl⟩) aK) ⟨L,_,rw1,rl1,rfl,rfl⟩) es) ?_;refine aG<|gW (d:=oeD (ftQ p wi<|bkQ p L (b:Int))) 7 (pdc (ds:=[cC p,.lst<|(bkQ p L (b:Int)).map enD,.lst<|wi.map wsD]) GF hr (aB (mD (d:=cC p) 0 rfl (pv 0) shT.cl shT.nZ rfl) (aB (aGH (ds:=[.int (b:Int)]) (d:=.lst<|(bkQ p L (b:Int)).map enD) 0 rfl (pv 0) aEy shT.cl mB (GB p L) hr bB (aB (PEd.ic (fU oQ (pdv 6) bR)<|by omega) aK) ⟨b,Ib,rfl,rfl⟩ rfl)<|aB (pdv 5) aK)) ⟨p,L,(b:Int),bkQ p L (b:Int),wi,Ib.hp,Ib.st,O,W,rfl,rfl⟩) ?_;cases hq:ftQ p wi (bkQ p L (b:Int)) with
 |none=>exact aQ<|rP 0 rfl (aDo (k:=true) (PTd.cast (lW (d:=.non) (pdv 7) eZ) rfl) (λ_=>eZ) λh=>by cases h) rfl
 |some e=>exact aQ<|rP 0 rfl (aDo (k:=false) (PTd.cast (lW (d:=enD e) (pdv 7) eZ) rfl) (λh=>by cases h) λ_=>pdx (n:=1) (ds:=[.int e.1,tN e.2.1,.tup<|e.2.2.map bS])<|pdv 7) rfl
theorem aFF{CS fB CN:BE}{fdB:AN}(F:Fun K "piece_from" "piece_from" aBj f fd)(shT:oX K mg CS)(hm:mg "piece_from"=some (.ref f))(mB:aLG K CS "book_up_to" fB)(bB:Binds K fdB xM [])(GB:∀ (p:Int×Int) (L:List SK),FnOk P w K mg base (CX1 P w<|.ref CN) 7 fB fdB xM (aLB (shZ K CS p L) 2<|aPV p L))(GW:CalleeE [.none] P w K mg base "wish_at" 6 6 aOb)(GS:bJ P w K mg base "steps_at" 1 3 rV)(GP:bJ P w K mg base "price_of" 1 2 aBf)(GF:bJ P w K mg base "first_that_does" 5 3 aGm)(p:Int×Int)(L:List SK):iY P w K (shZ K CS p L) mg base "piece_from" 8 5 (XPf p L) (.ref CN):=by
 have nd:nl11.Nodup:=by decide+kernel
 refine⟨f,fd,aNY,hm,F.kp,F.binds (λ_ _ _ _ _ _ us hl=>match us,hl with | [_,_,_,_,_],_=>rfl),aJz (Z:=shZ K CS p L) (N:=nl11) (ps:=aNY) (k:=7) F ⟨rfl,rfl,rfl,nd,rfl,by decide+kernel,by decide+kernel⟩ (λcdv A outer s H E B hB hr hE a ds hl c=> ?_) sW⟩;obtain⟨row,pl,mn,o,I,rfl⟩:=c;obtain⟨b,eb,Ib⟩:=I.bk;have rw1:∀t∈(row.drop pl).take mn,t<L.length:=λt ht=>I.rw t (eP<|dW ht)
 have rl1:((row.drop pl).take mn).length<=500:=by have:=I.rl;rw[cV,fD];omega
 have es:uC (tY L<|(row.drop pl).take mn)=(b:Int)+1:=by omega
 obtain⟨fF,_,_,mF,kF,_⟩:=GF.ex;refine aG<|qB (ds:=(waQ p L row pl mn<|bxQ p.2.toNat o).map wsD) 5 (pdc (ds:=[cC p,lK L,tN row,.int (pl:Int),.int (mn:Int),lkD o]) GW.full hr (aB (mD (d:=cC p) 0 rfl (pv 0) shT.cl shT.nZ rfl)<|aB (mD (d:=lK L) 0 rfl (pv 0) shT.cl shT.nS rfl) (aB (pdv 1)<|aB (pdv 2) (aB (pdv 3)<|aB (pdv 4) aK))) ⟨p,L,row,pl,mn,o,Ib.hp,Ib.st,I.rw,I.rl,I.m1,I.le,I.lk,rfl,rfl⟩) λl5=>iM 5 rfl ?_;generalize waQ p L row pl mn (bxQ p.2.toNat o)=wi;refine aG<|gW (d:=.int<|(b:Int)+1) 6 (PEd.ic (pdc (ds:=[lK L,tN<|(row.drop pl).take mn]) GP hr (aB (mD (d:=lK L) 0 rfl (pv 0) shT.cl shT.nS rfl)<|aB (pdc (ds:=[tN row,.int (pl:Int),.int (mn:Int)]) GS hr (aB (pdv 1) (aB (pdv 2)<|aB (pdv 3) aK)) ⟨row,pl,mn,rfl,rfl⟩) aK) ⟨L,_,rw1,rl1,rfl,rfl⟩) es) ?_;exact aG (oS 7 nd rfl (Or.inl rfl)<|aLs rfl mF kF (mD (d:=cC p) 0 rfl (pv 0) shT.cl shT.nZ rfl) (aFK (ds:=[.int (b:Int)]) 0 rfl (pv 0) aEy shT.cl mB (GB p L) hr bB (aB (PEd.ic (fU oQ (pdv 6) bR)<|by omega) aK) ⟨b,Ib,rfl⟩ rfl<|qO hE))
theorem aCZ{CS fB CN:BE}{fdB:AN}(F:FI K mg "piece_from" aBj)(shT:oX K mg CS)(mB:aLG K CS "book_up_to" fB)(shB:Fun K "book_up_to" "Shelf.book_up_to" aJj fB fdB)(GO:bJ P w K mg base "book_of" 6 3 aJr/\gJ P w K mg base "book_of" 6 3 aAr (.ref CN) [] [])(GW:CalleeE [.none] P w K mg base "wish_at" 6 6 aOb)(GS:bJ P w K mg base "steps_at" 1 3 rV)(GP:bJ P w K mg base "price_of" 1 2 aBf)(GF:bJ P w K mg base "first_that_does" 5 3 aGm):∀ (p:Int×Int) (L:List SK),kJ P w K (shZ K CS p L) mg base "piece_from" 8 5 (CPf p L)/\iY P w K (shZ K CS p L) mg base "piece_from" 8 5 (XPf p L) (.ref CN):=by
 obtain⟨f,fd,hm,F⟩:=F;intro p L;have bB:=shB.binds (ps:=xM) λ_ _ _ _ _ _ us hl=>match us,hl with | [_,_],_=>rfl
 exact⟨aCs F shT hm mB bB (aMJ shB shT GO.1) GW GS GP GF p L,aFF F shT hm mB bB (aLn shB shT GO.2) GW GS GP GF p L⟩
abbrev aLF:List Str:=["self","size","stock"]
theorem tJ{C:BE}(F:Fun K "__init__" "Shelf.__init__" aJe f fd)(T:oX K mg C):FnOk P w K mg base CX0 1 f fd aLF (xB C):=by
 refine F.ok (N:=aLF) ⟨rfl,rfl,rfl,by decide+kernel,rfl,by decide+kernel,by decide+kernel⟩ (λvs H Q E h=> ?_) λcdv A outer s H vs Q E hr h=> ?_
 ·obtain⟨x,dx,v1,v2,rfl,_⟩:=h;rfl
 ·obtain⟨x,dx,v1,v2,rfl,hx,k⟩:=h;refine⟨_,wN (aDJ (pv 0) (pv 1) rfl)<|wN (aDJ (pv 0) (pv 2) rfl) (aEp<|aDJ (pv 0) aHO rfl), ?_⟩;refine⟨_,rfl,_,rfl,x,C,dx,[],rfl,hx,T.cl,T.nZ,(by show 0<1000;decide), ?_⟩;refine⟨_,rfl,_,rfl,x,C,dx,_,rfl,bK,T.cl,T.nS,(by show 1<1000;decide), ?_⟩;intro m hm
  have nxm:x≠m:=λz=>by subst z;rw[bK] at hm;cases hm
  refine⟨_,rfl,x,C,dx,_,rfl,(by rw[aV nxm,bK]),T.cl,T.nM,(by have:=lY "stock" v2<|mU "size" v1 [];have:=lY "size" v1 [];simp only[gH] at this;omega), ?_⟩;rw[aV nxm.symm,aV nxm.symm] at hm;have q:=k m hm;rw[aHm];exact q
theorem aER{CS fI CN:BE}{fdI:AN}(F:aLD #[.none] K "piece_for" "piece_for" aJp f fd)(shT:oX K mg CS)(shM:Mk K CS fI)(bI:Binds K fdI aLF [])(GI:FnOk P w K mg base CX0 1 fI fdI aLF (xB CS))(hm:mg "piece_for"=some (.ref f))(GP:∀ (p:Int×Int) (L:List SK),kJ P w K (shZ K CS p L) mg base "piece_from" 8 5 (CPf p L)/\iY P w K (shZ K CS p L) mg base "piece_from" 8 5 (XPf p L) (.ref CN)):CalleeE [.none] P w K mg base "piece_for" 9 6 aJE/\gJ P w K mg base "piece_for" 9 6 aJk (.ref CN) [] []:=by
 have nd:nl7.Nodup:=by decide+kernel
 constructor
 ·refine aAu (N:=nl7) (ps:=nl7) (k:=8) F ⟨rfl,rfl,rfl,nd,rfl,by decide+kernel,by decide+kernel⟩ hm (λs T o nn _ _ _ _ _ _ us hT hS hl=>match us,hl with | [_,_,_,_,_,_],_=>BindsTo.of_defaults rfl hT hS rfl rfl) (λs T o nn _ _ _ _ _ _ us hT hS hl=>match us,hl with | [_,_,_,_,_],_=>BindsTo.of_defaults rfl hT hS rfl rfl) λcdv A outer s H E hr ds r hl c=> ?_
  obtain⟨p,L,row,pl,mn,o,I,rfl,rfl⟩:=c;exact aQ (gT<|zN (Z:=shZ K CS p L) (ds:=[tN row,.int (pl:Int),.int (mn:Int),lkD o]) [2,3,4,5] (rN JSh.nil shT shM GI bI (hr.mono<|by decide) rfl (aB (pdv 0)<|aB (pdv 1) aK)) (GP p L).1 hr rfl (dA (pv 2)<|dA (pv 3) (dA (pv 4)<|dA (pv 5) pa_nil)) rfl (λa=>⟨row,pl,mn,o,I,rfl,rfl⟩) rfl)
 ·refine aCc (N:=nl7) (ps:=nl7) (k:=8) F ⟨rfl,rfl,rfl,nd,rfl,by decide+kernel,by decide+kernel⟩ hm (λs T o nn _ _ _ _ _ _ us hT hS hl=>match us,hl with | [_,_,_,_,_,_],_=>BindsTo.of_defaults rfl hT hS rfl rfl) λcdv A outer s H E hr hE ds hl c=> ?_
  obtain⟨p,L,row,pl,mn,o,I,rfl⟩:=c;exact aQ<|aBX (zM (Z:=shZ K CS p L) (ds:=[tN row,.int (pl:Int),.int (mn:Int),lkD o]) [2,3,4,5] (rN JSh.nil shT shM GI bI (hr.mono<|by decide) rfl (aB (pdv 0)<|aB (pdv 1) aK)) (GP p L).2 hr rfl (dA (pv 2)<|dA (pv 3) (dA (pv 4)<|dA (pv 5) pa_nil)) rfl (λa=>⟨row,pl,mn,o,I,rfl⟩) rfl<|sR hE)
theorem aFz{CS fI CN:BE}{fdI:AN}(F:FID K mg "piece_for" aJp)(shT:oX K mg CS)(shM:Mk K CS fI)(shF:Fun K "__init__" "Shelf.__init__" aJe fI fdI)(GP:∀ (p:Int×Int) (L:List SK),kJ P w K (shZ K CS p L) mg base "piece_from" 8 5 (CPf p L)/\iY P w K (shZ K CS p L) mg base "piece_from" 8 5 (XPf p L) (.ref CN)):CalleeE [.none] P w K mg base "piece_for" 9 6 aJE/\gJ P w K mg base "piece_for" 9 6 aJk (.ref CN) [] []:=by obtain⟨f,fd,hm,F⟩:=F;exact aER F shT shM (shF.binds (ps:=aLF) λ_ _ _ _ _ _ us hl=>match us,hl with | [_,_,_],_=>rfl) (tJ shF shT) hm GP
abbrev nl14:List Str:=["shelf","row","looked","width","many","place","piece"]
theorem aDY{CS CN:BE}(zrange:mg "range"=none)(zlen:mg "len"=none)(GP:∀ (p:Int×Int) (L:List SK),kJ P w K (shZ K CS p L) mg base "piece_from" 8 5 (CPf p L)/\iY P w K (shZ K CS p L) mg base "piece_from" 8 5 (XPf p L) (.ref CN)){cdv:BC}{A:BF}{outer:List Env}{s:BD}{H B:Hp}{E:XK}{hB:∀b o,H b=some o->mS o->B b=some o}(hr:Room 8 (A.deeper<|Ai "first_change" (aO sFc) s.heap.objs.size f cdv)){ξ:BC->BD->Prop}(hξ:PassesOwn (AH P w) (A.deeper<|Ai "first_change" (aO sFc) s.heap.objs.size f cdv) (Ai "first_change" (aO sFc) s.heap.objs.size f cdv) ξ){p:Int×Int}{L:List SK}{a:(shZ K CS p L).α}{row:List Nat}{o:Option (List Nat)}{w':Nat}(I:McZ p L row o)(hw:w'<=100)(tk:fzQ p L (bxQ p.2.toNat o) w' row=some none->∀sd,Takes ((reB (iF CX0 P w K mg base nl14 "first_change" (aO sFc) f cdv A outer s H E) B hB).wish ξ) (.ref CN) sd){Ed:iA}(hEd:∀x,fzQ p L (bxQ p.2.toNat o) w' row=lS some x->Ed.rt (rtV (shZ K CS p L) a<|ocD x)):PSd ((reB (iF CX0 P w K mg base nl14 "first_change" (aO sFc) f cdv A outer s H E) B hB).wish ξ) (jV (shZ K CS p L) 7 a [.tup<|bM row,lkD o,.int (w':Int)]) (cN sFc) Ed:=by
 have nd:nl14.Nodup:=by decide+kernel
 have rl:row.length<=100:=by have:=I.rl;omega
 have ew:((w':Int)+1-1).toNat=w':=by omega
 refine aG<|jB (ds:=fR 1 ((w':Int)+1-1).toNat) (λm sd=>(∀j,j<m->fzM p L row (bxQ p.2.toNat o) j=none)/\sd=[(shZ K CS p L).sl a,.val (.tup<|bM row),.val<|lkD o,.val<|.int (w':Int),.un,.un,.un]) (qR rfl zrange bR (fU gL (pdv 3) bR) ⟨by decide,by decide⟩ ⟨by omega,by omega⟩) ⟨_,Le.refl _,λj hj=>absurd hj<|pZ _,rfl⟩ (λm d sdk hd hk=> ?_) (λsdn hn=> ?_) (hp:=hξ)
 ·obtain⟨hmw,rfl⟩:=fQ hd;obtain⟨none1,rfl⟩:=hk;rw[ew] at hmw;have em:1+(m:Int)=((m+1:Nat):Int):=by omega
  rw[em];refine⟨_,pgN 4, ?_⟩;have er:((row.length:Int)-((m+1:Nat):Int)+1).toNat=row.length-m:=by omega
  refine aQ<|jB (ds:=fR 0 ((row.length:Int)-((m+1:Nat):Int)+1).toNat) (λt sd=>(∀j,j<t->fzP p L row (bxQ p.2.toNat o) m j=none)/\sd=[(shZ K CS p L).sl a,.val (.tup<|bM row),.val<|lkD o,.val<|.int (w':Int),.val<|.int ((m+1:Nat):Int),.un,.un]) (aCR rfl zrange (fU gL (fU oQ (PEd.ic (rC rfl zlen<|pdv 1)<|by rw[show(bM row).length=row.length from aC _])<|pdv 4) bR) ⟨by omega,by omega⟩) ⟨_,Le.refl _,λj hj=>absurd hj<|pZ _,rfl⟩ (λt d sdk hd hk=> ?_) (λsdn hn=> ?_) (hp:=hξ)
  ·obtain⟨ht,rfl⟩:=fQ hd;obtain⟨none2,rfl⟩:=hk;rw[er] at ht;rw[pI];refine⟨_,pgN 5, ?_⟩
   by_cases gr:500<(bkF p L (pwQ L row t<|m+1)).length
   ·have ef:fzQ p L (bxQ p.2.toNat o) w' row=some none:=lH hmw none1 (lH ht none2<|by unfold fzP;rw[if_pos gr]);exact aG<|oS 6 nd rfl (Or.inl rfl) (aFQ (ds:=[.tup<|bM row,.int (t:Int),.int ((m+1:Nat):Int),lkD o]) 0 rfl (pv 0) (GP p L).2 hr rfl (aB (pdv 1)<|aB (pdv 5) (aB (pdv 4)<|aB (pdv 2) aK)) ⟨row,t,m+1,o,I.px (by omega) (by omega) gr,rfl⟩ rfl<|tk ef _)
   refine aG<|gW (d:=pfD (pcQ p L row t (m+1)<|bxQ p.2.toNat o)) 6 (aGM (ds:=[.tup<|bM row,.int (t:Int),.int ((m+1:Nat):Int),lkD o]) 0 rfl (pv 0) (GP p L).1 hr rfl (aB (pdv 1)<|aB (pdv 5) (aB (pdv 4)<|aB (pdv 2) aK)) ⟨row,t,m+1,o,I.pc (by omega) (by omega) gr,rfl,rfl⟩ rfl) ?_;cases hq:pcQ p L row t (m+1) (bxQ p.2.toNat o) with
   |none=>
    refine aQ (nN (k:=false) (PTd.cast (mV (d:=.non) (pdv 6) eZ) rfl) rfl<|dQ ⟨[(shZ K CS p L).sl a,.val (.tup<|bM row),.val<|lkD o,.val<|.int (w':Int),.val<|.int ((m+1:Nat):Int),.un,.un],⟨.inr rfl,.inr rfl,.inr rfl,.inr rfl,.inr rfl,.inl rfl,.inl rfl,trivial⟩,λj hj=> ?_,rfl⟩)
    by_cases e:j<t
    ·exact none2 j e
    ·have:j=t:=by omega
     subst this;unfold fzP;rw[if_neg gr,hq];rfl
   |some e=>have ef:fzQ p L (bxQ p.2.toNat o) w' row=some (some (t,m+1,e.2.1)):=lH hmw none1 (lH ht none2<|by unfold fzP;rw[if_neg gr,hq];rfl);exact aQ (lE (k:=true) (PTd.cast (mV (d:=.tup<|bM e.2.1) (pdv 6) eZ) rfl) rfl<|aQ (rP 0 rfl (pdT (ds:=[.int (t:Int),.int ((m+1:Nat):Int),.tup<|bM e.2.1])<|aB (pdv 5) (aB (pdv 4)<|aB (pdv 6) aK))<|hEd (some (t,m+1,e.2.1)) ef))
  ·obtain⟨none2,rfl⟩:=hn;rw[fM,er] at none2;refine⟨[(shZ K CS p L).sl a,.val (.tup<|bM row),.val<|lkD o,.val<|.int (w':Int),.un,.un,.un],⟨.inr rfl,.inr rfl,.inr rfl,.inr rfl,.inl rfl,.inr rfl,.inr rfl,trivial⟩,λj hj=> ?_,rfl⟩
   by_cases e:j<m
   ·exact none1 j e
   ·have:j=m:=by omega
    subst this;exact uP none2
 ·obtain⟨none1,rfl⟩:=hn;rw[fM,ew] at none1;exact aQ<|rP 0 rfl eZ (hEd none<|uP none1)
abbrev aLU:List Str:=["shelf","row","looked","width"]
theorem aKn{CS CN:BE}(F:FI K mg "first_change" sFc)(zrange:mg "range"=none)(zlen:mg "len"=none)(GP:∀ (p:Int×Int) (L:List SK),kJ P w K (shZ K CS p L) mg base "piece_from" 8 5 (CPf p L)/\iY P w K (shZ K CS p L) mg base "piece_from" 8 5 (XPf p L) (.ref CN))(p:Int×Int)(L:List SK):kJ P w K (shZ K CS p L) mg base "first_change" 9 4 (aMg p L)/\iY P w K (shZ K CS p L) mg base "first_change" 9 4 (aLW p L) (.ref CN):=by
 obtain⟨f,fd,hm,F⟩:=F;have nd:nl14.Nodup:=by decide+kernel
 have bd:=F.binds (ps:=aLU) (λ_ _ _ _ _ _ us hl=>match us,hl with | [_,_,_,_],_=>rfl);refine⟨⟨f,fd,aLU,hm,F.kp,bd,aDG (Z:=shZ K CS p L) (N:=nl14) (ps:=aLU) (k:=8) F ⟨rfl,rfl,rfl,nd,rfl,by decide+kernel,by decide+kernel⟩ (λcdv A outer s H E B hB hr a ds d hl c=> ?_) sW⟩,⟨f,fd,aLU,hm,F.kp,bd,aJz (Z:=shZ K CS p L) (N:=nl14) (ps:=aLU) (k:=8) F ⟨rfl,rfl,rfl,nd,rfl,by decide+kernel,by decide+kernel⟩ (λcdv A outer s H E B hB hr hE a ds hl c=> ?_) sW⟩⟩
 ·obtain⟨row,o,w',x,I,hw,ex,rfl,rfl⟩:=c
  exact aDY (E:=E) (hB:=hB) zrange zlen GP hr PassesOwn.never I hw (λh=>by rw[ex] at h;cases x<;>cases h) λy hy=>by rw[ex] at hy;cases x<;>cases y<;>cases hy<;>rfl
 ·obtain⟨row,o,w',I,hw,ex,rfl⟩:=c
  exact aDY (E:=E) (hB:=hB) zrange zlen GP hr PassesOwn.leaving I hw (λ_ sd=>qO (sd:=sd) hE) λy hy=>by rw[ex] at hy;cases y<;>cases hy
abbrev nl16:List Str:=["size","stock","row","looked","width"]
theorem aJY{CS fI CN:BE}{fdI:AN}{tk:Tok}(F:aLD #[.none,.int 2 tk] K "is_cheap" "is_cheap" sIc f fd)(shT:oX K mg CS)(shM:Mk K CS fI)(shF:Fun K "__init__" "Shelf.__init__" aJe fI fdI)(hm:mg "is_cheap"=some (.ref f))(GC:∀ (p:Int×Int) (L:List SK),kJ P w K (shZ K CS p L) mg base "first_change" 9 4 (aMg p L)/\iY P w K (shZ K CS p L) mg base "first_change" 9 4 (aLW p L) (.ref CN)):CalleeE [.none,.int 2 tk] P w K mg base "is_cheap" 10 5 aGx/\gJ P w K mg base "is_cheap" 10 5 aJG (.ref CN) [] []:=by
 have nd:nl16.Nodup:=by decide+kernel
 have bI:=shF.binds (ps:=aLF) λ_ _ _ _ _ _ us hl=>match us,hl with | [_,_,_],_=>rfl
 constructor
 ·refine aAu (N:=nl16) (ps:=nl16) (k:=9) F ⟨rfl,rfl,rfl,nd,rfl,by decide+kernel,by decide+kernel⟩ hm (λs T o nn _ _ _ _ _ _ us hT hS hl=>match us,hl with | [_,_,_,_,_],_=>BindsTo.of_defaults rfl hT hS rfl rfl) (λs T o nn _ _ _ _ _ _ us hT hS hl=>match us,hl with | [_,_,_],_=>BindsTo.of_defaults rfl hT hS rfl rfl) λcdv A outer s H E hr ds r hl c=> ?_
  obtain⟨p,L,row,o,w,x,I,hw,ex,rfl,rfl⟩:=c;exact aQ<|eU (PEd.cast (xA (d:=ocD x) (zN (Z:=shZ K CS p L) (ds:=[tN row,lkD o,.int (w:Int)]) [2,3,4] (rN JSh.nil shT shM (tJ shF shT) bI (hr.mono<|by decide) rfl (aB (pdv 0)<|aB (pdv 1) aK)) (GC p L).1 hr rfl (dA (pv 2) (dA (pv 3)<|dA (pv 4) pa_nil)) rfl (λa=>⟨row,o,w,x,I,hw,ex,rfl,rfl⟩) rfl) eZ)<|by cases x<;>rfl) trivial rfl
 ·refine aCc (N:=nl16) (ps:=nl16) (k:=9) F ⟨rfl,rfl,rfl,nd,rfl,by decide+kernel,by decide+kernel⟩ hm (λs T o nn _ _ _ _ _ _ us hT hS hl=>match us,hl with | [_,_,_,_,_],_=>BindsTo.of_defaults rfl hT hS rfl rfl) λcdv A outer s H E hr hE ds hl c=> ?_
  obtain⟨p,L,row,o,w,I,hw,ex,rfl⟩:=c;exact aQ (aBX<|aMT (zM (Z:=shZ K CS p L) (ds:=[tN row,lkD o,.int (w:Int)]) [2,3,4] (rN JSh.nil shT shM (tJ shF shT) bI (hr.mono<|by decide) rfl (aB (pdv 0)<|aB (pdv 1) aK)) (GC p L).2 hr rfl (dA (pv 2) (dA (pv 3)<|dA (pv 4) pa_nil)) rfl (λa=>⟨row,o,w,I,hw,ex,rfl⟩) rfl<|sR hE))
abbrev aPP:List Str:=["_law_script","_law_k","_law_most","_law_x"]
theorem aKk(F:FI K mg "_law_draw" aGt)(zlen:mg "len"=none):bJ P w K mg base "_law_draw" 1 2 aGl:=by
 refine cY (N:=aPP) (ps:=["_law_script","_law_k"]) (k:=0) F λf nd cdv A outer s H E hr ds r hl c=> ?_
 obtain⟨ns,k,rfl,hk,rfl⟩:=c;have kb:((k:Nat):Int).natAbs<2^250:=cM (by omega:((k:Nat):Int).natAbs<=10000)<|by decide
 have kk:((k:Nat):Int)*k<=100000000:=by
  have:k*k<=10000*10000:=aOr hk hk;have e:((k*k:Nat):Int)=(k:Int)*k:=by push_cast;rfl
  omega
 have kk0:0<=((k:Nat):Int)*k:=aOs (by omega) (by omega);have kkb:(((k:Nat):Int)*k).natAbs<2^250:=cM (by omega:(((k:Nat):Int)*k).natAbs<=100000000)<|by decide
 have kkk:((k:Nat):Int)*k*k<=1000000000000:=by have h1:((k:Nat):Int)*k*k<=100000000*k:=Int.mul_le_mul_of_nonneg_right kk (by omega);omega
 have kkk0:0<=((k:Nat):Int)*k*k:=aOs kk0 (by omega);refine aG<|fV 2 nd rfl (Or.inl rfl) (dO mE bR (dO aIo bR bR ⟨by decide,by decide,by decide⟩) (mW (by decide)<|by decide+kernel)) ?_;refine aG<|fV 3 nd rfl (Or.inl rfl) (fU gL (dO mE (dO mE (pdv 1) (pdv 1)<|mW kb kb) (pdv 1)<|mW kkb kb) bR) ?_
 have fin:∀x:Int,x=aDk ns k->PSd (iF CX0 P w K mg base aPP "_law_draw" (aO aGt) f cdv A outer s H E).nox [.val<|.scr ns,.val<|.int k,.val<|.int most,.val<|.int x] ((cN aGt).drop 3) (rtE<|R.val (.int<|dG ns k)):=λx hx=>by
  refine aQ<|eU (dO fZ (dO mE (dO fZ (pdv 3) (pdv 2)<|by decide+kernel) (dO aIo bR bR ⟨by decide,by decide,by decide⟩) (mW ?_<|by decide+kernel)) (pdv 2)<|by decide+kernel) trivial ?_
  ·have h1:=bX x (show most≠0 by decide+kernel);have h2:=bU x (show 0<most by decide+kernel);have h3:most<2^250:=by decide+kernel
   omega
  ·subst hx;rfl
 refine aG<|fG (oO aJB (pdv 1) (aAH rfl zlen<|pdv 0)<|gP _) (λh=> ?_) λh=> ?_
 ·have h':k<ns.length:=by simpa using h
  refine aQ<|fV 3 nd rfl (Or.inl rfl) (aIk (z:=ns.getD k 0) (pdv 0) (pdv 1) (by simp[h']) λ_ _=>rfl) ?_;exact fin _ (by unfold aDk;rw[if_pos h'])
 ·have h':¬ k<ns.length:=by simpa using h
  refine aQ<|fG (oO aJv (aAH rfl zlen<|pdv 0) bR<|gP _) (λh2=> ?_) λh2=> ?_
  ·have h2':ns.length>0:=by simpa using h2
   have em:((k:Nat):Int)%((ns.length:Nat):Int)=((k%ns.length:Nat):Int):=by omega
   have lt:k%ns.length<ns.length:=Nat.mod_lt _ h2';have hb1:=bX (ns.getD (k%ns.length) 0) (show(1000003:Int)≠0 by decide);have hb2:=bU (ns.getD (k%ns.length) 0) (show(0:Int)<1000003 by decide);refine aQ<|fV 3 nd rfl (Or.inl rfl) (dO mE (fU gL (dO fZ (aKS (z:=ns.getD (k%ns.length) 0) (pdv 0) (dO fZ (pdv 1) (aAH rfl zlen<|pdv 0)<|by omega) (by rw[em];omega) (by rw[em,dI];simp[lt]) λ_ _=>rfl) bR<|by decide) bR) (pdv 3)<|mW ?_ ?_) ?_
   ·exact cM (by omega:_<=2000000)<|by decide
   ·exact cM (by omega:_<=2000000000000)<|by decide
   ·exact fin _ (by unfold aDk;rw[if_neg h',if_pos h2'])
  ·have h2':¬ ns.length>0:=by simpa using h2
   refine dQ ?_;exact fin _ (by unfold aDk;rw[if_neg h',if_neg h2'])
theorem aFS(F:FI K mg "_law_digits" aEo):bJ P w K mg base "_law_digits" 1 2 uV:=by
 refine cY (N:=["_law_x","_law_sizes","_law_found","_law_size"]) (ps:=["_law_x","_law_sizes"]) (k:=0) F λf nd cdv A outer s H E hr ds r hl c=> ?_
 obtain⟨x,ns,rfl,hp,hn,rfl⟩:=c;refine aG<|rE 2 nd rfl (Or.inl rfl) (sX (ds:=[]) aK<|cP _) λl=> ?_
 refine aG (nV (ds:=ns.map D.int) (fun k=>[.val (.int (aLC x (ns.take k))), .val (.lst (ns.map D.int)), .own l ((qD x (ns.take k)).map D.int), .un]) (fun k=>[.val (.int (aLC x (ns.take k))), .val (.lst (ns.map D.int)), .own l ((qD x (ns.take k)).map D.int), .val (.int (ns.getD k 0))])
  (gX (pdv 1)) ⟨.inr rfl,.inr rfl,.inr rfl,.inr rfl,trivial⟩ (λk d hd=> ?_) (λk d hd=> ?_) ?_)
 ·obtain⟨hk,rfl⟩:=sJ hd;exact pgN 3
 ·obtain⟨hk,rfl⟩:=sJ hd;have hm:ns.getD k 0∈ns:=by simp[cG,hk]
  obtain⟨h1,h2⟩:=hp _ hm
  have et:ns.take (k+1)=ns.take k++[ns.getD k 0]:=by rw[eF];simp[cG,hk]
  refine aG<|nX 2 rfl (pv 2) (dO fZ (pdv 0) (pdv 3) h1) ?_ ?_
  ·rw[aC,rQ,cV];omega
  ·refine aQ<|fV 0 nd rfl (Or.inl rfl) (dO pB (pdv 0) (pdv 3) ⟨h1,h2⟩) ?_;refine⟨.inr ?_,.inr rfl,.inr ?_,.inl rfl,trivial⟩
   ·rw[et,yX]
   ·rw[et,zE,aX];rfl
 ·refine aQ<|pA 2 rfl (pv 2) ?_;show R.own _=R.own _;rw[aC,fW]
noncomputable def smallS:List (Int×Int):=[(1,2),(2,1),(1,3),(2,2),(1,1),(3,1),(1,4),(2,2)]
noncomputable def smE(x:Int):Int×Int:=smallS.getD (x%8).toNat (2,2)
theorem aDa:∀p∈smallS,p∈bY:=by decide+kernel
theorem aLd(c:Int):smE c∈bY:=by have h0:=bX c (show(8:Int)≠0 by decide);have h1:=bU c (show(0:Int)<8 by decide);exact aDa _ (DL.getD_mem<|by show _<8;omega)
def aQf:List D->R->Prop:=λds r=>∃c,ds=[.int c]/\r=.val (cC<|smE c)
theorem aFg(F:FI K mg "_law_small" aEK)(zlen:mg "len"=none):bJ P w K mg base "_law_small" 1 1 aQf:=by
 refine cY (N:=["_law_number","_law_sizes"]) (ps:=["_law_number"]) (k:=0) F λf nd cdv A outer s H E hr ds r hl c=> ?_
 obtain⟨z,rfl,rfl⟩:=c;refine aG<|qB (ds:=[cC (1,2),cC (2,1),cC (1,3),cC (2,2),cC (1,1),cC (3,1),cC (1,4),cC (2,2)]) 1 (pdL (ds:=[cC (1,2),cC (2,1),cC (1,3),cC (2,2),cC (1,1),cC (3,1),cC (1,4),cC (2,2)]) ?_) λl=> ?_
 ·repeat' (first|exact aK|refine aB (aNG rfl rfl) ?_)
 have h0:=bX z (show(8:Int)≠0 by decide);have h1:=bU z (show(0:Int)<8 by decide);refine aQ (gT<|nI (i:=z%8) (d:=cC<|smE z) (oA 1 rfl<|pv 1) (dO (i:=z) (j:=8) fZ (pdv 0) (PEd.cast (mC rfl zlen (oA 1 rfl<|pv 1)) rfl)<|by decide) h0 ?_ λ_ _=>rfl);show(smallS.map cC)[(z%8).toNat]? =_;rw[aW];unfold smE
 have hlt:(z%8).toNat<smallS.length:=by show _<8;omega
 simp[cG,hlt]
noncomputable def kOf(x:Int):Nat:=(x%10).toNat
noncomputable def iOf(p:Int×Int)(x:Int):Int:=x / 10%60%p.2
noncomputable def jOf(p:Int×Int)(x:Int):Int:=x / 10 / 60%60%p.2
noncomputable def nOf(p:Int×Int)(x:Int):Int:=x / 10 / 60 / 60%64%((2^p.1.toNat:Nat):Int)
noncomputable def wL(p:Int×Int)(x:Int):D:=mP (kOf x) (iOf p x) (jOf p x)<|nOf p x
def aDF:List D->R->Prop:=λds r=>∃x p,p∈bY/\ds=[.int x,cC p]/\r=.val (wL p x)
abbrev aOh:List Str:=["_law_x","_law_size"]
theorem aHR(F:FI K mg "_law_step" aIJ)(GG:bJ P w K mg base "_law_digits" 1 2 uV):bJ P w K mg base "_law_step" 2 2 aDF:=by
 refine cY (N:=["_law_x","_law_size","_law_kind","_law_i","_law_j","_law_n","_law_words"]) (ps:=aOh) (k:=1) F λf nd cdv A outer s H E hr ds r hl c=> ?_
 obtain⟨x,p,hp,rfl,rfl⟩:=c;obtain⟨h1,h2,h3,h4,h5⟩:=uA p hp;have hm0:=aIH p.1.toNat;have p20:(0:Int)<p.2:=by omega
 have d0:=bX x (show(10:Int)≠0 by decide);have d1:=bU x (show(0:Int)<10 by decide)
 refine aG (uX (d:= .lst ((qD x [10,60,60,64]).map D.int)) (PEd.val (pdc (ds:=[.int x, .lst ([10,60,60,64].map D.int)]) GG hr (aB (pdv 0) (aB (PEd.val (pdL (ds:=[.int 10, .int 60, .int 60, .int 64]) (aB bR (aB bR (aB bR (aB bR aK)))))) aK)) ⟨_,[10,60,60,64],rfl,by decide,by decide,rfl⟩))
  (aEC (js:=[2,3,4,5]) rfl (dD (pgn 2) (dD (pgn 3) (dD (pgn 4) (dD (pgn 5) iL)))) rfl rfl) ?_)
 refine aG<|qB (ds:=stepNames.map D.str) 6 (pdL (ds:=[.str "and",.str "or",.str "xor",.str "add",.str "take",.str "copy",.str "put",.str "not",.str "up",.str "down"]) ?_) λl=> ?_
 ·repeat' (first|exact aK|refine aB gM ?_)
 have wk:(stepNames.map D.str)[(x%10).toNat]? =some (.str (nm<|kOf x)):=by
  rw[aW]
  have:(x%10).toNat<stepNames.length:=by show _<10;omega
  unfold nm kOf;simp[cG,this]
 refine aG<|fG (oO aJB (pdv 2) bR<|gP _) (λh=> ?_) λh=>dQ ?_
 ·have h':x%10<6:=by simpa using h
  have es:wL p x=.tup [.str (nm<|kOf x),.int<|iOf p x,.int<|jOf p x]:=by unfold wL mP;rw[if_pos (show kOf x<6 by unfold kOf;omega)]
  rw[es];exact aQ<|gT (pdT (ds:=[.str (nm<|kOf x),.int<|iOf p x,.int<|jOf p x])<|aB (nI (i:=x%10) (oA 6 rfl<|pv 6) (pdv 2) d0 wk λ_ _=>rfl) (aB (dO fZ (pdv 3) (pdx (n:=1) (d:=.int p.2)<|pdv 1) p20)<|aB (dO fZ (pdv 4) (pdx (n:=1) (d:=.int p.2)<|pdv 1) p20) aK))
 have h':¬ x%10<6:=by simpa using h
 refine aG<|fG (kK (pdv 2) bR) (λh2=> ?_) λh2=>dQ ?_
 ·have h2':x%10=6:=by simpa using h2
  have es:wL p x=.tup [.str (nm<|kOf x),.int<|iOf p x,.int<|nOf p x]:=by unfold wL mP;rw[if_neg (show ¬ kOf x<6 by unfold kOf;omega),if_pos (show kOf x=6 by unfold kOf;omega)]
  rw[es];refine aQ<|gT (pdT (ds:=[.str (nm<|kOf x),.int<|iOf p x,.int<|nOf p x])<|aB (nI (i:=x%10) (oA 6 rfl<|pv 6) (pdv 2) d0 wk λ_ _=>rfl) (aB (dO fZ (pdv 3) (pdx (n:=1) (d:=.int p.2)<|pdv 1) p20)<|aB (dO fZ (pdv 5) (nI (i:=p.1) (d:=.int ((2^p.1.toNat:Nat):Int)) (PEd.bor (PEd.val<|pdL (ds:=[.int 1,.int 2,.int 4,.int 8,.int 16,.int 32,.int 64]) ?_)) (pdx (n:=0)<|pdv 1) (by omega) (aLa _<|by omega) λ_ _=>rfl) hm0) aK))
  repeat' (first|exact aK|refine aB bR ?_)
 have h2':¬ x%10=6:=by simpa using h2
 have es:wL p x=.tup [.str (nm<|kOf x),.int<|iOf p x]:=by unfold wL mP;rw[if_neg (show ¬ kOf x<6 by unfold kOf;omega),if_neg (show ¬ kOf x=6 by unfold kOf;omega)]
 rw[es];exact aQ (gT<|pdT (ds:=[.str (nm<|kOf x),.int<|iOf p x]) (aB (nI (i:=x%10) (oA 6 rfl<|pv 6) (pdv 2) d0 wk λ_ _=>rfl)<|aB (dO fZ (pdv 3) (pdx (n:=1) (d:=.int p.2)<|pdv 1) p20) aK))
noncomputable def stE(p:Int×Int)(x:Int):SQ:=(kOf x,iOf p x,jOf p x,nOf p x)
theorem aIU{p:Int×Int}(hp:p∈bY)(x:Int):sD p (stE p x):=by
 obtain⟨h1,h2,h3,h4,h5⟩:=uA p hp;have p20:(0:Int)<p.2:=by omega
 have m0:=pw0 p.1.toNat;have d0:=bX x (show(10:Int)≠0 by decide);have d1:=bU x (show(0:Int)<10 by decide);exact⟨hp,by show(x%10).toNat<10;omega,⟨bX _<|iC p20,bU _ p20⟩,⟨bX _<|iC p20,bU _ p20⟩,⟨bX _<|iC m0,bU _ m0⟩⟩
noncomputable def kU:D->D
 |.tup (x::_)=>x
 |_=>.non
noncomputable def f8P(x:Int):Int:=[1,2,1,1,2,1].getD (x%6).toNat 1
noncomputable def f8N(p:Int×Int)(ns:List Int):Nat->List SK
 |0=>[]
 |t+1=>if((f8N p ns t).map skD |>.map kU).any (λz=>deq z<|sqD (stE p<|dG ns (2+t) / 24)) then f8N p ns t else f8N p ns t++[(stE p<|dG ns (2+t) / 24,f8P (dG ns<|2+t))]
noncomputable def f8T(ns:List Int):Nat:=1+(dG ns 1%3).toNat
theorem aNu(x:Int):1<=f8P x/\f8P x<=2:=by
 have h0:=bX x (show(6:Int)≠0 by decide);have h1:=bU x (show(0:Int)<6 by decide);unfold f8P;have:(x%6).toNat<6:=by omega
 generalize (x%6).toNat=i at this
 match i,this with
 |0,_=>decide
 |1,_=>decide
 |2,_=>decide
 |3,_=>decide
 |4,_=>decide
 |5,_=>decide
theorem aDv{p:Int×Int}(hp:p∈bY)(ns:List Int):∀t,(f8N p ns t).length<=t/\(0<t->0<(f8N p ns t).length)/\(∀s∈f8N p ns t,sD p s.1/\1<=s.2/\s.2<=2)/\((f8N p ns t).map λs=>sqD s.1).Nodup
 |0=>⟨aN _,λh=>by omega,(λs hs=>nomatch hs),cR⟩
 |t+1=>by
  obtain⟨a,b,c,d⟩:=aDv hp ns t;unfold f8N
  split
  ·rename_i h;refine⟨by omega,λ_=> ?_,c,d⟩;cases e:f8N p ns t with
   |nil=>rw[e] at h;simp at h
   |cons _ _=>simp
  ·rename_i h;refine⟨by rw[aH];simp;omega,λ_=>by rw[aH];simp,λs hs=> ?_, ?_⟩
   ·rcases aS.mp hs with hs|hs
    ·exact c s hs
    ·rw[aI.mp hs];exact⟨aIU hp _,aNu _⟩
   ·rw[aX];refine bH.mpr ⟨d,by simp,λx hx y hy z=>h ?_⟩;have ey:y=sqD (stE p<|dG ns (2+t) / 24):=by simpa using hy
    obtain⟨s,hs,rfl⟩:=aP.mp hx;refine iW.mpr ⟨sqD s.1,aP.mpr ⟨skD s,aP.mpr ⟨s,hs,rfl⟩,rfl⟩, ?_⟩;rw[<-ey,<-z];exact wH _<|zP _
theorem aIS(ns:List Int):1<=f8T ns/\f8T ns<=3:=by have r0:=bX (dG ns 1) (show(3:Int)≠0 by decide);have r1:=bU (dG ns 1) (show(0:Int)<3 by decide);unfold f8T;omega
def aIN:List D->R->Prop:=λds r=>∃ns p,p∈bY/\ds=[.scr ns,.int 1,cC p,.int 3]/\r=.own ((f8N p ns<|f8T ns).map skD)
abbrev aPG:List Str:=["_law_script","_law_start","_law_size","_law_most","_law_stock","_law_k","_law_x","_law_step_here"]
abbrev nl20:List Str:=["_law_one","_law_price"]
theorem aGE(F:FI K mg "_law_few" aBg)(zrange:mg "range"=none)(GD:bJ P w K mg base "_law_draw" 1 2 aGl)(GT:bJ P w K mg base "_law_step" 2 2 aDF):bJ P w K mg base "_law_few" 3 4 aIN:=by
 refine cY (N:=aPG) (ps:=["_law_script","_law_start","_law_size","_law_most"]) (k:=2) F λf nd cdv A outer s H E hr ds r hl c=> ?_
 obtain⟨ns,p,hp,rfl,rfl⟩:=c;obtain⟨h1,h2,h3,h4,h5⟩:=uA p hp;have p20:(0:Int)<p.2:=by omega
 have hu:=uN hr 4;have hT:=aIS ns;refine aG<|qB (ds:=[]) 4 (sX (ds:=[]) aK<|cP _) λl4=> ?_
 have eT:1+dG ns 1%3=((f8T ns:Nat):Int):=by have r0:=bX (dG ns 1) (show(3:Int)≠0 by decide);unfold f8T;omega
 refine aG<|nV (ds:=fR 0<|f8T ns) (λt=>[.val<|.scr ns,.val<|.int 1,.val<|cC p,.val<|.int 3,.own l4<|(f8N p ns t).map skD,.un,.un,.un]) (λt=>[.val<|.scr ns,.val<|.int 1,.val<|cC p,.val<|.int 3,.own l4<|(f8N p ns t).map skD,.val (.int<|0+(t:Int)),.un,.un]) (lM (n:=f8T ns) rfl zrange (PEd.ic (fU gL bR (dO fZ (pdc (ds:=[.scr ns,.int ((1:Nat):Int)]) GD hr (aB (pdv 0)<|aB (pdv 1) aK) ⟨ns,1,rfl,by decide,rfl⟩) (pdv 3)<|by decide)) eT)<|by omega) (Le.refl _) (λt d hd=> ?_) (λt d hd=> ?_) ?_
 ·obtain⟨_,rfl⟩:=fQ hd;exact pgN 5
 ·obtain⟨ht,rfl⟩:=fQ hd;rw[pI];have ll:(f8N p ns t).length<=8:=cF (aDv hp ns t).1 (by omega);refine aG<|gW (d:=.int (dG ns<|2+t)) 6 (pdc (ds:=[.scr ns,.int ((2+t:Nat):Int)]) GD hr (aB (pdv 0)<|aB (PEd.ic (fU gL (fU gL (pdv 1) bR)<|pdv 5)<|by omega) aK) ⟨ns,2+t,rfl,by omega,rfl⟩) ?_;refine aG<|gW (d:=sqD (stE p<|dG ns (2+t) / 24)) 7 (pdc (ds:=[.int<|dG ns (2+t) / 24,cC p]) GT hr (aB (dO pB (pdv 6) bR ⟨by decide,by decide⟩)<|aB (pdv 2) aK) ⟨_,p,hp,rfl,rfl⟩) ?_;have eN:f8N p ns (t+1)=if((f8N p ns t).map skD |>.map kU).any (λz=>deq z<|sqD (stE p<|dG ns (2+t) / 24)) then f8N p ns t else f8N p ns t++[(stE p<|dG ns (2+t) / 24,f8P (dG ns<|2+t))]:=rfl
  rw[eN];generalize f8N p ns t=L at *;generalize dG ns (2+t)=x;generalize stE p (x / 24)=q;have nd2:nl20.Nodup:=by decide+kernel
  have plc:plL ((L.map skD).map kU)=true/\lI ((L.map skD).map kU)<=1:=by rw[aU];exact⟨aAI (λs:SK=>kU<|skD s) (λs=>zP s.1) _,vZ (λs:SK=>kU<|skD s) 1 (λs=>pD<|aIF s.1) _⟩
  have ef:((L.map skD).filter λ_=>true).map kU=(L.map skD).map kU:=by rw[cQ.mpr λ_ _=>rfl]
  have x0:=bX x (show(6:Int)≠0 by decide);have x1:=bU x (show(0:Int)<6 by decide)
  have px:([.int 1,.int 2,.int 1,.int 1,.int 2,.int 1]:List D)[(x%6).toNat]? =some (.int<|f8P x):=by
   unfold f8P;have:(x%6).toNat<6:=by omega
   generalize (x%6).toNat=i at this
   match i,this with
   |0,_=>rfl
   |1,_=>rfl
   |2,_=>rfl
   |3,_=>rfl
   |4,_=>rfl
   |5,_=>rfl
  refine aQ<|fG (k:= !((L.map skD).map kU).any λz=>deq z<|sqD q) (PTd.lend 4 rfl (aJD rfl) (vL (pdv 7) (PEd.val (PEd.cast (kH (ds:=L.map skD) (N:=nl20) (M:=aPG) (cap:=[none,none]) (sc:=aO aBg) (Tb:=λd=>aQd d []) (λ_=>true) kU (gX<|pdv 4) (by rw[aC];omega) rfl (by decide+kernel) rfl (by decide+kernel) rfl (λcl C fp s H d hd=> ?_) (λd hd=> ?_) (λcl C fp s H d hd=>.inl ⟨rfl,rfl⟩) λcl C fp s H d hd _=> ?_)<|by rw[ef])) (zP q) plc.1<|by have:=plc.2;show(A.deeper<|Ai "_law_few" (aO aBg) s.heap.objs.size f cdv).units+1+_<AS;omega)) (λh=> ?_) λh=> ?_
  ·obtain⟨s,_,rfl⟩:=aP.mp hd;exact jU (js:=[0,1]) rfl (dD (pgn 0)<|dD (pgn 1) iL) rfl rfl
  ·obtain⟨s,_,rfl⟩:=aP.mp hd;exact⟨.inl rfl,.inl rfl,trivial⟩
  ·obtain⟨s,_,rfl⟩:=aP.mp hd;exact(pdv 0)
  ·have h':((L.map skD).map kU).any (λz=>deq z<|sqD q)=false:=by simpa using h
   rw[h'];refine aQ<|nX (d:=skD (q,f8P x)) 4 rfl (pv 4) (pdT (ds:=[sqD q,.int<|f8P x]) (aB (pdv 7)<|aB (nI (i:=x%6) (PEd.bor (PEd.val<|pdL (ds:=[.int 1,.int 2,.int 1,.int 1,.int 2,.int 1]) ?_)) (dO fZ (pdv 6) bR<|by decide) x0 px λ_ _=>rfl) aK)) (by rw[aC];omega) ?_
   ·repeat' (first|exact aK|refine aB bR ?_)
   refine⟨.inr rfl,.inr rfl,.inr rfl,.inr rfl,.inr ?_,.inl rfl,.inl rfl,.inl rfl,trivial⟩;simp only[bT,if_false,aX];rfl
  ·have h':((L.map skD).map kU).any (λz=>deq z<|sqD q)=true:=by simpa using h
   rw[h'];exact dQ ⟨.inr rfl,.inr rfl,.inr rfl,.inr rfl,.inr rfl,.inl rfl,.inl rfl,.inl rfl,trivial⟩
 ·rw[fM];exact aQ<|pA 4 rfl (pv 4) rfl
noncomputable def rwE(x:Int)(n most:Nat):List Nat:=(qD (x / ((most+1:Nat):Int))<|bG (x%((most+1:Nat):Int)).toNat 840).map λd=>(d%(n:Int)).toNat
theorem aNU(x:Int){n:Nat}(most:Nat)(h:0<n):(∀t∈rwE x n most,t<n)/\(rwE x n most).length<=most:=by
 have m0:(0:Int)<((most+1:Nat):Int):=by omega
 have r0:=bX x<|iC m0;have r1:=bU x m0;refine⟨λt ht=> ?_, ?_⟩
 ·obtain⟨d,_,rfl⟩:=aP.mp ht;have q0:=bX d (show(n:Int)≠0 by omega);have q1:=bU d (show(0:Int)<n by omega);omega
 ·unfold rwE;rw[aC,rQ,kN];omega
def aPR:List D->R->Prop:=λds r=>∃ (x:Int) (L:List SK) (most:Nat),0<L.length/\most<=8/\ds=[.int x,.lst<|L.map skD,.int (most:Int)]/\r=.val (.tup (bM<|rwE x L.length most))
abbrev aPB:List Str:=["_law_x","_law_stock","_law_most","_law_many"]
theorem aKA(F:FI K mg "_law_row" aJA)(ztuple:mg "tuple"=none)(zlen:mg "len"=none)(GG:bJ P w K mg base "_law_digits" 1 2 uV):bJ P w K mg base "_law_row" 2 3 aPR:=by
 refine cY (N:=aPB) (ps:=["_law_x","_law_stock","_law_most"]) (k:=1) F λf nd cdv A outer s H E hr ds r hl c=> ?_
 obtain⟨x,L,most,l0,m8,rfl,rfl⟩:=c;have nd2:(["_law_digit","_law_stock"]:List Str).Nodup:=by decide+kernel
 have n0:(0:Int)<(L.length:Int):=by omega
 have m0:(0:Int)<((most+1:Nat):Int):=by omega
 have r0:=bX x<|iC m0;have r1:=bU x m0
 have ml:((most+1:Nat):Int).natAbs.log2<9000:=by rw[aJb];exact cM (aLN _)<|by omega
 obtain⟨k,hk⟩:∃k:Nat,x%((most+1:Nat):Int)=(k:Int):=⟨(x%((most+1:Nat):Int)).toNat,by omega⟩;have k8:k<=8:=by omega
 have eR:rwE x L.length most=(qD (x / ((most+1:Nat):Int))<|bG k 840).map λd=>(d%(L.length:Int)).toNat:=by unfold rwE;rw[hk,dI]
 rw[eR];refine aG<|gW (d:=.int (k:Int)) 3 (PEd.ic (dO fZ (pdv 0) (PEd.ic (fU gL (pdv 2) bR) (show _=((most+1:Nat):Int) by omega)) m0) hk) ?_
 have er:(bG k [D.int 840]).flatten=(bG k (840:Int)).map D.int:=by
  clear eR hk k8
  induction k with
  |zero=>rfl
  |succ k ih=>rw[eC,eC,gI,ih];rfl
 refine aQ<|gT (kC rfl ztuple<|PEd.bor (PEd.val<|PEd.cast (pdC (ds:=(qD (x / ((most+1:Nat):Int))<|bG k 840).map D.int) (N:=["_law_digit","_law_stock"]) (M:=aPB) (cap:=[none,some 1]) (sc:=aO aJA) (Tb:=λd=>[.val d,.val<|lK L]) (λ_=>true) (λd=>match d with | .int i=>D.int (((i%(L.length:Int)).toNat:Nat):Int)|_=>.non) (gX (PEd.val<|pdc (ds:=[.int<|x / ((most+1:Nat):Int),.lst<|(bG k 840).map D.int]) GG hr (aB (dO pB (pdv 0) (PEd.ic (fU gL (pdv 2) bR) (show _=((most+1:Nat):Int) by omega)) ⟨m0,ml⟩)<|aB (PEd.cast (PEd.val (aKs (ds:=[.int 840]) (k:=k) (PEd.bor<|PEd.val (pdL (ds:=[.int 840])<|aB bR aK)) (pdv 3) (by omega)<|by simp;omega))<|by rw[er]) aK) ⟨_,bG k 840,rfl,(λn hn=>by rw[(List.mem_replicate.mp hn).2];exact⟨by decide,by decide⟩),by rw[kN];omega,rfl⟩)) (by rw[aC,rQ,kN];omega) (λcl C fp s H d hd=>.inl ⟨rfl,rfl⟩) λcl C fp s H d hd _=> ?_) (?_:_=R.own (bM<|(qD (x / ((most+1:Nat):Int))<|bG k 840).map λd=>(d%(L.length:Int)).toNat))))
 ·obtain⟨z,_,rfl⟩:=aP.mp hd;have q0:=bX z<|iC n0;exact PEd.ic (dO fZ (pdv 0) (PEd.ic (mC rfl zlen (PEd.bor<|pdv 1))<|by rw[aC]) n0) (Int.toNat_of_nonneg q0).symm
 ·rw[cQ.mpr λ_ _=>rfl];unfold bM;rw[aU,aU];rfl
noncomputable def lkE(x:Int)(n:Nat):Option (List Nat):=if x%3=0 then none else some ((bQ n).filter λb=>decide<|x / 3 / ((2^b:Nat):Int)%2=1)
theorem aMH{p:Int×Int}(hp:p∈bY)(x:Int):aLv p (lkE x p.2.toNat):=by
 obtain⟨h1,h2,h3,h4,h5⟩:=uA p hp;intro l hl;unfold lkE at hl
 split at hl
 ·cases hl
 ·cases hl;refine⟨cF (kO _ _) (by simp;omega),λb hb=>cX.mp (gF.mp hb).1⟩
def aPO:List D->R->Prop:=λds r=>∃x p,p∈bY/\ds=[.int x,cC p]/\r=.val (lkD<|lkE x p.2.toNat)
theorem pow6:∀b,b<6->([.int 1,.int 2,.int 4,.int 8,.int 16,.int 32]:List D)[b]? =some (.int ((2^b:Nat):Int)):=by
 intro b hb
 match b,hb with
 |0,_=>rfl
 |1,_=>rfl
 |2,_=>rfl
 |3,_=>rfl
 |4,_=>rfl
 |5,_=>rfl
theorem aHf(F:FI K mg "_law_looked" aDL)(zrange:mg "range"=none):bJ P w K mg base "_law_looked" 1 2 aPO:=by
 refine cY (N:=aOh) (ps:=aOh) (k:=0) F λf nd cdv A outer s H E hr ds r hl c=> ?_
 obtain⟨c,p,hp,rfl,rfl⟩:=c;obtain⟨h1,h2,h3,h4,h5⟩:=uA p hp;have e2:p.2=((p.2.toNat:Nat):Int):=by omega
 have nd2:(["_law_box","_law_x"]:List Str).Nodup:=by decide+kernel
 refine aG<|fG (kK (dO fZ (pdv 0) bR<|by decide) bR) (λh=> ?_) λh=>dQ ?_
 ·have h':c%3=0:=by simpa using h
  refine aQ<|eU eZ trivial ?_;unfold lkE;rw[if_pos h'];rfl
 ·have h':¬ c%3=0:=by simpa using h
  refine aQ<|eU (PEd.val<|pdC (ds:=fR 0 p.2.toNat) (N:=["_law_box","_law_x"]) (M:=aOh) (cap:=[none,some 0]) (sc:=aO aDL) (Tb:=λd=>[.val d,.val<|.int c]) (λd=>match d with | .int b=>decide (c / 3 / ((2^b.toNat:Nat):Int)%2=1)|_=>true) (λd=>d) (lM (n:=p.2.toNat) rfl zrange (PEd.ic (pdx (n:=1) (d:=.int p.2)<|pdv 1) e2)<|by omega) (by rw[fM];omega) (λcl C fp s H d hd=> ?_) λcl C fp s H d hd _=>(pdv 0)) trivial ?_
  ·obtain⟨k,hk,rfl⟩:=aP.mp hd;have hk2:=cX.mp hk;have p0:=pw0 k;have p1:(2^k:Nat)<=64:=cF (qS (by decide) (show k<=6 by omega)) (by decide);refine .inr ⟨_,rfl, ?_⟩;show PTd _ _ _ (decide<|c / 3 / ((2^(0+(k:Int)).toNat:Nat):Int)%2=1);rw[pI,dI];refine kK (dO fZ (dO pB (dO pB (pdv 1) bR ⟨by decide,by decide⟩) (mO (n:=k) (PEd.bor (PEd.val<|pdL (ds:=[.int 1,.int 2,.int 4,.int 8,.int 16,.int 32]) ?_)) (pdv 0) (pow6 k<|by omega) λ_ _=>rfl) ⟨p0, ?_⟩) bR<|by decide) bR
   ·repeat' (first|exact aK|refine aB bR ?_)
   ·rw[aJb];exact cM (cF (aLN _) p1)<|by decide
  ·unfold lkE;rw[if_neg h',zI];show R.val (.lst _)=R.val (.lst<|bM _);congr 2;unfold bM;rw[List.map_id',List.filter_map];rfl
theorem aCH{CN:BE}(F:FI K mg "_law_piece" aPF)(xk:aLO K mg CN)(GP:CalleeE [.none] P w K mg base "piece_for" 9 6 aJE/\gJ P w K mg base "piece_for" 9 6 aJk (.ref CN) [] []):bJ P w K mg base "_law_piece" 10 6 aIn:=by
 refine cY (N:=["_law_size","_law_stock","_law_row_here","_law_place","_law_many","_law_looked_here","_law_piece_here","_law_great"]) (ps:=["_law_size","_law_stock","_law_row_here","_law_place","_law_many","_law_looked_here"]) (k:=9) F λf nd cdv A outer s H E hr ds r hl c=> ?_
 obtain⟨p,L,row,pl,mn,o,d,g,hc,rfl,rfl⟩:=c;refine aG<|gW (d:=.non) 6 eZ ?_;refine aG<|gW (d:=.bl false) 7 qJ ?_
 rcases hc with⟨I,rfl,rfl⟩|⟨I,rfl,rfl⟩
 ·refine aG<|aBO (aQ<|gW (d:=pfD (pcQ p L row pl mn<|bxQ p.2.toNat o)) 6 (pdc (ds:=[cC p,lK L,tN row,.int (pl:Int),.int (mn:Int),lkD o]) GP.1.full hr (aB (pdv 0)<|aB (pdv 1) (aB (pdv 2)<|aB (pdv 3) (aB (pdv 4)<|aB (pdv 5) aK))) ⟨p,L,row,pl,mn,o,I,rfl,rfl⟩) ?_);exact aQ (gT<|pdT (ds:=[pfD (pcQ p L row pl mn<|bxQ p.2.toNat o),.bl false]) (aB (pdv 6)<|aB (pdv 7) aK))
 ·refine aG (aCa (cls:=.ref CN) rfl xk.nw.1 xk.nw.2 (λξ pn F0 tk=> ?_) λa pn=> ?_)
  ·exact aQ<|oS 6 nd rfl (Or.inl rfl) (aCd (ds:=[cC p,lK L,tN row,.int (pl:Int),.int (mn:Int),lkD o]) (dds:=[]) GP.2 (zH rfl) hr rfl (aB (pdv 0)<|aB (pdv 1) (aB (pdv 2)<|aB (pdv 3) (aB (pdv 4)<|aB (pdv 5) aK))) (λ_=>RepL.nil) ⟨p,L,row,pl,mn,o,I,rfl⟩ rfl<|Takes.o tk)
  ·refine aQ<|gW (d:=.bl true) 7 qJ ?_;exact aQ (gT<|pdT (ds:=[.non,.bl true]) (aB (pdv 6)<|aB (pdv 7) aK))
abbrev aPT:List Str:=["_law_size","_law_stock","_law_row_here","_law_looked_here","_law_width"]
theorem aCn(F:FI K mg "_law_first" aPD)(zrange:mg "range"=none)(zlen:mg "len"=none)(zmin:mg "min"=none)(GP:bJ P w K mg base "_law_piece" 10 6 aIn):bJ P w K mg base "_law_first" 11 5 aDt:=by
 refine cY (N:=["_law_size","_law_stock","_law_row_here","_law_looked_here","_law_width","_law_many","_law_place","_law_piece_here","_law_great"]) (ps:=aPT) (k:=10) F λf nd cdv A outer s H E hr ds r hl c=> ?_
 obtain⟨p,L,row,o,w,I,hw,rfl,rfl⟩:=c
 have rl:row.length<=100:=by have:=I.rl;omega
 have em:(if(row.length:Int)<(w:Int) then(row.length:Int) else(w:Int))=((min w row.length:Nat):Int):=by split<;>omega
 have ew:(((min w row.length:Nat):Int)+1-1).toNat=min w row.length:=by omega
 have el:(bM row).length=row.length:=aC _;refine aG<|jB (ds:=fR 1 (((min w row.length:Nat):Int)+1-1).toNat) (λm sd=>(∀j,j<m->fzM p L row (bxQ p.2.toNat o) j=none)/\sd=(s4 p L row o [.val<|.int (w:Int),.un,.un,.un,.un])) (qR rfl zrange bR (fU gL (PEd.ic (aKp rfl zmin (pdv 4) (PEd.ic (rC rfl zlen<|pdv 2)<|by rw[el])) em) bR) ⟨by decide,by decide⟩ ⟨by omega,by omega⟩) ⟨_,Le.refl _,λj hj=>absurd hj<|pZ _,rfl⟩ (λm d sdk hd hk=> ?_) λsdn hn=> ?_
 ·obtain⟨hmw,rfl⟩:=fQ hd;obtain⟨none1,rfl⟩:=hk;rw[ew] at hmw;have em:1+(m:Int)=((m+1:Nat):Int):=by omega
  rw[em];refine⟨_,pgN 5, ?_⟩;have er:((row.length:Int)-((m+1:Nat):Int)+1)=((row.length-m:Nat):Int):=by omega
  refine aQ<|jB (ds:=fR 0<|row.length-m) (λt sd=>(∀j,j<t->fzP p L row (bxQ p.2.toNat o) m j=none)/\sd=(s4 p L row o [.val<|.int (w:Int),.val<|.int ((m+1:Nat):Int),.un,.un,.un])) (lM rfl zrange (PEd.ic (fU gL (fU oQ (PEd.ic (rC rfl zlen<|pdv 2)<|by rw[el])<|pdv 5) bR) er)<|by omega) ⟨_,Le.refl _,λj hj=>absurd hj<|pZ _,rfl⟩ (λt d sdk hd hk=> ?_) λsdn hn=> ?_
  ·obtain⟨ht,rfl⟩:=fQ hd;obtain⟨none2,rfl⟩:=hk;rw[pI];refine⟨_,pgN 6, ?_⟩
   by_cases gr:500<(bkF p L (pwQ L row t<|m+1)).length
   ·have ef:fzQ p L (bxQ p.2.toNat o) w row=some none:=lH (by omega) none1 (lH ht none2<|by unfold fzP;rw[if_pos gr]);rw[ef];refine aG<|uX (d:=.tup [.non,.bl true]) (pdc (ds:=[cC p,lK L,tN row,.int (t:Int),.int ((m+1:Nat):Int),lkD o]) GP hr (aB (pdv 0)<|aB (pdv 1) (aB (pdv 2)<|aB (pdv 6) (aB (pdv 5)<|aB (pdv 3) aK))) ⟨p,L,row,t,m+1,o,.non,true,.inr ⟨I.px (by omega) (by omega) gr,rfl,rfl⟩,rfl,rfl⟩) (jU (js:=[7,8]) (ds:=[.non,.bl true]) rfl (dD (pgn 7)<|dD (pgn 8) iL) rfl rfl) ?_;exact aG<|lE (k:=true) (pV<|pdv 8) rfl (aQ<|gT gM)
   refine aG<|uX (d:=.tup [pfD (pcQ p L row t (m+1)<|bxQ p.2.toNat o),.bl false]) (pdc (ds:=[cC p,lK L,tN row,.int (t:Int),.int ((m+1:Nat):Int),lkD o]) GP hr (aB (pdv 0)<|aB (pdv 1) (aB (pdv 2)<|aB (pdv 6) (aB (pdv 5)<|aB (pdv 3) aK))) ⟨p,L,row,t,m+1,o,_,false,.inl ⟨I.pc (by omega) (by omega) gr,rfl,rfl⟩,rfl,rfl⟩) (jU (js:=[7,8]) (ds:=[pfD (pcQ p L row t (m+1)<|bxQ p.2.toNat o),.bl false]) rfl (dD (pgn 7)<|dD (pgn 8) iL) rfl rfl) ?_;refine tR (pV<|pdv 8) ?_;cases hq:pcQ p L row t (m+1) (bxQ p.2.toNat o) with
   |none=>
    refine aQ (nN (k:=false) (PTd.cast (mV (d:=.non) (pdv 7) eZ) rfl) rfl<|dQ ⟨(s4 p L row o [.val<|.int (w:Int),.val<|.int ((m+1:Nat):Int),.un,.un,.un]),⟨.inr rfl,.inr rfl,.inr rfl,.inr rfl,.inr rfl,.inr rfl,.inl rfl,.inl rfl,.inl rfl,trivial⟩,λj hj=> ?_,rfl⟩)
    by_cases e:j<t
    ·exact none2 j e
    ·have:j=t:=by omega
     subst this;unfold fzP;rw[if_neg gr,hq];rfl
   |some e=>have ef:fzQ p L (bxQ p.2.toNat o) w row=some (some (t,m+1,e.2.1)):=lH (by omega) none1 (lH ht none2<|by unfold fzP;rw[if_neg gr,hq];rfl);rw[ef];exact aQ<|lE (k:=true) (PTd.cast (mV (d:=tN e.2.1) (pdv 7) eZ) rfl) rfl (aQ<|gT (pdT (ds:=[.int (t:Int),.int ((m+1:Nat):Int),tN e.2.1])<|aB (pdv 6) (aB (pdv 5)<|aB (pdv 7) aK)))
  ·obtain⟨none2,rfl⟩:=hn;rw[fM] at none2;refine⟨(s4 p L row o [.val<|.int (w:Int),.un,.un,.un,.un]),⟨.inr rfl,.inr rfl,.inr rfl,.inr rfl,.inr rfl,.inl rfl,.inr rfl,.inr rfl,.inr rfl,trivial⟩,λj hj=> ?_,rfl⟩
   by_cases e:j<m
   ·exact none1 j e
   ·have:j=m:=by omega
    subst this;exact uP none2
 ·obtain⟨none1,rfl⟩:=hn;rw[fM,ew] at none1
  rw [show fzQ p L (bxQ p.2.toNat o) w row=none from uP fun j hj=>by
   by_cases e:j<row.length
   ·exact none1 j<|by omega
   ·unfold fzM;rw[show row.length-j=0 by omega]
    rfl]
  exact aQ<|gT eZ
noncomputable def dzN(p:Int×Int)(ns:List Int):Nat->List SK
 |0=>[]
 |t+1=>if((dzN p ns t).map skD |>.map kU).any (λz=>deq z (sqD<|stE p (dG ns<|30+t))) then dzN p ns t else if(dzN p ns t).length<8 then dzN p ns t++[(stE p (dG ns<|30+t),1)] else dzN p ns t
theorem aBi{p:Int×Int}(hp:p∈bY)(ns:List Int):∀t,(dzN p ns t).length<=8/\(0<t->0<(dzN p ns t).length)/\(∀s∈dzN p ns t,sD p s.1/\s.2=1)/\((dzN p ns t).map λs=>sqD s.1).Nodup
 |0=>⟨cP _,λh=>by omega,(λs hs=>nomatch hs),cR⟩
 |t+1=>by
  obtain⟨a,b,c,d⟩:=aBi hp ns t;unfold dzN
  split
  ·rename_i h;refine⟨a,λ_=> ?_,c,d⟩;cases e:dzN p ns t with
   |nil=>rw[e] at h;simp at h
   |cons _ _=>simp
  ·rename_i h
   split
   ·rename_i h8;refine⟨by rw[aH];simp;omega,λ_=>by rw[aH];simp,λs hs=> ?_, ?_⟩
    ·rcases aS.mp hs with hs|hs
     ·exact c s hs
     ·rw[aI.mp hs];exact⟨aIU hp _,rfl⟩
    ·rw[aX];refine bH.mpr ⟨d,by simp,λx hx y hy z=>h ?_⟩;have ey:y=sqD (stE p (dG ns<|30+t)):=by simpa using hy
     obtain⟨s,hs,rfl⟩:=aP.mp hx;refine iW.mpr ⟨sqD s.1,aP.mpr ⟨skD s,aP.mpr ⟨s,hs,rfl⟩,rfl⟩, ?_⟩;rw[<-ey,<-z];exact wH _<|zP _
   ·rename_i h8;exact⟨a,λ_=>by omega,c,d⟩
noncomputable def dzL(L:List SK):List SK:=L.take (L.length-1)++[((L.getD (L.length-1) AO).1,9)]
theorem aNa{p:Int×Int}{L:List SK}(hp:p∈bY)(l0:0<L.length)(l8:L.length<=8)(st:∀s∈L,sD p s.1/\s.2=1)(nd:(L.map λs=>sqD s.1).Nodup):StkOk p (dzL L)/\((dzL L).map λs=>sqD s.1).Nodup/\(dzL L).length=L.length:=by
 have ll:(dzL L).length=L.length:=by unfold dzL;rw[aH,cV];simp;omega
 have em:(dzL L).map (λs=>sqD s.1)=L.map λs=>sqD s.1:=by
  unfold dzL
  have e:L=L.take (L.length-1)++[L.getD (L.length-1) AO]:=by
   have h:=fC (L.length-1) L;rw[dH<|by omega,show L.length-1+1=L.length by omega,uZ] at h
   conv=>lhs;rw[<-h]
   simp[cG,show L.length-1<L.length by omega]
  conv=>rhs;rw[e]
  rw[aX,aX];rfl
 refine⟨⟨by omega,by omega,λs hs=> ?_⟩,by rw[em];exact nd,ll⟩;unfold dzL at hs
 rcases aS.mp hs with hs|hs
 ·obtain⟨h1,h2⟩:=st s<|dW hs;exact⟨h1,by omega,by omega⟩
 ·rw[aI.mp hs];exact⟨(st _ (getD_mem (d:=(AO:SK))<|by omega)).1,(by decide:(1:Int)<=9),(by decide:(9:Int)<=9)⟩
def aMa:List D->R->Prop:=λds r=>∃ns p,p∈bY/\ds=[.scr ns,cC p]/\r=.own ((dzL<|dzN p ns 30).map skD)
abbrev aPK:List Str:=["_law_script","_law_size","_law_stock","_law_k","_law_step_here"]
theorem aFH(F:FI K mg "_law_dear" aGo)(zrange:mg "range"=none)(zlen:mg "len"=none)(GD:bJ P w K mg base "_law_draw" 1 2 aGl)(GT:bJ P w K mg base "_law_step" 2 2 aDF):bJ P w K mg base "_law_dear" 3 2 aMa:=by
 refine cY (N:=aPK) (ps:=["_law_script","_law_size"]) (k:=2) F λf nd cdv A outer s H E hr ds r hl c=> ?_
 obtain⟨ns,p,hp,rfl,rfl⟩:=c;have hu:=uN hr 4;refine aG<|qB (ds:=[]) 2 (sX (ds:=[]) aK<|cP _) λl4=> ?_;refine aG<|nV (ds:=fR 30 30) (λt=>[.val<|.scr ns,.val<|cC p,.own l4<|(dzN p ns t).map skD,.un,.un]) (λt=>[.val<|.scr ns,.val<|cC p,.own l4<|(dzN p ns t).map skD,.val (.int<|30+(t:Int)),.un]) (qR (lo:=30) (m:=60) rfl zrange bR bR ⟨by decide,by decide⟩ ⟨by decide,by decide⟩) (Le.refl _) (λt d hd=> ?_) (λt d hd=> ?_) ?_
 ·obtain⟨_,rfl⟩:=fQ hd;exact pgN 3
 ·obtain⟨ht,rfl⟩:=fQ hd;have ll:=(aBi hp ns t).1;refine aG<|gW (d:=sqD<|stE p (dG ns<|30+t)) 4 (pdc (ds:=[.int (dG ns<|30+t),cC p]) GT hr (aB (pdc (ds:=[.scr ns,.int ((30+t:Nat):Int)]) GD hr (aB (pdv 0)<|aB (PEd.ic (pdv 3)<|by omega) aK) ⟨ns,30+t,rfl,by omega,rfl⟩)<|aB (pdv 1) aK) ⟨_,p,hp,rfl,rfl⟩) ?_;have eN:dzN p ns (t+1)=if((dzN p ns t).map skD |>.map kU).any (λz=>deq z (sqD<|stE p (dG ns<|30+t))) then dzN p ns t else if(dzN p ns t).length<8 then dzN p ns t++[(stE p (dG ns<|30+t),1)] else dzN p ns t:=rfl
  rw[eN];generalize dzN p ns t=L at *;generalize stE p (dG ns<|30+t)=q;have nd2:nl20.Nodup:=by decide+kernel
  have plc:plL ((L.map skD).map kU)=true/\lI ((L.map skD).map kU)<=1:=by rw[aU];exact⟨aAI (λs:SK=>kU<|skD s) (λs=>zP s.1) _,vZ (λs:SK=>kU<|skD s) 1 (λs=>pD<|aIF s.1) _⟩
  have ef:((L.map skD).filter λ_=>true).map kU=(L.map skD).map kU:=by rw[cQ.mpr λ_ _=>rfl]
  refine aQ<|fG (k:=(!((L.map skD).map kU).any λz=>deq z<|sqD q)&&decide ((L.length:Int)<8)) (PWd.pt<|iP (k:= !((L.map skD).map kU).any λz=>deq z<|sqD q) (j:=decide<|(L.length:Int)<8) (PTd.lend 2 rfl (aJD rfl) (vL (pdv 4) (PEd.val (PEd.cast (kH (ds:=L.map skD) (N:=nl20) (M:=aPK) (cap:=[none,none]) (sc:=aO aGo) (Tb:=λd=>aQd d []) (λ_=>true) kU (gX<|pdv 2) (by rw[aC];omega) rfl (by decide+kernel) rfl (by decide+kernel) rfl (λcl C fp s H d hd=> ?_) (λd hd=> ?_) (λcl C fp s H d hd=>.inl ⟨rfl,rfl⟩) λcl C fp s H d hd _=> ?_)<|by rw[ef])) (zP q) plc.1<|by have:=plc.2;show(A.deeper<|Ai "_law_dear" (aO aGo) s.heap.objs.size f cdv).units+1+_<AS;omega)) λ_=>sI (oO aJB (PEd.ic (mC rfl zlen (oA 2 rfl<|pv 2))<|by rw[aC]) bR<|gP _)) (λh=> ?_) λh=> ?_
  ·obtain⟨s,_,rfl⟩:=aP.mp hd;exact jU (js:=[0,1]) rfl (dD (pgn 0)<|dD (pgn 1) iL) rfl rfl
  ·obtain⟨s,_,rfl⟩:=aP.mp hd;exact⟨.inl rfl,.inl rfl,trivial⟩
  ·obtain⟨s,_,rfl⟩:=aP.mp hd;exact(pdv 0)
  ·rw[bP] at h;have h':((L.map skD).map kU).any (λz=>deq z<|sqD q)=false:=by simpa using h.1
   have h8:L.length<8:=by have:=of_decide_eq_true h.2;omega
   rw[h',if_neg bE,if_pos h8];refine aQ<|nX (d:=skD (q,1)) 2 rfl (pv 2) (pdT (ds:=[sqD q,.int 1]) (aB (pdv 4)<|aB bR aK)) (by rw[aC];omega) ?_;refine⟨.inr rfl,.inr rfl,.inr ?_,.inl rfl,.inl rfl,trivial⟩;rw[aX];rfl
  ·have e0:(if((L.map skD).map kU).any (λz=>deq z<|sqD q)=true then L else if L.length<8 then L++[(q,1)] else L)=L:=by
    split
    ·rfl
    ·rename_i h1;refine if_neg λh2=> ?_
     rw[aJc.mpr h1,decide_eq_true<|by omega] at h;cases h
   rw[e0];exact dQ ⟨.inr rfl,.inr rfl,.inr rfl,.inl rfl,.inl rfl,trivial⟩
 ·rw[fM];obtain⟨l8,l0,_,_⟩:=aBi hp ns 30;have l0:=l0 (by decide);generalize dzN p ns 30=L at l8 l0
  have sk1:atI (L.map skD) (-1)=some (skD<|L.getD (L.length-1) AO):=by
   have e:ixN (L.map skD).length (-1)=some (L.length-1):=by unfold ixN;rw[if_neg<|by decide,aC,if_pos<|by omega];refine congrArg some ?_;omega
   unfold atI;rw[e];exact aDr<|by omega
  have ec:cutD (L.map skD) none (some (-1))=(L.take<|L.length-1).map skD:=by rw[aHI,aC,iG]
  have e9:(dzL L).map skD=(L.take<|L.length-1).map skD++[skD ((L.getD (L.length-1) AO).1,9)]:=by unfold dzL;rw[aX];rfl
  rw[e9];refine iM 2 rfl ?_;exact aQ<|gT (aLg (PEd.bor<|PEd.val (PEd.cast (aMR (ol:=none) (oh:=some (-1)) (PEd.bor<|pdv 2) trivial<|aIx bR)<|by rw[ec])) (PEd.bor<|PEd.val (pdL (ds:=[skD ((L.getD (L.length-1) AO).1,9)])<|aB (pdT (ds:=[sqD (L.getD (L.length-1) AO).1,.int 9]) (aB (pdx (n:=0) (ds:=[sqD (L.getD (L.length-1) AO).1,.int (L.getD (L.length-1) AO).2])<|aKm (i:= -1) (PEd.bor<|pdv 2) (aIx bR) sk1 λ_ _=>rfl)<|aB bR aK)) aK))<|by rw[aC,cV];show _+1<=10000;omega)
abbrev aQb:List Str:=["_law_size","_law_stock","_law_row_here","_law_looked_here","_law_width","_law_found","_law_great"]
theorem aFf{CN:BE}{tk:Tok}(F:FI K mg "_law_told" aGs)(xk:aLO K mg CN)(GI:CalleeE [.none,.int 2 tk] P w K mg base "is_cheap" 10 5 aGx/\gJ P w K mg base "is_cheap" 10 5 aJG (.ref CN) [] []):bJ P w K mg base "_law_told" 11 5 aJx:=by
 refine cY (N:=aQb) (ps:=aPT) (k:=10) F λf nd cdv A outer s H E hr ds r hl c=> ?_
 obtain⟨p,L,row,o,w',I,hw,rfl,rfl⟩:=c;refine aG<|gW (d:=.non) 5 eZ ?_;refine aG<|gW (d:=.bl false) 6 qJ ?_
 have ok:∀x,fzQ p L (bxQ p.2.toNat o) w' row=lS some x->PSd (iF CX0 P w K mg base aQb "_law_told" (aO aGs) f cdv A outer s H E).nox (s4 p L row o [.val<|.int (w':Int),.val .non,.val<|.bl false]) ((cN aGs).drop 2) (rtE (R.val<|.bl x.isNone)):=λx ex=>by refine aG (aBO (aQ<|gW (d:=.bl x.isNone) 5 (pdc (ds:=[cC p,lK L,tN row,lkD o,.int (w':Int)]) GI.1.full hr (aB (pdv 0) (aB (pdv 1)<|aB (pdv 2) (aB (pdv 3)<|aB (pdv 4) aK))) ⟨p,L,row,o,w',x,I,hw,ex,rfl,rfl⟩) ?_));refine tR (pV<|pdv 6) ?_;exact aQ (gT<|pdv 5)
 match h:fzQ p L (bxQ p.2.toNat o) w' row with
 |none=>exact ok none h
 |some (some c)=>exact ok (some c) h
 |some none=>
  refine aG<|aCa (cls:=.ref CN) rfl xk.nw.1 xk.nw.2 (λξ pn F0 tk=> ?_) λa pn=> ?_
  ·exact aQ<|oS 5 nd rfl (Or.inl rfl) (aCd (ds:=[cC p,lK L,tN row,lkD o,.int (w':Int)]) (dds:=[]) GI.2 (zH rfl) hr rfl (aB (pdv 0) (aB (pdv 1)<|aB (pdv 2) (aB (pdv 3)<|aB (pdv 4) aK))) (λ_=>RepL.nil) ⟨p,L,row,o,w',I,hw,h,rfl⟩ rfl<|Takes.o tk)
  ·refine aQ<|gW (d:=.bl true) 6 qJ ?_;exact aG<|lE (k:=true) (pV<|pdv 6) rfl (aQ<|gT gM)
noncomputable def aLy(x:Int):Nat:=[1,2,3,2,1,2,3,4].getD (x%8).toNat 1
theorem aKR(x:Int):(1<=aLy x/\aLy x<=4)/\([.int 1,.int 2,.int 3,.int 2,.int 1,.int 2,.int 3,.int 4]:List D)[(x%8).toNat]? =some (.int (aLy x:Int)):=by
 have h0:=bX x (show(8:Int)≠0 by decide);have h1:=bU x (show(0:Int)<8 by decide);unfold aLy;have:(x%8).toNat<8:=by omega
 generalize (x%8).toNat=i at this;refine⟨?_, ?_⟩
 ·have g:∀i,i<8->1<=[1,2,3,2,1,2,3,4].getD i 1/\[1,2,3,2,1,2,3,4].getD i 1<=4:=by decide
  exact g i this
 ·have e:∀l:List Nat,i<l.length->(l.map λ(n:Nat)=>D.int (n:Int))[i]? =some (.int (l.getD i 1:Int)):=λl hl=>by simp[cG,hl]
  exact e [1,2,3,2,1,2,3,4] this
theorem aPm{L:List SK}(h:0<L.length)(row:List Nat):iJ L (row.map λt=>t%L.length):=λt ht=>by obtain⟨x,_,rfl⟩:=aP.mp ht;exact Nat.mod_lt _ h
abbrev nl25:List Str:=["_law_script","_law_size","_law_stock","_law_row_here","_law_looked_here","_law_width","_law_dear_here","_law_place","_law_first_here","_law_due","_law_found"]
set_option maxHeartbeats 2000000 in
theorem aMF{CN:BE}{tk:Tok}(F:Fun K "law" "law" qC f fd)(ztuple:mg "tuple"=none)(zlen:mg "len"=none)(zisinstance:mg "isinstance"=none)(zbool:mg "bool"=none)(GD:bJ P w K mg base "_law_draw" 1 2 aGl)(GG:bJ P w K mg base "_law_digits" 1 2 uV)(GM:bJ P w K mg base "_law_small" 1 1 aQf)(GF:bJ P w K mg base "_law_few" 3 4 aIN)(GR:bJ P w K mg base "_law_row" 2 3 aPR)(GK:bJ P w K mg base "_law_looked" 1 2 aPO)(GE:bJ P w K mg base "_law_dear" 3 2 aMa)(GL:bJ P w K mg base "_law_first" 11 5 aDt)(GT:bJ P w K mg base "_law_told" 11 5 aJx)(GI:CalleeE [.none,.int 2 tk] P w K mg base "is_cheap" 10 5 aGx/\gJ P w K mg base "is_cheap" 10 5 aJG (.ref CN) [] []):FnOk P w K mg base CX0 12 f fd ["_law_script"] (spC K 1 aNZ):=by
 have nd:nl25.Nodup:=by decide+kernel
 have nd2:(["_law_number","_law_stock"]:List Str).Nodup:=by decide+kernel
 refine aIP (N:=nl25) (ps:=["_law_script"]) (k:=11) F ⟨rfl,rfl,rfl,nd,rfl,by decide+kernel,by decide+kernel⟩ λcdv A outer s H E hr ds r hl c=> ?_
 obtain⟨ns,rfl,hns,rfl⟩:=c;have hr10:=hr.mono (show 10<=11 by decide);have hu:=uN hr 6;have draw:∀ {sd:List Slot}{p1 p2 p3 p4:Pos}{j1:Nat} (k:Nat),k<=10000->sd[0]? =some (.val<|.scr ns)->PEd (iF CX0 P w K mg base nl25 "law" (aO qC) f cdv A outer s H E).nox sd (.Call (.Name "_law_draw" p1) [.Name "_law_script" p2, .Constant (.int (k:Int)) j1 p3] [] p4) (.val (.int<|dG ns k)):=λk hk hs=>pdc (ds:=[.scr ns,.int (k:Int)]) GD hr (aB (aDC 0 hs<|pv 0)<|aB bR aK) ⟨ns,k,rfl,hk,rfl⟩
 have fin:∀ (p:Int×Int) (L:List SK) (wd:Nat) (row:List Nat) (o:Option (List Nat)),McZ p L row o->wd<=100->PSd (iF CX0 P w K mg base nl25 "law" (aO qC) f cdv A outer s H E).nox [.val<|.scr ns,.val<|cC p,.val<|lK L,.val (.tup<|bM row),.val<|lkD o,.val<|.int (wd:Int),.un,.un,.un,.un,.un] ((cN qC).drop 7) (rtE (R.val<|.bl true)):=λp L wd row o I hw=>by
  have cL:aDt (a5 p L row o wd) (.val (zzD<|fzQ p L (bxQ p.2.toNat o) wd row)):=⟨p,L,row,o,wd,I,hw,rfl,rfl⟩;have cT:aJx (a5 p L row o wd) (.val (tzD<|fzQ p L (bxQ p.2.toNat o) wd row)):=⟨p,L,row,o,wd,I,hw,rfl,rfl⟩;have cI:∀x,fzQ p L (bxQ p.2.toNat o) wd row=lS some x->aGx (a5 p L row o wd) (.val<|.bl x.isNone):=λx ex=>⟨p,L,row,o,wd,x,I,hw,ex,rfl,rfl⟩
  have last:∀ (x:Option Ch) (d:D),fzQ p L (bxQ p.2.toNat o) wd row=lS some x->PSd (iF CX0 P w K mg base nl25 "law" (aO qC) f cdv A outer s H E).nox [.val<|.scr ns,.val<|cC p,.val<|lK L,.val (.tup<|bM row),.val<|lkD o,.val<|.int (wd:Int),.un,.un,.val d,.val<|.bl x.isNone,.val<|.bl x.isNone] ((cN qC).drop 12) (rtE (R.val<|.bl true)):=λx d ex=>by
   have cI:=cI x ex
   by_cases h2:(wd:Int)=2
   ·cases o with
    |some l=>exact tR (PWd.pt<|iP (k:=true) (j:=false) (PTd.cast (kK (pdv 5) bR)<|by rw[h2];rfl) λ_=>iP (k:=false) (j:=false) (PTd.cast (lW (d:=.lst<|bM l) (pdv 4) eZ) rfl) λh=>by cases h) (aQ<|gT qJ)
    |none=>refine aG<|lE (k:=true) (PWd.pt (iP (k:=true) (j:=true) (PTd.cast (kK (pdv 5) bR)<|by rw[h2];rfl) λ_=>iP (k:=true) (j:=true) (PTd.cast (lW (d:=.non) (pdv 4) eZ) rfl) λ_=>sI<|uQ (x:=.bl x.isNone) (y:=.str "great") (pdv 9) gM rfl rfl rfl rfl)) rfl (aQ<|eU (PEd.cast (aMV (x:=.bl x.isNone) (y:=.bl x.isNone) (k:=true) (aGK (ds:=[cC p,lK L,.tup<|bM row]) (dx:=[.non,.int 2]) (vx:=[.non,.int 2]) (r:=.val<|.bl x.isNone) GI.1 hr10 rfl (aB (pdv 1) (aB (pdv 2)<|aB (pdv 3) aK)) (.cons rfl<|.cons ⟨tk,rfl⟩ .nil) (λF=>.cons (by simp only[Rep]) (.one<|by simp only[Rep])) (by have e:wd=2:=(by omega);subst e;exact cI) trivial rfl) (pdv 9) rfl rfl rfl<|decide_eq_true rfl) rfl) trivial rfl)
   ·exact tR (PWd.pt<|iP (k:=false) (j:=false) (PTd.cast (kK (pdv 5) bR)<|by simpa using h2) λh=>by cases h) (aQ<|gT qJ)
  refine aG<|gW (d:=zzD<|fzQ p L (bxQ p.2.toNat o) wd row) 8 (pdc (ds:=(a5 p L row o wd)) GL hr (aB (pdv 1) (aB (pdv 2)<|aB (pdv 3) (aB (pdv 4)<|aB (pdv 5) aK))) cL) ?_;generalize hz:fzQ p L (bxQ p.2.toNat o) wd row=z at cT last;clear cI cL
  match z with
  |none=>refine aG<|gW (d:=.bl true) 9 (PEd.cast (xA (d:=.non) (pdv 8) eZ) rfl) ?_;refine tR (iN (x:=.non) (y:=.str "great") (pdv 8) gM rfl rfl rfl rfl) ?_;refine aG<|gW (d:=.bl true) 10 (pdc (ds:=(a5 p L row o wd)) GT hr (aB (pdv 1) (aB (pdv 2)<|aB (pdv 3) (aB (pdv 4)<|aB (pdv 5) aK))) cT) ?_;exact tR (PWd.pt (aDy (k:=false) (j:=false) (PTd.cast (qX (pN rfl zisinstance rfl zbool PyProof.Rows.boot_bool (pdv 10) (λ_=>by simp)<|mY _ _) (pN rfl zisinstance rfl zbool PyProof.Rows.boot_bool (pdv 9) (λ_=>by simp)<|mY _ _)) rfl) λ_=>aAE<|PTd.cast (qX (pdv 10)<|pdv 9) rfl))<|last none _ rfl
  |some (some c)=>refine aG<|gW (d:=.bl false) 9 (PEd.cast (xA (d:=chD c) (pdv 8) eZ) rfl) ?_;refine tR (aHH (d:=chD c) (.inr ⟨_,rfl⟩) (by show(A.deeper _).units+1<AS;omega) (pdv 8) gM) ?_;refine aG<|gW (d:=.bl false) 10 (pdc (ds:=(a5 p L row o wd)) GT hr (aB (pdv 1) (aB (pdv 2)<|aB (pdv 3) (aB (pdv 4)<|aB (pdv 5) aK))) cT) ?_;exact tR (PWd.pt (aDy (k:=false) (j:=false) (PTd.cast (qX (pN rfl zisinstance rfl zbool PyProof.Rows.boot_bool (pdv 10) (λ_=>by simp)<|mY _ _) (pN rfl zisinstance rfl zbool PyProof.Rows.boot_bool (pdv 9) (λ_=>by simp)<|mY _ _)) rfl) λ_=>aAE<|PTd.cast (qX (pdv 10)<|pdv 9) rfl))<|last (some c) _ rfl
  |some none=>
   refine aG<|gW (d:=.bl false) 9 (PEd.cast (xA (d:=.str "great") (pdv 8) eZ) rfl) ?_;refine aG<|lE (k:=true) (iN (x:=.str "great") (y:=.str "great") (pdv 8) gM rfl rfl rfl<|decide_eq_true rfl) rfl (aQ<|gW (d:=.str "great") 9 (pdv 8) ?_);refine aG<|gW (d:=.str "great") 10 (pdc (ds:=(a5 p L row o wd)) GT hr (aB (pdv 1) (aB (pdv 2)<|aB (pdv 3) (aB (pdv 4)<|aB (pdv 5) aK))) cT) ?_;refine tR (PWd.pt<|aDy (k:=false) (j:=false) (PTd.cast (qX (pN rfl zisinstance rfl zbool PyProof.Rows.boot_bool (pdv 10) (λ_=>by simp)<|mY _ _) (pN rfl zisinstance rfl zbool PyProof.Rows.boot_bool (pdv 9) (λ_=>by simp)<|mY _ _)) rfl) λ_=>aAE (uQ (x:=.str "great") (y:=.str "great") (pdv 10) (pdv 9) rfl rfl rfl<|by rw[decide_eq_true rfl];rfl)) ?_
   have nx:PSd (iF CX0 P w K mg base nl25 "law" (aO qC) f cdv A outer s H E).nox [.val<|.scr ns,.val<|cC p,.val<|lK L,.val (.tup<|bM row),.val<|lkD o,.val<|.int (wd:Int),.un,.un,.val<|.str "great",.val<|.str "great",.val<|.str "great"] ((cN qC).drop 12) (rtE (R.val<|.bl true)):=by
    have ln:isN (lkD o)=true\/isN (lkD o)=false:=by cases isN (lkD o)<;>simp
    by_cases h2:(wd:Int)=2
    ·rcases ln with q|q
     ·exact tR (PWd.pt<|iP (k:=true) (j:=false) (PTd.cast (kK (pdv 5) bR)<|by rw[h2];rfl) λ_=>iP (k:=true) (j:=false) (PTd.cast (lW (d:=lkD o) (pdv 4) eZ) q) λ_=>sI (uQ (x:=.str "great") (y:=.str "great") (pdv 9) gM rfl rfl rfl<|by rw[decide_eq_true rfl];rfl)) (aQ<|gT qJ)
     ·exact tR (PWd.pt<|iP (k:=true) (j:=false) (PTd.cast (kK (pdv 5) bR)<|by rw[h2];rfl) λ_=>iP (k:=false) (j:=false) (PTd.cast (lW (d:=lkD o) (pdv 4) eZ) q) λh=>by cases h) (aQ<|gT qJ)
    ·exact tR (PWd.pt<|iP (k:=false) (j:=false) (PTd.cast (kK (pdv 5) bR)<|by simpa using h2) λh=>by cases h) (aQ<|gT qJ)
   exact nx
 refine aG<|gW (d:=cC (smE<|dG ns 0)) 1 (pdc (ds:=[.int<|dG ns 0]) GM hr (aB (draw 0 (by decide) rfl) aK) ⟨_,rfl,rfl⟩) ?_;have hp:=aLd<|dG ns 0;generalize smE (dG ns 0)=p at hp;refine aG<|qB (ds:=(f8N p ns<|f8T ns).map skD) 2 (pdc (ds:=[.scr ns,.int 1,cC p,.int 3]) GF hr (aB (pdv 0)<|aB bR (aB (pdv 1)<|aB bR aK)) ⟨ns,p,hp,rfl,rfl⟩) λl2=>iM 2 rfl ?_
 have kt:StkOk p (f8N p ns<|f8T ns)/\((f8N p ns<|f8T ns).map λs=>sqD s.1).Nodup:=by obtain⟨a,b,c,d⟩:=aDv hp ns<|f8T ns;have:=aIS ns;exact⟨⟨b<|by omega,by omega,λs hs=>⟨(c s hs).1,(c s hs).2.1,by have:=(c s hs).2.2;omega⟩⟩,d⟩
 generalize f8N p ns (f8T ns)=L at kt;refine aG<|gW (d:=.tup (bM<|rwE (dG ns 5) L.length 6)) 3 (pdc (ds:=[.int<|dG ns 5,lK L,.int ((6:Nat):Int)]) GR hr (aB (draw 5 (by decide) rfl) (aB (pdv 2)<|aB bR aK)) ⟨_,L,6,kt.1.pos,by decide,rfl,rfl⟩) ?_;obtain⟨rok,h6⟩:=aNU (dG ns 5) 6 kt.1.pos;generalize rwE (dG ns 5) L.length 6=row at rok h6;refine aG<|gW (d:=lkD<|lkE (dG ns 6) p.2.toNat) 4 (pdc (ds:=[.int<|dG ns 6,cC p]) GK hr (aB (draw 6 (by decide) rfl)<|aB (pdv 1) aK) ⟨_,p,hp,rfl,rfl⟩) ?_;have hlk:=aMH hp<|dG ns 6;generalize lkE (dG ns 6) p.2.toNat=o at hlk;have eD:(qD (dG ns 7) [8,16,840]).map D.int=[.int<|dG ns 7%8,.int<|dG ns 7 / 8%16,.int<|dG ns 7 / 8 / 16%840]:=rfl;refine aG<|uX (d:=.lst [.int<|dG ns 7%8,.int<|dG ns 7 / 8%16,.int<|dG ns 7 / 8 / 16%840]) (sd':=[.val<|.scr ns,.val<|cC p,.val<|lK L,.val (.tup<|bM row),.val<|lkD o,.val (.int<|dG ns 7%8),.val (.int<|dG ns 7 / 8%16),.val (.int<|dG ns 7 / 8 / 16%840),.un,.un,.un]) (PEd.val (PEd.cast (pdc (ds:=[.int<|dG ns 7,.lst<|[8,16,840].map D.int]) (r:=.own<|(qD (dG ns 7) [8,16,840]).map D.int) GG hr (aB (draw 7 (by decide) rfl)<|aB (PEd.val (pdL (ds:=[.int 8,.int 16,.int 840])<|aB bR (aB bR<|aB bR aK))) aK) ⟨_,_,rfl,by decide,by decide,rfl⟩)<|by rw[eD])) (aEC (ds:=[.int<|dG ns 7%8,.int<|dG ns 7 / 8%16,.int<|dG ns 7 / 8 / 16%840]) (js:=[5,6,7]) rfl (dD (pgn 5) (dD (pgn 6)<|dD (pgn 7) iL)) rfl rfl) ?_;obtain⟨w1,w2⟩:=aKR<|dG ns 7;have c0:=bX (dG ns 7 / 8 / 16) (show(840:Int)≠0 by decide);refine aG<|gW (d:=.int (aLy (dG ns 7):Int)) 5 (nI (i:=dG ns 7%8) (PEd.bor (PEd.val<|pdL (ds:=[.int 1,.int 2,.int 3,.int 2,.int 1,.int 2,.int 3,.int 4]) ?_)) (pdv 5) (bX _<|by decide) w2 λ_ _=>rfl) ?_
 ·repeat' (first|exact aK|refine aB bR ?_)
 generalize aLy (dG ns 7)=wd at w1;generalize dG ns 7 / 8 / 16%840=pc at c0;refine aG<|fG (kK (pdv 6) bR) (λhh=> ?_) λhh=>dQ ?_
 ·obtain⟨l8,l0,sst,snd⟩:=aBi hp ns 30;obtain⟨Sd,Nd,Ld⟩:=aNa hp (l0<|by decide) l8 sst snd;clear l8 l0 sst snd;have nd:=nd;refine aG<|qB (ds:=(dzL<|dzN p ns 30).map skD) 2 (pdc (ds:=[.scr ns,cC p]) GE hr (aB (pdv 0)<|aB (pdv 1) aK) ⟨ns,p,hp,rfl,rfl⟩) λl2=>iM 2 rfl ?_;generalize dzL (dzN p ns 30)=M at Sd Nd;have m0:=Sd.pos;have m8:=Sd.le;refine aG<|gW (d:=.int ((1:Nat):Int)) 5 bR ?_;have q0:=bX pc (show(((row.length+1:Nat):Int))≠0 by omega);have q1:=bU pc (show(0:Int)<((row.length+1:Nat):Int) by omega);obtain⟨k,ek⟩:∃k:Nat,pc%((row.length+1:Nat):Int)=(k:Int):=⟨(pc%((row.length+1:Nat):Int)).toNat,by omega⟩;have el:(bM row).length=row.length:=aC _;refine aG (gW (d:=.int (k:Int)) 7 (PEd.ic (dO fZ (pdv 7) (PEd.ic (fU gL (rC rfl zlen<|pdv 3) bR) (show((bM row).length:Int)+1=((row.length+1:Nat):Int) by rw[el];push_cast;rfl))<|by omega) ek) ?_)
  have er:bM (row.take k)++[D.int (((M.length-1:Nat)):Int)]++bM (row.drop k)=bM (row.take k++[M.length-1]++row.drop k):=by unfold bM;rw[aX,aX];rfl
  have lr:(row.take k++[M.length-1]++row.drop k).length=row.length+1:=by rw[aH,aH,cV,fD];simp;omega
  have l1:(bM<|row.take k).length<=6:=by unfold bM;rw[aC,cV];omega
  have l2':(bM<|row.drop k).length<=6:=by unfold bM;rw[aC,fD];omega
  refine aG<|gW (d:=.tup (bM<|row.take k++[M.length-1]++row.drop k)) 3 (PEd.cast (pW (d1:=bM (row.take k)++[D.int (((M.length-1:Nat)):Int)]) (d2:=bM<|row.drop k) (pW (d1:=bM<|row.take k) (d2:=[D.int (((M.length-1:Nat)):Int)]) (PEd.cast (aCj (k:=k) (pdv 3)<|pdv 7)<|by unfold bM;rw[iG]) (pdT (ds:=[D.int (((M.length-1:Nat)):Int)])<|aB (PEd.ic (fU oQ (mC rfl zlen (PEd.bor<|pdv 2)) bR)<|by rw[aC];omega) aK)<|by show _+1<=10000;omega) (PEd.cast (vN (k:=k) (pdv 3)<|pdv 7)<|by unfold bM;rw[jM])<|by rw[aH];show _+1+_<=10000;omega)<|by rw[er]) ?_;generalize row.take k++[M.length-1]++row.drop k=rw2 at lr;have n0:(0:Int)<(M.length:Int):=by omega
  refine aQ<|gW (d:=.tup (bM<|rw2.map λt=>t%M.length)) 3 (kC rfl ztuple<|PEd.bor (PEd.val<|PEd.cast (pdC (ds:=bM rw2) (N:=["_law_number","_law_stock"]) (M:=nl25) (cap:=[none,some 2]) (sc:=aO qC) (Tb:=λd=>[.val d,.val<|lK M]) (λ_=>true) (λd=>match d with | .int i=>D.int (i%(M.length:Int))|_=>.non) (nK<|pdv 3) (by unfold bM;rw[aC];omega) (λcl C fp s H d hd=>.inl ⟨rfl,rfl⟩) λcl C fp s H d hd _=> ?_) (?_:_=R.own (bM<|rw2.map λt=>t%M.length)))) ?_
  ·obtain⟨z,_,rfl⟩:=aP.mp hd;exact dO fZ (pdv 0) (PEd.ic (mC rfl zlen (PEd.bor<|pdv 1))<|by rw[aC]) n0
  ·rw[cQ.mpr λ_ _=>rfl];unfold bM;rw[aU,aU];rfl
  exact aDn (sd':=[.val<|.scr ns,.val<|cC p,.val<|lK M,.val<|.tup (bM<|rw2.map λt=>t%M.length),.val<|lkD o,.val<|.int ((1:Nat):Int),.un,.un,.un,.un,.un]) ⟨.inr rfl,.inr rfl,.inr rfl,.inr rfl,.inr rfl,.inr rfl,.inl rfl,.inl rfl,.inr rfl,.inr rfl,.inr rfl,trivial⟩ (fin p M 1 _ o ⟨hp,Sd,Nd,aPm m0 rw2,by rw[aC];omega,hlk⟩<|by decide)
 ·exact aDn (sd':=[.val<|.scr ns,.val<|cC p,.val<|lK L,.val (.tup<|bM row),.val<|lkD o,.val<|.int (wd:Int),.un,.un,.un,.un,.un]) ⟨.inr rfl,.inr rfl,.inr rfl,.inr rfl,.inr rfl,.inr rfl,.inl rfl,.inl rfl,.inr rfl,.inr rfl,.inr rfl,trivial⟩ (fin p L wd row o ⟨hp,kt.1,kt.2,rok,by omega,hlk⟩<|by omega)
end
theorem aAP{t1 t2 t3:Tok}:Vals [V.str "not",V.str "up",V.str "down"] (#[Value.str "not" t1,Value.str "up" t2,Value.str "down" t3]:Array BC).toList:=.cons ⟨_,rfl⟩ (.cons ⟨_,rfl⟩<|.cons ⟨_,rfl⟩ .nil)
theorem all_mk{P:AE}{w:AM}{K:aA}{h:BG}{mg:Str->Option BC}{fa:BE}(X:K.In h)(G:h.Ns AR mg)(hfa:mg "law"=some (.ref fa))
  {odIc anIc:Option BE}{slIc:Array (Option BC)}{ocIc kVIc dcIc pmIc cdIc ctIc:BC}{fIc:BE}{dTIc:BE}{tcIc:BC}{tdIc:Option BE}{tnIc:Nat}{tsIc:Array (Option BC)}{ttIc:Tok}{odL anL:Option BE}{slL:Array (Option BC)}{ocL kVL dcL pmL cdL ctL:BC}{fL:BE}{fBY:BE}{dB:Option BE}{t1 t2 t3:Tok}{nB:Nat}{sB:Array (Option BC)}{tmst:Tok}{CN:BE}{CS fSI:BE}{odSh anSh:Option BE}{slSh:Array (Option BC)}{ocSh kVSh dcSh pmSh cdSh ctSh:BC}{fSB:BE}{odBu anBu:Option BE}{slBu:Array (Option BC)}{ocBu kVBu dcBu pmBu cdBu ctBu:BC}
   (aIc:iQ K AR "is_cheap"=some (some<|.ref fIc)) (lIc:K.lookup fIc=some ⟨ocIc,odIc,.func<|cE "is_cheap" "is_cheap" (eA sIc) (cN sIc) (aO sIc) (.ref dTIc) kVIc dcIc pmIc anIc cdIc ctIc,slIc⟩) (cIc:eG K cdIc "is_cheap"=true) (kIc:cO K (.ref fIc)=true) (tIc:K.lookup dTIc=some ⟨tcIc,tdIc,.seq #[.none,.int 2 ttIc] tnIc,tsIc⟩) (aL:iQ K AR "law"=some (some<|.ref fL)) (lL:K.lookup fL=some ⟨ocL,odL,.func<|cE "law" "law" (eA qC) (cN qC) (aO qC) .none kVL dcL pmL anL cdL ctL,slL⟩) (cL:eG K cdL "law"=true) (kL:cO K (.ref fL)=true) (zrange:mg "range"=none) (ztuple:mg "tuple"=none) (zenumerate:mg "enumerate"=none) (zlen:mg "len"=none) (zmin:mg "min"=none) (zlist:mg "list"=none) (zsorted:mg "sorted"=none) (zsum:mg "sum"=none) (zisinstance:mg "isinstance"=none) (zbool:mg "bool"=none) (aBY:iQ K AR "BY_ITSELF"=some (some<|.ref fBY)) (lBY:K.lookup fBY=some ⟨.type "tuple",dB,.seq #[.str "not" t1,.str "up" t2,.str "down" t3] nB,sB⟩) (amst:iQ K AR "MOST_TABLES"=some (some<|.int 500 tmst)) (aCN:iQ K AR "TooGreat"=some (some<|.ref CN)) (xex:mQ K CN [.type "ValueError",.type "Exception",.type "BaseException",.type "object"] "ValueError.__new__"=true) (xnw:xP K (.ref CN) (.ref CN)=some true) (aSh:iQ K AR "Shelf"=some (some<|.ref CS)) (iSh:cZ K (.ref CS) "__init__"=some (some<|.ref fSI)) (fSh:oC K (.ref fSI)=true) (lSh:K.lookup fSI=some ⟨ocSh,odSh,.func<|cE "__init__" "Shelf.__init__" (eA aJe) (cN aJe) (aO aJe) .none kVSh dcSh pmSh anSh cdSh ctSh,slSh⟩) (cSh:eG K cdSh "Shelf.__init__"=true) (kSh:cO K (.ref fSI)=true) (pgSh:kG K CS Str.empty=true) (hdSh:mJ K CS=true) (poSh:sN K CS=true) (saSh:cZ K (.ref CS) "__setattr__"=some (some<|.builtin "object.__setattr__")) (mkSh:uJ K CS=true) (kcSh:cO K (.ref CS)=true) (nZSh:cZ K (.ref CS) "size"=some none) (nSSh:cZ K (.ref CS) "stock"=some none) (nMSh:cZ K (.ref CS) "made"=some none) (iBu:cZ K (.ref CS) "book_up_to"=some (some<|.ref fSB)) (fBu:oC K (.ref fSB)=true) (lBu:K.lookup fSB=some ⟨ocBu,odBu,.func<|cE "book_up_to" "Shelf.book_up_to" (eA aJj) (cN aJj) (aO aJj) .none kVBu dcBu pmBu anBu cdBu ctBu,slBu⟩) (cBu:eG K cdBu "Shelf.book_up_to"=true) (kBu:cO K (.ref fSB)=true) (hC:FI K mg "word_count" aIC) (hEa:FI K mg "with_each_word" aDi) (hFi:FI K mg "fillings" aMu) (hNu:FI K mg "number_of" aPN) (hI:FI K mg "word_by_itself" aDX) (hA:FI K mg "word_by_another" aBL) (hN:FI K mg "new_word" aBt) (hB:FI K mg "written_box" aCh) (hS:FI K mg "step_on" aED) (hNo:FI K mg "numbers_of_step" aOE) (hMo:FI K mg "moves_of" aDE) (hNb:FI K mg "numbers_behind" aJF) (hPu:FI K mg "put_longer_rows" aPS) (hFo:FI K mg "found_rows" sFd) (hTf:FI K mg "table_from" aDq) (hBk:FI K mg "book_of" aJo) (hR:FI K mg "row_on" aIi) (hTa:FI K mg "table_of" aDN) (hBo:FI K mg "boxes_looked_at" aIy) (hWi:FI K mg "words_in" vP) (hIw:FI K mg "is_window" aIV) (hWt:FI K mg "words_told" aDz) (hFb:FI K mg "fillings_by_words" aQj) (hWa:FID K mg "wish_at" aOF) (hMs:FI K mg "misses_at" aMi) (hDo:FI K mg "does_wish" aMd) (hFt:FI K mg "first_that_does" sFt) (hP:FI K mg "price_of" aDK) (hSa:FI K mg "steps_at" aCg) (hPf:FI K mg "piece_from" aBj) (hPo:FID K mg "piece_for" aJp) (hFc:FI K mg "first_change" sFc) (hD:FI K mg "_law_draw" aGt) (hG:FI K mg "_law_digits" aEo) (hSl:FI K mg "_law_small" aEK) (hT:FI K mg "_law_step" aIJ) (hFw:FI K mg "_law_few" aBg) (hRw:FI K mg "_law_row" aJA) (hLk:FI K mg "_law_looked" aDL) (hLp:FI K mg "_law_piece" aPF) (hLf:FI K mg "_law_first" aPD) (hDe:FI K mg "_law_dear" aGo) (hTo:FI K mg "_law_told" aGs):
  ∃fd:AN,(∀ (s:BD) (v:BC),BindsTo s fd ⟨[v],[]⟩ [("_law_script",v)])/\∀base:BG,K.In base->base.Ns AR mg->FnOk P w K mg base CX0 12 fa fd ["_law_script"] (spC K 1 aNZ):=by
 have e:=hfa.symm.trans<|hX X G aL;cases e;have byself:∃ad,mg "BY_ITSELF"=some (.ref ad)/\∀H:Hp,SqT K H ad [V.str "not",V.str "up",V.str "down"]:=⟨_,hX X G aBY,λH=>.inr ⟨_,_,_,lBY,rfl,rfl,gC rfl,aAP⟩⟩;have mst:∃t,mg "MOST_TABLES"=some (.int 500 t):=⟨_,hX X G amst⟩;have xk:aLO K mg CN:=⟨xex,hX X G aCN,xnw⟩;have shT:oX K mg CS:=⟨⟨pgSh,hdSh,poSh,saSh⟩,nZSh,nSSh,nMSh,hX X G aSh⟩;have shM:Mk K CS fSI:=⟨mkSh,iSh,fSh,kcSh⟩;have shF:=zZ (st:=aJe) lSh cSh kSh;have mBu:aLG K CS "book_up_to" fSB:=⟨iBu,fBu,kBu⟩;have shB:=zZ (st:=aJj) lBu cBu kBu;have FIc:=aEc (st:=sIc) lIc cIc kIc tIc;have mIc:=hX X G aIc;have FL:=zZ (st:=qC) lL cL kL;refine⟨cE "law" "law" (eA qC) (cN qC) (aO qC) .none kVL dcL pmL anL cdL ctL,λs v=>.of_eq rfl,λbase _ _=> ?_⟩;have GC:=aGO (P:=P) (w:=w) (base:=base) hC zrange;have GEa:=aKQ (P:=P) (w:=w) (base:=base) hEa zrange;have GFi:=aKT hFi zrange GC GEa;have GNu:=aNf hNu GC;have GI:=aEZ (P:=P) (w:=w) (base:=base) hI;have GA:=aCP (P:=P) (w:=w) (base:=base) hA;have GN:=aCQ hN byself GC GI GA;have GB:=aCw (P:=P) (w:=w) (base:=base) hB;have GS:=aET hS GB GN;have GNo:=aHc hNo ztuple GNu GS GFi;have GMo:=aCK hMo GNo;have GNb:=aFu (P:=P) (w:=w) (base:=base) hNb ztuple;have GPu:=aHK hPu zenumerate GNb;have GFo:=aCA hFo zlen zmin zlist zsorted mst xk GPu;have GTf:=aCJ (P:=P) (w:=w) (base:=base) hTf ztuple;have GBk:=aFL hBk zlen zrange ztuple GFi GMo GFo GTf;have GR:=aHu hR GS;have GTa:=aHn hTa ztuple GFi GR;have GBo:=aGS (P:=P) (w:=w) (base:=base) hBo zlist zrange;have GWi:=aCU (P:=P) (w:=w) (base:=base) hWi;have GIw:=aCr (P:=P) (w:=w) (base:=base) hIw zlen;have GWt:=aCL hWt ztuple GWi;have GFb:=aGG hFb zenumerate GFi;have GWa:=aHv hWa zlist zenumerate GIw GBo GTa GWt GFb GFi;have GMs:=aFb hMs zenumerate GFi;have GDo:=aKv hDo GMs;have GFt:=aJX hFt GDo;have GP:=aHs (P:=P) (w:=w) (base:=base) hP zsum;have GSa:=aCM (P:=P) (w:=w) (base:=base) hSa;have GPf:=aCZ hPf shT mBu shB GBk GWa GSa GP GFt;have GPo:=aFz hPo shT shM shF GPf;have GFc:=aKn hFc zrange zlen GPf;have GIc:=aJY (P:=P) (w:=w) (base:=base) FIc shT shM shF mIc GFc;have GD:=aKk (P:=P) (w:=w) (base:=base) hD zlen;have GG:=aFS (P:=P) (w:=w) (base:=base) hG;have GSl:=aFg (P:=P) (w:=w) (base:=base) hSl zlen;have GT:=aHR hT GG;have GFw:=aGE hFw zrange GD GT;have GRw:=aKA hRw ztuple zlen GG;have GLk:=aHf (P:=P) (w:=w) (base:=base) hLk zrange;have GLp:=aCH hLp xk GPo;have GLf:=aCn hLf zrange zlen zmin GLp;have GDe:=aFH hDe zrange zlen GD GT;have GTo:=aFf hTo xk GIc;exact aMF FL ztuple zlen zisinstance zbool GD GG GSl GFw GRw GLk GDe GLf GTo GIc
end K82
open PySem PySem.W PyProof.Rows
namespace PySem.W.Fast
theorem tw10141650116218835666:True:=trivial
theorem tw10651861828760539754:True:=trivial
theorem tw11208835275251802900:True:=trivial
theorem tw11489162247639871439:True:=trivial
theorem tw11522111995440791628:True:=trivial
theorem tw11970785239947712621:True:=trivial
theorem tw12041387764501427783:True:=trivial
theorem tw12137725865770763241:True:=trivial
theorem tw1238460929245409420:True:=trivial
theorem tw12485120651810995090:True:=trivial
theorem tw12708154029794857600:True:=trivial
theorem tw14251729854366102538:True:=trivial
theorem tw14338575764552430002:True:=trivial
theorem tw14514422267825960612:True:=trivial
theorem tw14740172438295203163:True:=trivial
theorem tw14866873615112752580:True:=trivial
theorem tw15200359669063212405:True:=trivial
theorem tw15335901489673607860:True:=trivial
theorem tw16100363632062647414:True:=trivial
theorem tw16282992172497088131:True:=trivial
theorem tw16322258530623078400:True:=trivial
theorem tw16364012016466110878:True:=trivial
theorem tw16418841335632211212:True:=trivial
theorem tw16638813521837957140:True:=trivial
theorem tw16730617148647106883:True:=trivial
theorem tw16735413471641794087:True:=trivial
theorem tw17101238496466806648:True:=trivial
theorem tw17322818614094716657:True:=trivial
theorem tw17329738423820781709:True:=trivial
theorem tw17424673735042445329:True:=trivial
theorem tw17543792469477177371:True:=trivial
theorem tw18059799273311478445:True:=trivial
theorem tw18199703221775100523:True:=trivial
theorem tw2302895328966248732:True:=trivial
theorem tw2448023933841715650:True:=trivial
theorem tw2623966621248688565:True:=trivial
theorem tw2765519602671065252:True:=trivial
theorem tw2876894883852150940:True:=trivial
theorem tw3090223976432389734:True:=trivial
theorem tw4006420496940750345:True:=trivial
theorem tw4023929512517875632:True:=trivial
theorem tw4382846307943026967:True:=trivial
theorem tw4420401194344103690:True:=trivial
theorem tw4537572303952069888:True:=trivial
theorem tw4617076055260232418:True:=trivial
theorem tw4641463481762079738:True:=trivial
theorem tw4674858933184639752:True:=trivial
theorem tw4921990867252550648:True:=trivial
theorem tw5001805562736539827:True:=trivial
theorem tw5052705502652904235:True:=trivial
theorem tw5076876915122104264:True:=trivial
theorem tw5214567363407777783:True:=trivial
theorem tw5373696742252937644:True:=trivial
theorem tw5446212948253746600:True:=trivial
theorem tw5509357920388019945:True:=trivial
theorem tw5818707427963102412:True:=trivial
theorem tw6088768882310403498:True:=trivial
theorem tw619426836032650584:True:=trivial
theorem tw6405015763994933230:True:=trivial
theorem tw7185625907324609174:True:=trivial
theorem tw7596457685155379658:True:=trivial
theorem tw7694698919928842130:True:=trivial
theorem tw7818844999770725326:True:=trivial
theorem tw8102422769310909905:True:=trivial
theorem tw854587020879230203:True:=trivial
theorem tw8626717096975910808:True:=trivial
theorem tw9577654940180998584:True:=trivial
theorem tw9926871211927225959:True:=trivial
end PySem.W.Fast
set_option maxRecDepth 100000 in
set_option maxHeartbeats 0 in
theorem PySem.Challenge.cw_leastrow_k82_cheap_or_not_holds : PySem.Challenge.rw_leastrow_k82_cheap_or_not.Holds := by
 w_on;o_law;k_head;(case hw=>w_witness2)
 k_fill
 refine DL.walkD (l:=PySem.Challenge.rw_leastrow_k82_cheap_or_not) (k:=12) (x:="_law_script") rfl rfl ⟨rfl,by decide,by decide,rfl⟩ (λw h Y=>PySem.W.kIn_of Y) ?F
 case F=>
  intro w mg fa h KX G hmg;refine' K82.all_mk KX G hmg ?aIc ?lIc ?cIc ?kIc ?tIc ?aL ?lL ?cL ?kL ?zrange ?ztuple ?zenumerate ?zlen ?zmin ?zlist ?zsorted ?zsum ?zisinstance ?zbool ?aBY ?lBY ?amst ?aCN ?xex ?xnw ?aSh ?iSh ?fSh ?lSh ?cSh ?kSh ?pgSh ?hdSh ?poSh ?saSh ?mkSh ?kcSh ?nZSh ?nSSh ?nMSh ?iBu ?fBu ?lBu ?cBu ?kBu ..
  (case aIc|lIc|cIc|kIc|tIc|aL|lL|cL|kL|aBY|lBY|amst|aCN|aSh|iSh|fSh|lSh|cSh|kSh|pgSh|hdSh|poSh|saSh|mkSh|kcSh|nZSh|nSSh|nMSh|iBu|fBu|lBu|cBu|kBu=>k_is);(case zrange|ztuple|zenumerate|zlen|zmin|zlist|zsorted|zsum|zisinstance|zbool=>refine' PySem.W.mg_none_of KX G ?a;(case a=>k_is));(case xex=>k_exc);(case xnw=>kts_exm)
  any_goals (refine' DL.FI.mk KX G ?a ?l ?c ?k;(case a|l|c|k=>k_is))
  any_goals (refine' DL.FID.mk KX G ?a ?l ?c ?k ?t;(case a|l|c|k|t=>k_is))
