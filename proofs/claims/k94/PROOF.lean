import PyProof.Rows.All
import Wide.All
import OpenK.AllK
import Wide.FinOn
import Lean
import PyProof.EqAt
import PyProof.EqKinds
import PyProof.TupleCall
import PySem.Challenge.RW_leastrow_k94_whole_rows_made_cheaper_tur
set_option Elab.async false
set_option linter.all false
set_option maxRecDepth 100000
open PySem renaming wpAny_bind→AA,wpAny_pure→AB,starEach→AC,Program→AD,wpAny→AE,model→AF,sizeLine→AH,World→AI,wpAny_Call_Name_kw→AJ,wpAny_newObj_type→AK,FuncData→AL,cLine→AM,mainGlobals→AN,compareOp→AO,wpAny_call_entry→AQ,behindInMarks→AR,wpAny_callSpecial?_slot→AS,wpAny_holding→AT,sizeLine_eq→AU,sysModules→AV,builtinLookup_eq_fast→AW,swapsWith→AX,isSubtype_type→AY,codeAny_builtin→Aa,argBest→Ab,tupleKind_room_in1→Ac,attributeBase→Ad,backTo→Ae,wpAny_mono→Af,binaryOp→Ag,codeAny_mono→Ah,tupleKind→Ai,wpAny_ite_split→Aj,wpAny_typeNameOfWhole_keyiter→Ak,wpAny_dictEntries→Al,typeLookup_type→Am,bootBuiltins→An,wpAny_of_eq→Ao,wpAny_setField→Ap,rawInt→Aq,wpAny_passesOwn→Ar,wpAny_specialOf→As,codeAny→At,wpAny_setState_of→Au,plainId_quiet→Av,wpAny_isInstance→Aw,size_of_entries→Ax,wpAny_notOrdered_dict→Ay,wpAny_truthy_bool→Az,foldedSetIterable→BA,assignEach→BB,wpAny_field→BC,firstArgMember→BD,wpAny_askSetting→BE,wpAny_attempt→BF
open Inhabited renaming default→AG
open PyProof.Rows renaming seqObj→AZ,get?_update_seq→BG
open PySem.W renaming Frag→aA,instObj→cN,keepIn→cU,fnOf→cV,findIn→dF,kia_one→eQ,emptyDict→fD,codeIn→fE,mg_of→jI,nsIn→kB,plainGet→kK,kitOne→lY,hasDictIn→mN,isFn→oH,lookIn→pJ,plainGet_of→qI,callWith_K→rE,methodObj→tG,plainOver→tH,takerIn→vF,makesIn→vG
open List renaming length_map→aB,mem_cons_of_mem→aE,mem_singleton→aF,mem_cons_self→aH,getElem?_eq_some_iff→aI,mem_map→aJ,size_toArray→aK,map_map→aN,length_append→aP,mem_cons→aU,map_cons→aV,range→aW,mem_append_right→aX,getElem?_map→aY,map_append→aZ,mem_append→bC,mem_range→bE,getD→bF,mem_of_getElem?→bH,nodup_append→bJ,length_cons→bP,map_congr_left→bQ,filter_eq_self→bS,nodup_cons→bX,mem_append_left→cA,append_nil→cH,mem_singleton_self→cQ,mem_filter→cS,all_eq_true→cW,nodup_nil→dA,getElem?_eq_getElem→dC,length_take→dD,length_range→dE,zip_cons_cons→dH,getElem?_eq_none→dJ,mem_flatMap→dN,not_mem_nil→dO,eraseIdx_eq_take_drop_succ→dQ,mem_of_mem_take→dR,eq_nil_of_length_eq_zero→dS,take_length→dW,map_nil→eA,foldl_append→eB,mem_of_mem_drop→eC,lookup_cons→eF,take_add_one→eK,length_drop→eX,getElem?_of_mem→eY,replicate→fF,findSome?_eq_none_iff→fG,length_nil→fJ,drop_eq_getElem_cons→fN,length_filter_le→fO,getElem_mem→fP,getElem_map→fQ,append_assoc→fX,length_reverse→fZ,take_of_length_le→gA,map_take→gC,map_drop→gD,take_append_drop→gE,getElem?_append_left→gJ,find?_cons→gL,getElem?_set_ne→gO,pairwise_map→gP,exists_of_findSome?_eq_some→gQ,getElem_of_mem→gX,nodup_range→gY,ext_getElem→gZ,lookup→iW,toArray→jB,length_pos_iff→jJ,any_cons→jP,mem_of_mem_eraseIdx→jQ,length_zip→jT,pairwise_cons→jU,getElem?_set_self→kF,drop_of_length_le→kG,ext_getElem?→kH,contains_iff_mem→kX,getElem_inj→kZ,map_id→lD,getElem?_concat_length→lZ,mem_of_find?_eq_some→mX,reverse_cons→nH,perm_middle→oM,range_succ→pF,set_getElem_self→pZ,getElem?_reverse→qA,eraseIdx_sublist→qB,length→qM,filterMap_cons→rG,getElem?_range→rH,mem_map_of_mem→rJ,filter_append→tI,find?_eq_none→tJ,getElem_range→tK,set_eq_take_append_cons_drop→uQ,filter_congr→uX,map_inj_left→uY,any_eq_true→vY,drop_length→vZ,of_mem_zip→yU,dropLast_concat_getLast→yV,sum_append→yW,idxOf_lt_length_of_mem→zO
open PySem.Heap renaming get?_push_of_some→aD,lt_size→aO,get?_push_size→aS,get?_update_other→cP,get?_update_self→cX,size_push→mM,size_update→oN
open Nat renaming le_refl→aR,ne_of_lt→bM,le_trans→bZ,lt_of_lt_of_le→cB,zero_le→cD,le_of_lt→dL,lt_irrefl→dZ,lt_of_le_of_lt→eD,le_succ→fK,ne_of_gt→iE,lt_or_eq_of_le→iF,le_of_ble_eq_true→iS,pow_le_pow_right→jA,lt_succ_self→jG,lt_succ_of_lt→nJ,succ_le_succ→oP,le_of_eq→pG,min_self→pH,le_of_lt_succ→vE,min_eq_left→zP,strongRecOn→zQ
open Bool renaming false_ne_true→bO,and_eq_true→bR,false_eq_true→cJ,eq_iff_iff→gM,beq_eq_decide_eq→qC,true_and→tF,not_eq_false'→tO,not_eq_true'→uZ,or_eq_true→yX
open Option renaming some→bY,map_eq_some_iff→eE,isSome_map→tM,map_some→wB
open Int renaming toNat_natCast→cF,emod_lt_of_pos→cK,emod_nonneg→dG,ofNat→eZ,ne_of_gt→gR,zero_add→jH,toNat_of_nonneg→mC,toNat→rK,natAbs_natCast→uR
open Array renaming length_toList→cZ,getElem?_toList→eM,getD_eq_getD_getElem?→iK,toList_inj→oF,getD→oQ,getElem_mem→uS
open PySem.F renaming plainAttrs_list→gW,args_tuple_add_2→mU,slot_list_append→mV,type_list_append→mW,entry_tuple_add→nI,slot_tuple_add→oI,slot_dict_setdefault→vH,slot_dict_getitem→yY
open PySem.SetTable renaming below→wC
open List renaming length_eraseIdx_of_lt→aAC,nodup_iff_pairwise_ne→aAD,getElem?_zip_eq_some→aAG,take_zero→aAH,findIdx?_eq_none_iff→aAI,length_eq_zero_iff→aCM,pairwise_singleton→aCN,sum_cons→aCO,range_succ_eq_map→aDI,cons→aDJ,length_eraseIdx→aHc,pairwise_append→aHd,take_succ_cons→aHj,findSome?_cons→aHk,flatMap_append→aHl,mem_filterMap→aJB,getElem?_set→aKX,map_reverse→aNo,nil_append→aNB,length_set→aNC,zip_append→aND,filter_map→aNE,drop_drop→aPR,all_cons→aQh,findIdx?→aQi,map_id'→aRU
open PySem.F renaming plainAttrs_dict→aAE,plain_list_iadd→aAF,slot_dict_pop→aBG
open Int renaming fdiv_eq_ediv_of_nonneg→aAJ
open Bool renaming false_and→aAK,eq_false_iff→aKY,and_false→aPT
open PySem.W renaming cellsFrom_some→aAL,specialIn→aHg,kitx_list→aHh,kitx_dict→aHi,handedIn→aHp
open Option renaming map_eq_none_iff→aBF,isNone_some→aHf,map→aHo,getD_none→aJC,map_map→aNp,none→aQk
open Nat renaming not_lt→aCP,succ_mul→aHe,le_sub_one_of_lt→aHm,mul_le_mul_right→aHn,le_of_not_lt→aNF,not_lt_zero→aPS,mul_le_mul→aQj,zero_add→aSJ
open Array renaming mem_toList_iff→aDK,toList→aQl
open PySem.SetTable renaming insertAt→aDL,grown→aJD
open PySem.Heap renaming get?_push_ne→aKZ
open PySem renaming Value→BH,Shared→BI,Addr→BJ,Around→BK,Heap→BL,Obj→BM,Stmt→BN,SetTable→BP
open PyProof.Rows renaming SortSt→BO
namespace L2
open PySem PySem.Spec PyProof.Rows
noncomputable abbrev Key:=Sum Int Str
noncomputable def aCR:Key->BH->Bool
 |.inl k,v=>Value.isInt k v
 |.inr x,v=>Value.isStrOf x v
noncomputable def keyH(w:AI):Key->Int
 |.inl k=>hashInt k
 |.inr x=>hashStr w x
theorem gG:∀ {k:Key}{v:BH},aCR k v=true->(∃i t,k=Sum.inl i/\v=Value.int i t)\/(∃x t,k=Sum.inr x/\v=Value.str x t)
 |.inl i,v,h=>by obtain⟨t,e⟩:=Value.isInt_shape (k:=i) (v:=v) h;exact .inl ⟨i,t,rfl,e⟩
 |.inr x,v,h=>by obtain⟨t,e⟩:=Value.isStrOf_shape (x:=x) (v:=v) h;exact .inr ⟨x,t,rfl,e⟩
theorem aGn(i:Int)(t:Tok):aCR (.inl i) (.int i t)=true:=by simp[aCR,Value.isInt]
theorem aGz(x:Str)(t:Tok):aCR (.inr x) (.str x t)=true:=by simp[aCR,Value.isStrOf]
theorem aOG(a b:Int):decide ((Sum.inl a:Key)=Sum.inl b)=(a==b):=by
 by_cases e:a=b
 ·subst e;simp
 ·have h:¬ (Sum.inl a:Key)=Sum.inl b:=λq=>e (Sum.inl.inj q)
  rw[decide_eq_false h];exact(beq_eq_false_iff_ne.mpr e).symm
theorem aPB(a b:Str):decide ((Sum.inr a:Key)=Sum.inr b)=decide (a=b):=by
 by_cases e:a=b
 ·subst e;simp
 ·have h:¬ (Sum.inr a:Key)=Sum.inr b:=λq=>e (Sum.inr.inj q)
  rw[decide_eq_false h,decide_eq_false e]
theorem aPz(a:Int)(b:Str):decide ((Sum.inl a:Key)=Sum.inr b)=false:=decide_eq_false λq=>nomatch q
theorem aPw(a:Str)(b:Int):decide ((Sum.inr a:Key)=Sum.inl b)=false:=decide_eq_false λq=>nomatch q
noncomputable def eP(prog:AD)(w:AI):PySem.KeyKind prog w Key where
 is:=aCR
 hash:=keyH w
 inj:=λv a b ha hb=>by
  rcases gG ha with⟨i,t,rfl,rfl⟩|⟨x,t,rfl,rfl⟩
  ·rcases gG hb with⟨j,u,rfl,e⟩|⟨y,u,rfl,e⟩
   ·injection e with e1 _;rw[e1]
   ·exact nomatch e
  ·rcases gG hb with⟨j,u,rfl,e⟩|⟨y,u,rfl,e⟩
   ·exact nomatch e
   ·injection e with e1 _;rw[e1]
 byValue:=λk v h=>by rcases gG h with⟨i,t,rfl,rfl⟩|⟨x,t,rfl,rfl⟩<;>rfl
 pyHash:=λhv h=>by
  rcases gG hv with⟨i,t,rfl,rfl⟩|⟨x,t,rfl,rfl⟩
  ·exact wpAny_pyHash_int h
  ·exact wpAny_pyHash_str h
 eqBool:=λhu hv h=>by
  rcases gG hu with⟨i,t,rfl,rfl⟩|⟨x,t,rfl,rfl⟩
  ·rcases gG hv with⟨j,u,rfl,rfl⟩|⟨y,u,rfl,rfl⟩
   ·rw[aOG] at h;exact wpAny_eqBool_int h
   ·rw[aPz] at h;exact SeqAt.EqAt.int_str i t y u _ _ _ _ h
  ·rcases gG hv with⟨j,u,rfl,rfl⟩|⟨y,u,rfl,rfl⟩
   ·rw[aPw] at h;exact SeqAt.EqAt.str_int x t j u _ _ _ _ h
   ·rw[aPB] at h;exact wpAny_eqBool_str h
 «strs»:=λk x t v h=>by
  rcases gG h with⟨i,u,rfl,e⟩|⟨y,u,rfl,e⟩
  ·exact nomatch e
  ·injection e with e1 _
   subst e1;cases v<;>rfl
theorem aBB(prog:AD)(w:AI)(i:Int)(t:Tok):(eP prog w).is (.inl i) (.int i t)=true:=aGn i t
theorem aBw(prog:AD)(w:AI)(x:Str)(t:Tok):(eP prog w).is (.inr x) (.str x t)=true:=aGz x t
inductive V where
 |non|bl (b:Bool)|int (i:Int)|str (x:Str)|byt (b:Array UInt8)|flt (b:UInt64)|ref (a:BJ)|ty (n:String)
 deriving DecidableEq
noncomputable def RelV:V->BH->Prop
 |.non,u=>u=Value.none
 |.bl b,u=>u=Value.bool b
 |.int i,u=>∃t,u=Value.int i t
 |.str x,u=>∃t,u=Value.str x t
 |.byt b,u=>∃t,u=Value.bytes b t
 |.flt b,u=>∃t,u=Value.float b t
 |.ref a,u=>u=Value.ref a
 |.ty n,u=>u=Value.type n
abbrev Vals:List V->List BH->Prop:=Paired RelV
theorem Vals.length{xs:List V}{us:List BH}(r:Vals xs us):xs.length=us.length:=Paired.length r
theorem Vals.get:∀ {xs:List V}{us:List BH}{i:Nat}{x:V},Vals xs us->xs[i]? =some x->∃u,us[i]? =some u/\RelV x u
 |_,_,_,_,.nil,e=>by simp at e
 |_,_,0,_,.cons r _,e=>by simp at e;subst e;exact⟨_,rfl,r⟩
 |_,_,i+1,x,.cons _ t,e=>by obtain⟨u,h1,h2⟩:=Vals.get (i:=i) (x:=x) t (by simpa using e);exact⟨u,by simpa using h1,h2⟩
theorem Vals.append:∀ {xs ys:List V}{us ws:List BH},Vals xs us->Vals ys ws->Vals (xs++ys) (us++ws)
 |_,_,_,_,.nil,s=>s
 |_,_,_,_,.cons r t,s=>.cons r<|Vals.append t s
theorem Vals.take:∀ {xs:List V}{us:List BH} (n:Nat),Vals xs us->Vals (xs.take n) (us.take n)
 |_,_,0,_=>.nil
 |_,_,_+1,.nil=>.nil
 |_,_,n+1,.cons r t=>.cons r<|Vals.take n t
theorem Vals.drop:∀ {xs:List V}{us:List BH} (n:Nat),Vals xs us->Vals (xs.drop n) (us.drop n)
 |_,_,0,r=>r
 |_,_,_+1,.nil=>.nil
 |_,_,n+1,.cons _ t=>Vals.drop n t
noncomputable def RelO:Option V->Option BH->Prop
 |some v,some u=>RelV v u
 |none,none=>True
 |_,_=>False
def KV{κ:Type}:List (κ×V)->List (κ×BH)->Prop:=Paired λ(p:κ×V) (q:κ×BH)=>p.1=q.1/\RelV p.2 q.2
noncomputable def kV:Key->V
 |.inl i=>.int i
 |.inr x=>.str x
inductive HO where
 /-- a list -/
 |lst (xs:List V)
 /-- a tuple (never changes) -/
 |tup (xs:List V)
 /-- a dict whose keys are ints and texts;one whose keys are tuples of ints and texts (the empty one is both) -/
 |dK (kvs:List (Key×V))|dT (kvs:List (List Key×V))
 /-- a set of ints:its members,its size -/
 |set (S:Int->Bool) (n:Nat)
 /-- an instance of the class at C,its dict at dx,its attributes -/
 |ins (C dx:BJ) (fs:List (Str×V))
 /-- the dict of the instance at x -/
 |own (x:BJ)
 /-- the dict of an exception -/
 |xd (fs:List (Str×V))
 /-- a bound method,f of x -/
 |met (f x:BJ)
 /-- a range object lo,lo+1, .. below hi -/
 |rng (lo hi:Int)
 /-- a thing that is known to the object (the script;a dict while a loop walks it):read,never written while it is so -/
 |frz (o:BM) (u:HO)
 /-- a code object's table -/
 |tbl (ps:Array BH)
 /-- any other thing,by what is true of its one object (a def of one's own:SetO a S n:=HO.ext λh=> ..) -/
 |ext (φ:BL->Prop)
noncomputable abbrev Hp:=BJ->Option HO
noncomputable def upd(H:Hp)(a:BJ)(o:HO):Hp:=λb=>if b=a then some o else H b
theorem bL{H:Hp}{a:BJ}{o:HO}:upd H a o a=some o:=by unfold upd;rw[if_pos rfl]
theorem bD{H:Hp}{a b:BJ}{o:HO}(h:b≠a):upd H a o b=H b:=by unfold upd;rw[if_neg h]
theorem aRn{H:Hp}{a b:BJ}{o u:HO}(h:H a=some o)(h':H b=some u)(d:o≠u):a≠b:=by intro e;subst e;rw[h] at h';exact d<|bY.inj h'
theorem cE{H:Hp}{a b:BJ}{o:HO}(h:H a=some o)(h':H b=none):a≠b:=by intro e;subst e;rw[h] at h';cases h'
def IsTupD(h:BL)(a:BJ)(items:Array BH):Prop:=∃o,h.get? a=some o/\o.cls=.type "tuple"/\(∃n,o.data=.seq items n)/\o.dict=none
theorem IsTupD.tup{h:BL}{a:BJ}{items:Array BH}(x:IsTupD h a items):IsTup h a items:=let ⟨o,e,c,d,_⟩:=x;⟨o,e,c,d⟩
theorem IsTupD.new(h:BL)(items:Array BH):IsTupD (h.push {cls:=.type "tuple",data:=.seq items}) h.objs.size items:=⟨_,aS _ rfl,rfl,⟨_,rfl⟩,rfl⟩
variable (P:AD)(w:AI)
noncomputable def ObjOk(H:Hp)(h:BL)(a:BJ):HO->Prop
 |.lst xs=>xs.length<=AH/\∃ (its:List BH) (n:Nat),Vals xs its/\h.get? a=some {cls:=.type "list",data:=.seq its.toArray n}
 |.tup xs=>xs.length<=AH/\∃its:List BH,Vals xs its/\IsTupD h a its.toArray
 |.dK kvs=>kvs.length<=AH/\(a==AV)=false/\∃vs,KV kvs vs/\h.DictOf (eP P w) a vs
 |.dT kvs=>kvs.length<=AH/\(a==AV)=false/\∃xs:List (List Key×BJ×BH),
   Paired (λ(p:List Key×V) (q:List Key×BJ×BH)=>p.1=q.1/\H q.2.1=some (.tup<|p.1.map kV)/\RelV p.2 q.2.2) kvs xs/\
   ∃o es ep,h.get? a=some o/\o.ExactDict/\o.data=.dict es ep/\es.toList=xs.map (entryOfKey (Ai<|eP P w))/\(xs.map (·.1)).Nodup
 |.set S n=>h.SetOf (intKind P w) a S n
 |.ins C dx fs=>H dx=some (.own a)/\fs.length<=1000/\dx≠a/\h.get? a=some (cN C dx)/\
   ∃mA,h.Ns1 dx mA/\(∀f,RelO (fs.lookup f)<|mA f)/\PySem.Within mA (fs.map (·.1))
 |.own _=>∃o,h.get? a=some o
 |.xd fs=>∃mA,h.Ns1 a mA/\∀f,RelO (fs.lookup f)<|mA f
 |.rng lo hi=>∃t u v,h.get? a=some {cls:=.type "range",data:=.fields #[.int lo t,.int hi u,.int 1 v]}
 |.frz o u=>h.get? a=some o/\ObjOk H h a u
 |.tbl ps=>h.get? a=some {cls:=.none,data:=.fields ps}
 |.met f x=>h.get? a=some (tG (.ref f)<|.ref x)
 |.ext φ=>φ h/\(∃o,h.get? a=some o)/\∀h1 h2:BL,φ h1->(∀o,h1.get? a=some o->h2.get? a=some o)->φ h2
def HOk(H:Hp)(h:BL):Prop:=∀a o,H a=some o->ObjOk P w H h a o
variable {P:AD}{w:AI}{H H':Hp}{h h':BL}{a:BJ}{o:HO}
theorem ObjOk.lt(x:ObjOk P w H h a o):a<h.objs.size:=by
 cases o with
 |lst xs=>obtain⟨_,_,_,_,e⟩:=x;exact aO e
 |tup xs=>obtain⟨_,_,_,p⟩:=x;exact p.tup.lt
 |dK kvs=>obtain⟨_,_,_,_,o,_,_,e,_⟩:=x;exact aO e
 |dT kvs=>obtain⟨_,_,_,_,o,_,_,e,_⟩:=x;exact aO e
 |set S n=>obtain⟨o,_,_,_,e,_⟩:=x;exact aO e
 |ins C dx fs=>obtain⟨_,_,_,e,_⟩:=x;exact aO e
 |own y=>obtain⟨_,e⟩:=x;exact aO e
 |xd fs=>obtain⟨_,⟨_,_,_,e,_⟩,_⟩:=x;exact aO e
 |rng lo hi=>obtain⟨_,_,_,e⟩:=x;exact aO e
 |frz ob u=>obtain⟨e,_⟩:=x;exact aO e
 |tbl ps=>exact aO (show h.get? a=some _ from x)
 |met f y=>exact aO (show h.get? a=some _ from x)
 |ext φ=>obtain⟨_,⟨_,e⟩,_⟩:=x;exact aO e
theorem Paired.mapP{α β:Type}{F G:α->β->Prop}:∀ {l₁:List α}{l₂:List β},Paired F l₁ l₂->(∀a b,F a b->G a b)->Paired G l₁ l₂
 |_,_,.nil,_=>.nil
 |_,_,.cons r t,f=>.cons (f _ _ r)<|Paired.mapP t f
theorem ObjOk.stay(x:ObjOk P w H h a o)(k:∀b u,(b=a\/H b=some (.own a))->h.get? b=some u->h'.get? b=some u)
  (ho:∀b,H b=some (.own a)->H' b=some (.own a)) (ht:∀b xs,H b=some (.tup xs)->H' b=some (.tup xs)):ObjOk P w H' h' a o:=by
 induction o with
 |lst xs=>obtain⟨z,its,n,r,e⟩:=x;exact⟨z,its,n,r,k _ _ (.inl rfl) e⟩
 |tup xs=>obtain⟨z,its,r,ob,e,c⟩:=x;exact⟨z,its,r,ob,k _ _ (.inl rfl) e,c⟩
 |dK kvs=>obtain⟨z,y,vs,r,ob,es,ep,e,c⟩:=x;exact⟨z,y,vs,r,ob,es,ep,k _ _ (.inl rfl) e,c⟩
 |dT kvs=>obtain⟨z,y,xs,r,ob,es,ep,e,c⟩:=x;exact⟨z,y,xs,Paired.mapP r λp q z=>⟨z.1,ht _ _ z.2.1,z.2.2⟩,ob,es,ep,k _ _ (.inl rfl) e,c⟩
 |set S n=>obtain⟨ob,es,ep,t,e,c⟩:=x;exact⟨ob,es,ep,t,k _ _ (.inl rfl) e,c⟩
 |ins C dx fs=>obtain⟨d,z,ne,e,mA,⟨od,es,ep,e2,c⟩,r⟩:=x;exact⟨ho _ d,z,ne,k _ _ (.inl rfl) e,mA,⟨od,es,ep,k _ _ (.inr d) e2,c⟩,r⟩
 |own y=>obtain⟨ob,e⟩:=x;exact⟨ob,k _ _ (.inl rfl) e⟩
 |xd fs=>obtain⟨mA,⟨od,es,ep,e,c⟩,r⟩:=x;exact⟨mA,⟨od,es,ep,k _ _ (.inl rfl) e,c⟩,r⟩
 |rng lo hi=>obtain⟨t,u,v,e⟩:=x;exact⟨t,u,v,k _ _ (.inl rfl) e⟩
 |frz ob u ih=>obtain⟨e,q⟩:=x;exact⟨k _ _ (.inl rfl) e,ih q⟩
 |tbl ps=>have e:h.get? a=some {cls:=.none,data:=.fields ps}:=x;show h'.get? a=some {cls:=.none,data:=.fields ps};exact k a _ (.inl rfl) e
 |met f y=>have e:h.get? a=some (tG (.ref f)<|.ref y):=x;show h'.get? a=some (tG (.ref f)<|.ref y);exact k a _ (.inl rfl) e
 |ext φ=>obtain⟨p,⟨o,e⟩,st⟩:=x;exact⟨st _ _ p λo q=>k _ _ (.inl rfl) q,⟨o,k _ _ (.inl rfl) e⟩,st⟩
theorem HOk.lt(x:HOk P w H h)(e:H a=some o):a<h.objs.size:=(x a o e).lt
theorem HOk.fresh(x:HOk P w H h)(e:h.objs.size<=a):H a=none:=by
 cases q:H a with
 |none=>rfl
 |some u=>exact absurd (cB (x.lt q) e)<|dZ _
theorem HOk.kept(x:HOk P w H h)(k:∀b u,h.get? b=some u->h'.get? b=some u):HOk P w H h':=λa o e=>(x a o e).stay (λb u _ q=>k b u q) (λ_ q=>q) λ_ _ q=>q
theorem HOk.laid(x:HOk P w H h)(k:∀b u,h.get? b=some u->h'.get? b=some u)(hp:h.objs.size<=a)(new:ObjOk P w (upd H a o) h' a o):HOk P w (upd H a o) h':=λb u e=>by
 have hn:=x.fresh hp
 by_cases hb:b=a
 ·subst hb;rw[bL] at e;cases e;exact new
 ·rw[bD hb] at e;exact(x b u e).stay (λc v _ q=>k c v q) (λc q=>by rw[bD<|cE q hn];exact q) λc xs q=>by rw[bD<|cE q hn];exact q
def Rd(H:Hp)(a:BJ)(u:HO):Prop:=H a=some u\/∃o,H a=some (.frz o u)
theorem Rd.of{u:HO}(h:H a=some u):Rd H a u:=.inl h
theorem Rd.ok{u:HO}(r:Rd H a u)(x:HOk P w H h):ObjOk P w H h a u:=by
 rcases r with r|⟨o,r⟩
 ·exact x a u r
 ·obtain⟨_,q⟩:=x a _ r;exact q
noncomputable def Mut:Option HO->Prop
 |some (.lst _)=>True
 |some (.dK _)=>True
 |some (.dT _)=>True
 |some (.set _ _)=>True
 |some (.ins _ _ _)=>True
 |some (.ext _)=>True
 |_=>False
variable {x e:BJ}{o':HO}
theorem HOk.write(ok:HOk P w H h)(mu:Mut (H x))(he:e=x\/H e=some (.own x))(k:∀b u,b≠e->h.get? b=some u->h'.get? b=some u)(heo:∃u,h'.get? e=some u)
  (new:ObjOk P w (upd H x o') h' x o'):HOk P w (upd H x o') h':=λb u q=>by
 have nown:∀c y,H c=some (.own y)->c≠x:=λc y r z=>by subst z;rw[r] at mu;exact mu
 have ntup:∀c xs,H c=some (.tup xs)->c≠x:=λc xs r z=>by subst z;rw[r] at mu;exact mu
 by_cases hb:b=x
 ·subst hb;rw[bL] at q;cases q;exact new
 ·rw[bD hb] at q
  by_cases hbe:b=e
  ·have q':H b=some (.own x):=by
    rcases he with z|z
    ·exact absurd (hbe.trans z) hb
    ·rw[hbe];exact z
   rw[q] at q';cases q';obtain⟨v,hv⟩:=heo;exact⟨v,by rw[hbe];exact hv⟩
  ·refine(ok b u q).stay (λc v hc r=>k c v ?_ r) (λc r=>by rw[bD<|nown c b r];exact r) λc xs r=>by rw[bD<|ntup c xs r];exact r
   rcases hc with rfl|hc
   ·exact hbe
   ·rintro rfl
    rcases he with z|z
    ·exact nown c b hc z
    ·rw[hc] at z;cases z;exact hb rfl
structure Un(fs ex:List BJ)(H H':Hp)(h h':BL):Prop where
 keep:∀b o,h.get? b=some o->H b=none->b∉fs->b∉ex->h'.get? b=some o
 slot:∀b o,h.get? b=some o->H b=none->b∈fs->b∉ex->∃sl,h'.get? b=some {o with slots:=sl}
 free:∀b o,h.get? b=some o->H b=none->b∉ex->H' b=none
 there:∀b o,h.get? b=some o->b∉ex->∃o',h'.get? b=some o'
 tups:∀b xs,H b=some (.tup xs)->H' b=some (.tup xs)
 frzs:∀b o u,H b=some (.frz o u)->H' b=some (.frz o u)
 tbls:∀b ps,H b=some (.tbl ps)->∃more,H' b=some (.tbl<|ps++more)
section
variable {fs fs' ex ex':List BJ}{H H1 H2:Hp}{h h1 h2 h':BL}{a x e:BJ}{o:HO}
theorem Un.any(u:Un fs ex H H1 h h1){b:BJ}{ob:BM}(q:h.get? b=some ob)(n:H b=none)(hx:b∉ex):∃sl,h1.get? b=some {ob with slots:=sl}:=by
 by_cases hb:b∈fs
 ·exact u.slot b ob q n hb hx
 ·exact⟨ob.slots,u.keep b ob q n hb hx⟩
theorem Un.kept(k:∀b u,h.get? b=some u->h'.get? b=some u):Un fs ex H H h h':=
 ⟨λb ob q _ _ _=>k b ob q,λb ob q _ _ _=>⟨ob.slots,k b ob q⟩,λ_ _ _ n _=>n,λb ob q _=>⟨ob,k b ob q⟩,λ_ _ q=>q,λ_ _ _ q=>q,λ_ ps q=>⟨#[],by rw[q];simp⟩⟩
theorem Un.refl:Un fs ex H H h h:=Un.kept λ_ _ q=>q
theorem Un.laid(k:∀b u,h.get? b=some u->h'.get? b=some u)(hp:h.objs.size<=a)(hn:H a=none):Un fs ex H (upd H a o) h h' where
 keep:=λb u q _ _ _=>k b u q
 slot:=λb u q _ _ _=>⟨u.slots,k b u q⟩
 free:=λb u q n _=>by rw[bD (bM<|cB (aO q) hp)];exact n
 there:=λb u q _=>⟨u,k b u q⟩
 tups:=λb xs q=>by rw[bD<|cE q hn];exact q
 frzs:=λb u xs q=>by rw[bD<|cE q hn];exact q
 tbls:=λb ps q=>⟨#[],by rw[bD<|cE q hn,q];simp⟩
theorem Un.write(mu:Mut (H x))(he:e=x\/H e=some (.own x))(k:∀b u,b≠e->h.get? b=some u->h'.get? b=some u)(heo:∃u,h'.get? e=some u):Un fs ex H (upd H x o) h h':=by
 have hx:∀b,H b=none->b≠x:=λb n z=>by subst z;rw[n] at mu;exact mu
 have hb:∀b,H b=none->b≠e:=λb n z=>by
  subst z
  rcases he with r|r
  ·exact hx b n r
  ·rw[n] at r;cases r
 have hm:∀b u,H b=some u->¬ Mut (some u)->b≠x:=λb u q nm z=>by subst z;rw[q] at mu;exact nm mu
 refine ⟨fun b u q n _ _=>k b u (hb b n) q,fun b u q n _ _=>⟨u.slots,k b u (hb b n) q⟩,fun b u q n _=>by rw [bD (hx b n)]; exact n,fun b u q _=> ?_,
  λb xs q=>by rw[bD (hm b _ q λz=>z)];exact q,λb u xs q=>by rw[bD (hm b _ q λz=>z)];exact q,λb ps q=>⟨#[],by rw[bD (hm b _ q λz=>z),q];simp⟩⟩
 by_cases hbe:b=e
 ·subst hbe;exact heo
 ·exact⟨u,k b u hbe q⟩
end
noncomputable def trk(h:BL)(H:Hp):List BJ:=(aW h.objs.size).filter λa=>(H a).isSome
noncomputable def aHq(h:BL)(H:Hp):BL:=PySem.W.hideAll h<|trk h H
theorem aGG(h:BL)(H:Hp):(aHq h H).objs.size=h.objs.size:=PySem.W.hideAll_size _ _
theorem aIG{b:BJ}{o:BM}(e:h.get? b=some o)(n:H b=none):(aHq h H).get? b=some o:=
 PySem.W.hideAll_get _ e λhm=>by have q:(H b).isSome=true:=(cS.mp hm).2;rw[n] at q;simp at q
theorem aMW{b:BJ}{o:BM}(e:(aHq h H).get? b=some o):h.get? b=some o/\H b=none:=by
 have e':h.get? b=some o:=PySem.W.of_hideAll (trk h H) e;refine⟨e', ?_⟩;cases q:H b with
 |none=>rfl
 |some x=>have hm:b∈trk h H:=cS.mpr ⟨bE.mpr<|aO e',by simp[q]⟩;have z:(aHq h H).get? b=none:=PySem.W.hideAll_none (trk h H) hm;rw[z] at e;cases e
noncomputable def aLW(g h:BL)(L:BJ):List (BJ×BM):=(aW h.objs.size).filterMap λa=>if a=L\/(g.get? a).isSome=true then none else(h.get? a).map λo=>(a,o)
noncomputable def rest(g h:BL)(L d:BJ):List (BJ×BM):=(aLW g h L).filter λp=>decide<|p.1≠d
structure Mod(K:aA)(mg:Str->Option BH)(base:BL):Prop where
 kin:K.In base
 glob:base.Ns AN mg
 blt:∃mb,base.Ns builtinsNs mb/\∀x:Str,x≠"__name__"->mb x=An x
 nolimit:base.NoLimit
noncomputable def rA:HO->Prop
 |.lst _=>False
 |.dK _=>False
 |.ext _=>False
 |_=>True
structure Cx where
 prog:AD
 w:AI
 K:aA
 mg:Str->Option BH
 base:BL
 A:BK
 N:List Str
 s₀:BI
 H₀:Hp
 env:Env
 outer:List Env
 stack:List Env
 ex:List BJ
 fn:Str->Bool
 calm:Bool
 pn:List (BJ×BM)
 xe:BH->BI->Prop
 B₀:Hp:=H₀
 hB:∀b o,H₀ b=some o->rA o->B₀ b=some o:=by intro b o e _;exact e
noncomputable def frs(l:List Env):List BJ:=l.filterMap (·.frame)
noncomputable abbrev Cx.fs(X:Cx):List BJ:=frs X.outer
def Vis(sc:Scope)(x:Str):Prop:=sc.names.lookup x=some .local\/sc.names.lookup x=some .cell\/sc.names.lookup x=some .free
def Loc(sc:Scope)(x:Str):Prop:=sc.names.lookup x=some .local\/sc.names.lookup x=some .cell
def Look(env:Env)(h:BL)(m:Str->Option BH)(x:Str)(u:BH):Prop:=
 (env.kindOf x=some .local/\m x=some u)\/((env.kindOf x=some .cell\/env.kindOf x=some .free)/\∃c,env.cells.lookup x=some c/\h.IsCell c (some u))
structure Cx.Ok(X:Cx):Prop where
 mod:Mod X.K X.mg X.base
 kind:X.env.scope.kind=.function
 glob:X.env.globals=AN
 blt:X.env.builtins=builtinsNs
 above:X.s₀.heap.objs.size<=X.env.locals
 inj:∀x y c,X.env.cells.lookup x=some c->X.env.cells.lookup y=some c->x=y
 has:∀x,(X.env.kindOf x=some .cell\/X.env.kindOf x=some .free)->∃c,X.env.cells.lookup x=some c
 cab:∀x c,X.fn x=true->X.env.cells.lookup x=some c->X.s₀.heap.objs.size<=c
 hd:X.calm=true->X.A.handled=none
 frames:X.A.frames=some X.stack
 stk:X.stack=X.outer\/(X.stack=X.env::X.outer/\X.env.frame=some X.env.locals)
 exf:∀b∈X.ex,b≠X.env.locals/\∀x c,X.env.cells.lookup x=some c->c≠b
 bs:∀b o,X.base.get? b=some o->X.s₀.heap.get? b=some o/\X.H₀ b=none
 bsz:X.base.objs.size<=X.s₀.heap.objs.size
 noex:∀b o,X.base.get? b=some o->b∉X.ex
 exfs:∀b∈X.ex,b∉X.fs
 funs:X.s₀.heap.FunFrames X.base X.outer
 frf:∀b∈X.fs,X.H₀ b=none
structure Inv(X:Cx)(pins:List (BJ×BM))(σ:List (Option V))(H:Hp)(s:BI):Prop where
 ok:X.Ok
 os:s.os=X.s₀.os
 bare:AllBare s.gens
 base:Un X.fs X.ex X.H₀ H X.s₀.heap s.heap
 loc:∃m,s.heap.Ns X.env.locals m/\∀ (i:Nat) (x:Str) (v:V),X.N[i]? =some x->σ[i]? =some (some v)->Vis X.env.scope x->∃u,RelV v u/\Look X.env s.heap m x u
 cell:∀x c,X.env.cells.lookup x=some c->∃v,s.heap.IsCell c v
 free:H X.env.locals=none
 freeC:∀x c,X.env.cells.lookup x=some c->H c=none
 pin:∀p∈X.pn++pins,s.heap.get? p.1=some p.2/\H p.1=none/\p.1≠X.env.locals/\p.1∉X.fs/\∀v,p.2.data≠ .cell v
 hok:HOk X.prog X.w H s.heap
 len:σ.length=X.N.length
variable {X:Cx}{pins:List (BJ×BM)}{σ:List (Option V)}{s:BI}
theorem Cx.Ok.nofr(ok:X.Ok){b:BJ}{o:BM}(e:X.base.get? b=some o):b∉X.fs:=λhb=>by have:=(ok.funs.mem hb).1;rw[e] at this;cases this
theorem Inv.bs(I:Inv X pins σ H s):∀b o,X.base.get? b=some o->s.heap.get? b=some o/\H b=none:=λb o e=>⟨I.base.keep b o (I.ok.bs b o e).1 (I.ok.bs b o e).2 (I.ok.nofr e)<|I.ok.noex b o e,I.base.free b o (I.ok.bs b o e).1 (I.ok.bs b o e).2<|I.ok.noex b o e⟩
theorem Inv.bk(I:Inv X pins σ H s):∀b o,X.base.get? b=some o->s.heap.get? b=some o:=λb o e=>(I.bs b o e).1
theorem Inv.mod(I:Inv X pins σ H s):Mod X.K X.mg X.base:=I.ok.mod
theorem Inv.kIn(I:Inv X pins σ H s):X.K.In s.heap:=I.ok.mod.kin.keeps I.bk
theorem Inv.lt(I:Inv X pins σ H s):X.env.locals<s.heap.objs.size:=let ⟨_,hn,_⟩:=I.loc;hn.lt
theorem Inv.sz(I:Inv X pins σ H s):X.s₀.heap.objs.size<=s.heap.objs.size:=bZ I.ok.above<|dL I.lt
theorem Inv.nofs(I:Inv X pins σ H s)(h:s.heap.objs.size<=a):a∉X.fs:=λhb=>by obtain⟨_,o,ho,_⟩:=I.ok.funs.mem hb;exact absurd (cB (aO ho)<|bZ I.sz h)<|dZ _
theorem Inv.cne(I:Inv X pins σ H s):∀x c,X.env.cells.lookup x=some c->c≠X.env.locals:=λx c e z=>by obtain⟨v,o,ho,hd⟩:=I.cell x c e;obtain⟨m,⟨o',es,ep,ho',hd',_⟩,_⟩:=I.loc;rw[z,ho'] at ho;cases ho;rw[hd'] at hd;cases hd
theorem Inv.funs(I:Inv X pins σ H s):s.heap.FunFrames X.base X.outer:=by
 have all:∀ (l:List Env),(∀b∈frs l,b∈X.fs)->X.s₀.heap.FunFrames X.base l->s.heap.FunFrames X.base l:=by
  intro l
  induction l with
  |nil=>intro _ _;trivial
  |cons env r ih=>
   intro hs hl;obtain⟨hk,⟨L,o,hf,hn,ho,hd⟩,hr⟩:=hl;have hL:L∈X.fs:=hs L (by unfold frs;rw[rG,hf];exact aH);obtain⟨sl,e⟩:=I.base.slot L o ho (I.ok.frf L hL) hL λz=>I.ok.exfs L z hL
   exact⟨hk,⟨L,_,hf,hn,e,hd⟩,ih (λb hb=>hs b<|by unfold frs;rw[rG,hf];exact aE _ hb) hr⟩
 exact all X.outer (λ_ hb=>hb) I.ok.funs
theorem Inv.stack(I:Inv X pins σ H s):s.heap.FunFrames X.base X.stack:=by
 rcases I.ok.stk with e|⟨e,hf⟩
 ·rw[e];exact I.funs
 ·rw[e];obtain⟨m,hn,_⟩:=I.loc;refine .cons (by rw[I.ok.kind];decide) hf hn ?_ I.funs;exact Heap.get?_none_of_le<|bZ I.ok.bsz I.ok.above
theorem Inv.stkSub(I:Inv X pins σ H s):∀b∈frs X.stack,b∈X.env.locals::X.fs:=λb hb=>by
 rcases I.ok.stk with e|⟨e,hf⟩
 ·rw[e] at hb;exact aE _ hb
 ·rw[e] at hb;unfold frs at hb;rw[rG,hf] at hb;exact hb
theorem Inv.stkFree(I:Inv X pins σ H s):∀b∈frs X.stack,H b=none:=λb hb=>by
 rcases aU.mp (I.stkSub b hb) with e|hb
 ·rw[e];exact I.free
 ·obtain⟨_,o,ho,_⟩:=I.ok.funs.mem hb;exact I.base.free b o ho (I.ok.frf b hb) λz=>I.ok.exfs b z hb
theorem Inv.step{g':Array GenState}{t':Nat}{d':Drawn}{ch:List BJ}(I:Inv X pins σ H s)
  (hch:∀b∈ch,(b∈X.ex\/X.s₀.heap.objs.size<=b)/\b≠X.env.locals/\(∀x c,X.env.cells.lookup x=some c->c≠b)/\∀p∈X.pn++pins,p.1≠b)
  (keep:∀b o,b≠X.env.locals->b∉X.fs->b∉ch->s.heap.get? b=some o->H b=none->h'.get? b=some o)
  (slot:∀b o,b≠X.env.locals->b∈X.fs->b∉ch->s.heap.get? b=some o->H b=none->∃sl,h'.get? b=some {o with slots:=sl}) (free:∀b o,b∉ch->s.heap.get? b=some o->H b=none->H' b=none)
  (there:∀b o,b∉ch->s.heap.get? b=some o->∃o',h'.get? b=some o')
  (tups:∀b xs,H b=some (.tup xs)->H' b=some (.tup xs)) (frzs:∀b o u,H b=some (.frz o u)->H' b=some (.frz o u)) (tbls:∀b ps,H b=some (.tbl ps)->∃more,H' b=some (.tbl<|ps++more))
  (ns:∀m,s.heap.Ns X.env.locals m->h'.Ns X.env.locals m) (hok:HOk X.prog X.w H' h') (hg:AllBare g'):
  Inv X pins σ H' {s with heap:=h',gens:=g',drawn:=d',toks:=t'}:=by
 have neL:∀b o,X.s₀.heap.get? b=some o->b≠X.env.locals:=λb o e=>bM<|cB (aO e) I.ok.above
 have neC:∀b o,X.s₀.heap.get? b=some o->b∉X.ex->b∉ch:=λb o e hx hb=>by
  rcases(hch b hb).1 with z|z
  ·exact hx z
  ·exact absurd (cB (aO e) z)<|dZ _
 have cellK:∀x c,X.env.cells.lookup x=some c->∀v,s.heap.IsCell c v->h'.IsCell c v:=λx c e v ⟨o,ho,hd⟩=>by
  have nch:c∉ch:=λz=>(hch c z).2.2.1 x c e rfl
  by_cases hc:c∈X.fs
  ·obtain⟨sl,q⟩:=slot c o (I.cne x c e) hc nch ho<|I.freeC x c e;exact⟨_,q,hd⟩
  ·exact⟨o,keep c o (I.cne x c e) hc nch ho<|I.freeC x c e,hd⟩
 refine⟨I.ok,I.os,hg,⟨λb o e n hb hx=> ?_,λb o e n hb hx=> ?_,λb o e n hx=> ?_,λb o e hx=> ?_,λb xs e=>tups b xs<|I.base.tups b xs e,λb o xs e=>frzs b o xs<|I.base.frzs b o xs e,λb ps e=> ?_⟩, ?_,λx c e=> ?_, ?_,λx c e=> ?_,λp hp=> ?_,hok,I.len⟩
 ·exact keep b o (neL b o e) hb (neC b o e hx) (I.base.keep b o e n hb hx)<|I.base.free b o e n hx
 ·obtain⟨sl,e1⟩:=I.base.slot b o e n hb hx;obtain⟨sl',e2⟩:=slot b _ (neL b o e) hb (neC b o e hx) e1<|I.base.free b o e n hx;exact⟨sl',e2⟩
 ·obtain⟨o',e1⟩:=I.base.there b o e hx;exact free b o' (neC b o e hx) e1<|I.base.free b o e n hx
 ·obtain⟨o',e1⟩:=I.base.there b o e hx;exact there b o' (neC b o e hx) e1
 ·obtain⟨m1,e1⟩:=I.base.tbls b ps e;obtain⟨m2,e2⟩:=tbls b _ e1;exact⟨m1++m2,by rw[e2,Array.append_assoc]⟩
 ·obtain⟨m,hn,hl⟩:=I.loc;refine⟨m,ns m hn,λi x v e1 e2 e3=> ?_⟩;obtain⟨u,r,l⟩:=hl i x v e1 e2 e3;refine⟨u,r, ?_⟩
  rcases l with l|⟨k,c,e,z⟩
  ·exact .inl l
  ·exact .inr ⟨k,c,e,cellK x c e _ z⟩
 ·obtain⟨v,z⟩:=I.cell x c e;exact⟨v,cellK x c e v z⟩
 ·obtain⟨m,⟨o,_,_,ho,_⟩,_⟩:=I.loc;exact free _ o (λz=>(hch _ z).2.1 rfl) ho I.free
 ·obtain⟨v,o,ho,hd⟩:=I.cell x c e;exact free c o (λz=>(hch c z).2.2.1 x c e rfl) ho<|I.freeC x c e
 ·obtain⟨e,n,ne,nf,d⟩:=I.pin p hp;have nch:p.1∉ch:=λz=>(hch p.1 z).2.2.2 p hp rfl
  exact⟨keep p.1 p.2 ne nf nch e n,free p.1 p.2 nch e n,ne,nf,d⟩
theorem Inv.un{t':Nat}(I:Inv X pins σ H s)(u:Un X.fs [] H H' s.heap h')(hok:HOk X.prog X.w H' h'):Inv X pins σ H' {s with heap:=h',toks:=t'}:=by
 obtain⟨m,⟨o,es,ep,ho,r⟩,_⟩:=id I.loc;obtain⟨sl,hL⟩:=u.any ho I.free<|by simp
 exact I.step (g':=s.gens) (d':=s.drawn) (ch:=[]) (fun _ z=>nomatch z) (fun b o _ hb _ e n=>u.keep b o e n hb (by simp)) (fun b o _ hb _ e n=>u.slot b o e n hb (by simp)) (fun b o _ e n=>u.free b o e n (by simp)) (fun b o _ e=>u.there b o e (by simp)) u.tups u.frzs u.tbls (fun m' hm=>by
  obtain⟨o',es',ep',ho',r'⟩:=hm;rw[ho] at ho';cases ho'
  exact⟨_,es',ep',hL,r'⟩) hok I.bare
theorem Inv.call{g':Array GenState}{t':Nat}{d':Drawn}{ch:List BJ}(I:Inv X pins σ H s)(u:Un (frs X.stack) ch H H' s.heap h')(hok:HOk X.prog X.w H' h')(hg:AllBare g')
  (hch:∀b∈ch,(b∈X.ex\/X.s₀.heap.objs.size<=b)/\b≠X.env.locals/\(∀x c,X.env.cells.lookup x=some c->c≠b)/\∀p∈X.pn++pins,p.1≠b):
  Inv X pins σ H' {s with heap:=h',gens:=g',drawn:=d',toks:=t'}:=by
 obtain⟨m,⟨o,es,ep,ho,r⟩,_⟩:=id I.loc;obtain⟨sl,hL⟩:=u.any ho I.free λz=>(hch _ z).2.1 rfl
 exact I.step (ch:=ch) hch (fun b o hL hb hc e n=>u.keep b o e n (fun z=>(aU.mp (I.stkSub b z)).elim hL hb) hc) (fun b o _ _ hc e n=>u.any e n hc) (fun b o hc e n=>u.free b o e n hc) (fun b o hc e=>u.there b o e hc) u.tups u.frzs u.tbls (fun m' hm=>by
  obtain⟨o',es',ep',ho',r'⟩:=hm;rw[ho] at ho';cases ho'
  exact⟨_,es',ep',hL,r'⟩) hok hg
theorem Inv.turned{t':Nat}{it:BJ}(I:Inv X pins σ H s)(k:∀b o,b≠it->s.heap.get? b=some o->h'.get? b=some o)(hn:H it=none)(hL:it≠X.env.locals)
  (h1:it∈X.ex\/X.s₀.heap.objs.size<=it) (h2:∀x c,X.env.cells.lookup x=some c->c≠it) (h3:∀p∈X.pn++pins,p.1≠it):Inv X pins σ H {s with heap:=h',toks:=t'}:=by
 have nit:∀b u,H b=some u->b≠it:=λb u e z=>by rw[z,hn] at e;cases e
 refine I.step (g':=s.gens) (d':=s.drawn) (ch:=[it]) (λb hb=> ?_) (λb o _ _ hc e _=>k b o (λz=>hc<|by simp[z]) e) (λb o _ _ hc e _=>⟨o.slots,k b o (λz=>hc<|by simp[z]) e⟩) (λ_ _ _ _ n=>n)
  (λb o hc e=>⟨o,k b o (λz=>hc<|by simp[z]) e⟩) (λ_ _ e=>e) (λ_ _ _ e=>e) (λb ps e=>⟨#[],by rw[e];simp⟩) (λm hm=> ?_) (λb u e=> ?_) I.bare
 ·have e:b=it:=by simpa using hb
  subst e;exact⟨h1,hL,h2,h3⟩
 ·obtain⟨o,es,ep,ho,r⟩:=hm;exact⟨o,es,ep,k _ o (Ne.symm hL) ho,r⟩
 ·refine(I.hok b u e).stay (λc v hc q=>k c v ?_ q) (λ_ q=>q) λ_ _ q=>q
  rcases hc with z|z
  ·rw[z];exact nit b u e
  ·exact nit c _ z
theorem Inv.tok(I:Inv X pins σ H s)(t:Nat):Inv X pins σ H {s with toks:=t}:=I.un (h':=s.heap) (t':=t) Un.refl I.hok
theorem Inv.kept{t':Nat}(I:Inv X pins σ H s)(k:∀b u,s.heap.get? b=some u->h'.get? b=some u):Inv X pins σ H {s with heap:=h',toks:=t'}:=I.un (Un.kept k)<|I.hok.kept k
theorem Inv.laid{t':Nat}(I:Inv X pins σ H s)(k:∀b u,s.heap.get? b=some u->h'.get? b=some u)(hp:s.heap.objs.size<=a)(new:ObjOk X.prog X.w (upd H a o) h' a o):
  Inv X pins σ (upd H a o) {s with heap:=h',toks:=t'}:=I.un (Un.laid k hp<|I.hok.fresh hp)<|I.hok.laid k hp new
theorem Inv.write{t':Nat}(I:Inv X pins σ H s)(mu:Mut (H x))(he:e=x\/H e=some (.own x))(k:∀b u,b≠e->s.heap.get? b=some u->h'.get? b=some u)(heo:∃u,h'.get? e=some u)
  (new:ObjOk X.prog X.w (upd H x o) h' x o):Inv X pins σ (upd H x o) {s with heap:=h',toks:=t'}:=I.un (Un.write mu he k heo)<|I.hok.write mu he k heo new
theorem Inv.pins_of{pins':List (BJ×BM)}(I:Inv X pins σ H s)(h:∀p∈pins',s.heap.get? p.1=some p.2/\H p.1=none/\p.1≠X.env.locals/\p.1∉X.fs/\∀v,p.2.data≠ .cell v):Inv X pins' σ H s:=
 ⟨I.ok,I.os,I.bare,I.base,I.loc,I.cell,I.free,I.freeC,λp hp=>(bC.mp hp).elim (λz=>I.pin p<|cA _ z)<|h p,I.hok,I.len⟩
theorem aCp{N:List Str}(hN:N.Nodup){i j:Nat}{x:Str}(a:N[i]? =some x)(b:N[j]? =some x):i=j:=by obtain⟨h1,e1⟩:=aI.mp a;obtain⟨h2,e2⟩:=aI.mp b;exact(kZ hN).mp<|e1.trans e2.symm
theorem aGk{M:Model}{A:BK}{E:BH->BI->Prop}{i:Nat}{x:Str}{v:V}{u:BH}{Q:Unit->BI->Prop}(I:Inv X pins σ H s)(hN:X.N.Nodup)(hi:X.N[i]? =some x)(hx:Loc X.env.scope x)(r:RelV v u)
  (h:∀s',Inv X pins (σ.set i (some v)) H s'->(∃a,Heap.SameBut a s.heap s'.heap/\(a=X.env.locals\/X.env.cells.lookup x=some a))->Q () s') (hf:X.fn x=true\/X.env.scope.names.lookup x=some .local:=by first|exact .inl rfl|exact .inr rfl|assumption):AE M A (storeName X.env x u) Q E s:=by
 obtain⟨m,hn,hl⟩:=id I.loc;have hcls:(X.env.scope.kind==.class||(X.env.scope.kind==.module&&X.env.locals !=X.env.globals))=false:=by rw[I.ok.kind];rfl
 have hiσ:i<σ.length:=by rw[I.len];exact(aI.mp hi).1
 have cne:=I.cne
 have tracked:∀ {a:BJ}{h':BL},(∃o,s.heap.get? a=some o/\H a=none)->Heap.SameBut a s.heap h'->HOk X.prog X.w H h':=λ{a h'} ha hs b ob e=>by
  obtain⟨_,_,hfree⟩:=ha;refine(I.hok b ob e).stay (λc w' hc q=>(hs.2 c ?_).trans q) (λ_ q=>q) λ_ _ q=>q
  rintro rfl
  rcases hc with rfl|hc
  ·rw[hfree] at e;cases e
  ·rw[hfree] at hc;cases hc
 rcases hx with hk|hk
 ·refine wpAny_storeName_local hk hn (λh' hn' hs=> ?_) hcls;obtain⟨oL,_,_,hoL,_⟩:=id hn;refine h _ ⟨I.ok,I.os,I.bare,⟨λb o e n hb hx=> ?_,λb o e n hb hx=> ?_,I.base.free,λb o e hx=> ?_,I.base.tups,I.base.frzs,I.base.tbls⟩,⟨_,hn',λj y v' e1 e2 e3=> ?_⟩,λy c e=> ?_,I.free,I.freeC,λp hp=> ?_,tracked ⟨oL,hoL,I.free⟩ hs,by simpa using I.len⟩ ⟨_,hs,.inl rfl⟩
  ·exact(hs.2 b (bM<|cB (aO e) I.ok.above)).trans<|I.base.keep b o e n hb hx
  ·obtain⟨sl,e1⟩:=I.base.slot b o e n hb hx;exact⟨sl,(hs.2 b (bM<|cB (aO e) I.ok.above)).trans e1⟩
  ·obtain⟨o',e1⟩:=I.base.there b o e hx;exact⟨o',(hs.2 b (bM<|cB (aO e) I.ok.above)).trans e1⟩
  ·by_cases hj:j=i
   ·subst hj;rw[hi] at e1;cases e1;rw[kF hiσ] at e2;cases e2;exact⟨u,r,.inl ⟨hk,by simp⟩⟩
   ·rw[gO<|Ne.symm hj] at e2;obtain⟨u',r',q⟩:=hl j y v' e1 e2 e3;refine⟨u',r', ?_⟩
    rcases q with⟨k,e⟩|⟨k,c,e,z⟩
    ·refine .inl ⟨k, ?_⟩;have:y≠x:=λe=>hj (aCp hN e1<|e▸hi)
     simp[this,e]
    ·exact .inr ⟨k,c,e,z.sameBut hs<|cne y c e⟩
  ·obtain⟨w',z⟩:=I.cell y c e;exact⟨w',z.sameBut hs<|cne y c e⟩
  ·obtain⟨e,n,ne,nf,d⟩:=I.pin p hp;exact⟨(hs.2 p.1 ne).trans e,n,ne,nf,d⟩
 ·have hfn:X.fn x=true:=by
   rcases hf with z|z
   ·exact z
   ·rw[z] at hk;cases hk
  obtain⟨c,hc⟩:=I.ok.has x<|.inl hk;obtain⟨w',z⟩:=I.cell x c hc;refine wpAny_storeName_cell I.ok.kind hk hc z λh' hc' hs=> ?_;obtain⟨oc,hoc,hocd⟩:=id z;refine h {s with heap:=h'} ⟨I.ok,I.os,I.bare,⟨λb o e n hb hx=> ?_,λb o e n hb hx=> ?_,I.base.free,λb o e hx=> ?_,I.base.tups,I.base.frzs,I.base.tbls⟩,⟨m,hn.sameBut hs (Ne.symm<|cne x c hc),λj y v' e1 e2 e3=> ?_⟩,λy c' e=> ?_,I.free,I.freeC,λp hp=> ?_,tracked ⟨oc,hoc,I.freeC x c hc⟩ hs,by simpa using I.len⟩ ⟨c,hs,.inr hc⟩
  ·exact(hs.2 b<|bM (cB (aO e)<|I.ok.cab x c hfn hc)).trans<|I.base.keep b o e n hb hx
  ·obtain⟨sl,e1⟩:=I.base.slot b o e n hb hx;exact⟨sl,(hs.2 b<|bM (cB (aO e)<|I.ok.cab x c hfn hc)).trans e1⟩
  ·obtain⟨o',e1⟩:=I.base.there b o e hx;exact⟨o',(hs.2 b<|bM (cB (aO e)<|I.ok.cab x c hfn hc)).trans e1⟩
  ·by_cases hj:j=i
   ·subst hj;rw[hi] at e1;cases e1;rw[kF hiσ] at e2;cases e2;exact⟨u,r,.inr ⟨.inl hk,c,hc,hc'⟩⟩
   ·rw[gO<|Ne.symm hj] at e2;obtain⟨u',r',q⟩:=hl j y v' e1 e2 e3;refine⟨u',r', ?_⟩
    rcases q with q|⟨k,c',e,z'⟩
    ·exact .inl q
    ·refine .inr ⟨k,c',e,z'.sameBut hs ?_⟩;rintro rfl;exact hj (aCp hN e1<|I.ok.inj _ _ _ e hc▸hi)
  ·by_cases hcc:c'=c
   ·subst hcc;exact⟨_,hc'⟩
   ·obtain⟨w2,z2⟩:=I.cell y c' e;exact⟨w2,z2.sameBut hs hcc⟩
  ·obtain⟨e,n,ne,nf,d⟩:=I.pin p hp;refine⟨(hs.2 p.1 ?_).trans e,n,ne,nf,d⟩;intro q;rw[q,hoc] at e;have q':oc=p.2:=bY.inj e;exact d w' (by rw[<-q'];exact hocd)
theorem aCH{M:Model}{A:BK}{E:BH->BI->Prop}{i:Nat}{x:Str}{v:V}{u:BH}{Q:Unit->BI->Prop}(I:Inv X pins σ H s)(hN:X.N.Nodup)(hi:X.N[i]? =some x)(hx:Loc X.env.scope x)(r:RelV v u)
  (h:∀s',Inv X pins (σ.set i (some v)) H s'->Q () s') (hf:X.fn x=true\/X.env.scope.names.lookup x=some .local:=by first|exact .inl rfl|exact .inr rfl|assumption):AE M A (storeName X.env x u) Q E s:=
 aGk I hN hi hx r (λs' I' _=>h s' I') hf
theorem Inv.call'{s':BI}{ch:List BJ}(I:Inv X pins σ H s)(ho:s'.os=s.os)(u:Un (frs X.stack) ch H H' s.heap s'.heap)(hok:HOk X.prog X.w H' s'.heap)(hg:AllBare s'.gens)
  (hch:∀b∈ch,(b∈X.ex\/X.s₀.heap.objs.size<=b)/\b≠X.env.locals/\(∀x c,X.env.cells.lookup x=some c->c≠b)/\∀p∈X.pn++pins,p.1≠b):Inv X pins σ H' s':=by
 obtain⟨h',g',d',t',o'⟩:=s';have e:o'=s.os:=ho;subst e;exact I.call (g':=g') (t':=t') (d':=d') u hok hg hch
noncomputable abbrev XK:=BH->Option BJ->Hp->Prop
noncomputable abbrev St:=List<|Option V
noncomputable abbrev VK:=V->Hp->Prop
noncomputable abbrev TE:=St->Hp->VK->Prop
noncomputable abbrev TT:=St->Hp->(Bool->Hp->Prop)->Prop
noncomputable abbrev TA:=St->Hp->(List V->Hp->Prop)->Prop
structure vB where
 nx:St->Hp->Prop
 rt:VK
 bk:St->Hp->Prop:=λ_ _=>False
 ct:St->Hp->Prop:=λ_ _=>False
noncomputable abbrev TS:=vB->St->Hp->Prop
def EP(X:Cx)(pins:List (BJ×BM))(σ:St)(Q:VK)(u:BH)(s':BI):Prop:=∃v H',Inv X pins σ H' s'/\RelV v u/\Q v H'
def TP(X:Cx)(pins:List (BJ×BM))(σ:St)(Q:Bool->Hp->Prop)(b:Bool)(s':BI):Prop:=∃H',Inv X pins σ H' s'/\Q b H'
def AP(X:Cx)(pins:List (BJ×BM))(σ:St)(Q:List V->Hp->Prop)(us:List BH)(s':BI):Prop:=∃vs H',Inv X pins σ H' s'/\Vals vs us/\Q vs H'
def SP(X:Cx)(pins:List (BJ×BM))(D:vB)(f:Flow)(s':BI):Prop:=
 match f with
 |.next=>∃σ' H',Inv X pins σ' H' s'/\D.nx σ' H'
 |.brk=>∃σ' H',Inv X pins σ' H' s'/\D.bk σ' H'
 |.cont=>∃σ' H',Inv X pins σ' H' s'/\D.ct σ' H'
 |.ret u=>∃v σ' H',Inv X pins σ' H' s'/\RelV v u/\D.rt v H'
def PE(X:Cx)(e:Expr)(t:TE):Prop:=
 ∀ (pins:List (BJ×BM)) (s:BI) (σ:St) (H:Hp) (Q:VK),Inv X pins σ H s->t σ H Q->AE (AF X.prog X.w) X.A (eval e X.env) (EP X pins σ Q) X.xe s
def PT(X:Cx)(e:Expr)(t:TT):Prop:=
 ∀ (pins:List (BJ×BM)) (s:BI) (σ:St) (H:Hp) (Q:Bool->Hp->Prop),Inv X pins σ H s->t σ H Q->AE (AF X.prog X.w) X.A (isTrue e X.env<|eval e X.env) (TP X pins σ Q) X.xe s
def PW(X:Cx)(e:Expr)(t:TT):Prop:=
 ∀ (whole:Sem BH) (pins:List (BJ×BM)) (s:BI) (σ:St) (H:Hp) (Q:Bool->Hp->Prop),Inv X pins σ H s->t σ H Q->AE (AF X.prog X.w) X.A (isTrue e X.env whole) (TP X pins σ Q) X.xe s
theorem PW.pt{e:Expr}{t:TT}(h:PW X e t):PT X e t:=h _
def PA(X:Cx)(es:List Expr)(t:TA):Prop:=
 ∀ (pos:Pos) (pins:List (BJ×BM)) (s:BI) (σ:St) (H:Hp) (Q:List V->Hp->Prop),Inv X pins σ H s->t σ H Q->AE (AF X.prog X.w) X.A (spliced (Ae pos<|AC es X.env)) (AP X pins σ Q) X.xe s
def PS(X:Cx)(st:BN)(t:TS):Prop:=
 ∀ (pins:List (BJ×BM)) (s:BI) (σ:St) (H:Hp) (D:vB),Inv X pins σ H s->t D σ H->AE (AF X.prog X.w) X.A (exec st X.env) (SP X pins D) X.xe s
def PSs(X:Cx)(st:List BN)(t:TS):Prop:=
 ∀ (pins:List (BJ×BM)) (s:BI) (σ:St) (H:Hp) (D:vB),Inv X pins σ H s->t D σ H->AE (AF X.prog X.w) X.A (execs st X.env) (SP X pins D) X.xe s
theorem thn{α:Type}{t:Sem α}{Q Q':α->BI->Prop}{M:Model}{A:BK}{E:BH->BI->Prop}(h:AE M A t Q E s)(hQ:∀a s,Q a s->Q' a s):AE M A t Q' E s:=Af h hQ λ_ _ x=>x
noncomputable def iQ(i:Nat):TE:=λσ H Q=>∃v,σ[i]? =some (some v)/\Q v H
noncomputable def tC(v:V):TE:=λ_ H Q=>Q v H
theorem aPf{i:Nat}{x:Str}{pos:Pos}(hN:X.N[i]? =some x)(hv:Vis X.env.scope x)(hd:(x==("__debug__":Str))=false:=by decide)(hcd:(x==("__classdict__":Str))=false:=by decide):PE X (.Name x pos) (iQ i):=by
 intro pins s σ H Q I h;obtain⟨v,e,h⟩:=h;obtain⟨m,hn,hl⟩:=I.loc;obtain⟨u,r,l⟩:=hl i x v hN e hv;have fin:EP X pins σ Q u s:=⟨v,H,I,r,h⟩
 rcases l with⟨hk,hm⟩|⟨hk,c,hc,hcell⟩
 ·exact wpAny_Name (wpAny_loadName_local I.ok.kind hk hn hm fin) hd
 ·rcases hk with hk|hk
  ·exact wpAny_Name (wpAny_loadName_cell I.ok.kind hk hc hcell fin) hd
  ·exact wpAny_Name (wpAny_loadName_free I.ok.kind hk hc hcell fin hcd) hd
theorem pe_int{i j pos}:PE X (.Constant (.int i) j pos) (tC<|.int i):=λ_ _ _ H _ I h=>wpAny_Constant_int ⟨.int i,H,I.tok _,⟨_,rfl⟩,h⟩
theorem pe_bl{b j pos}:PE X (.Constant (.bool b) j pos) (tC<|.bl b):=λ_ _ _ H _ I h=>Constant_bool ⟨.bl b,H,I,rfl,h⟩
theorem pe_non{j pos}:PE X (.Constant .none j pos) (tC .non):=λ_ _ _ H _ I h=>Constant_none ⟨.non,H,I,rfl,h⟩
theorem pe_str{x j pos}:PE X (.Constant (.str x) j pos) (tC<|.str x):=λ_ _ _ H _ I h=>Calls.Constant_str ⟨.str x,H,I.tok _,⟨_,rfl⟩,h⟩
def Gl(X:Cx)(x:Str):Prop:=X.env.kindOf x=some .globalImplicit
theorem aAM{E:BH->BI->Prop}{σ:St}{x:Str}{u:BH}{pos:Pos}{Q:BH->BI->Prop}(I:Inv X pins σ H s)(hg:Gl X x)(hm:X.mg x=some u)(h:Q u s)
  (hd:(x==("__debug__":Str))=false:=by decide):AE (AF X.prog X.w) X.A (eval (.Name x pos) X.env) Q E s:=
 Calls.Name_function_global I.ok.kind hg (Calls.loadGlobal_global (by rw[I.ok.glob];exact I.mod.glob.keeps I.bk) hm h) hd
theorem hX{E:BH->BI->Prop}{σ:St}{x:Str}{u:BH}{pos:Pos}{Q:BH->BI->Prop}(I:Inv X pins σ H s)(hg:Gl X x)(hm:X.mg x=none)(hv:An x=some u)(h:Q u s)
  (hn:x≠"__name__":=by decide) (hd:(x==("__debug__":Str))=false:=by decide):AE (AF X.prog X.w) X.A (eval (.Name x pos) X.env) Q E s:=by
 obtain⟨mb,h1,h2⟩:=I.mod.blt;exact Calls.Name_function_global I.ok.kind hg (Calls.loadGlobal_builtin (by rw[I.ok.glob];exact I.mod.glob.keeps I.bk) hm (by rw[I.ok.blt];exact h1.keeps I.bk) ((h2 x hn).trans hv) h) hd
theorem aFy{x:Str}{v:V}{u:BH}{pos:Pos}(hg:Gl X x)(hm:X.mg x=some u)(r:RelV v u)(hd:(x==("__debug__":Str))=false:=by decide):PE X (.Name x pos) (tC v):=
 λ_ _ _ H _ I h=>aAM I hg hm ⟨v,H,I,r,h⟩ hd
theorem aNb{x:Str}{v:V}{u:BH}{pos:Pos}(hg:Gl X x)(hm:X.mg x=none)(hv:An x=some u)(r:RelV v u)(hn:x≠"__name__":=by decide)(hd:(x==("__debug__":Str))=false:=by decide):PE X (.Name x pos) (tC v):=
 λ_ _ _ H _ I h=>hX I hg hm hv ⟨v,H,I,r,h⟩ hn hd
def t2I(ta tb:TE)(k:Int->Int->Hp->Prop):St->Hp->Prop:=λσ H=>ta σ H λx H1=>tb σ H1 λy H2=>∃i j,x=.int i/\y=.int j/\k i j H2
variable {a b:Expr}{ta tb:TE}{pos:Pos}
def PC(X:Cx)(op:CmpOp)(a b:Expr)(t:TE):Prop:=
 ∀ (pins:List (BJ×BM)) (s:BI) (σ:St) (H:Hp) (Q:VK),Inv X pins σ H s->t σ H Q->
  AE (AF X.prog X.w) X.A (eval a X.env) (λv s₁=>AE (AF X.prog X.w) X.A (eval b X.env) (λu s₂=>AE (AF X.prog X.w) X.A (AO op v u) (EP X pins σ Q) X.xe s₂) X.xe s₁) X.xe s
noncomputable def aNu(p:Int->Int->Bool)(ta tb:TE):TE:=λσ H Q=>t2I ta tb (λi j H2=>Q (.bl<|p i j) H2) σ H
noncomputable abbrev tLt:TE->TE->TE:=aNu λi j=>decide<|i<j
noncomputable abbrev tLe:TE->TE->TE:=aNu λi j=>decide<|i<=j
noncomputable abbrev tGt:TE->TE->TE:=aNu λi j=>decide<|j<i
noncomputable abbrev tGe:TE->TE->TE:=aNu λi j=>decide<|j<=i
noncomputable abbrev tEqI:TE->TE->TE:=aNu λi j=>decide<|i=j
noncomputable abbrev tNeI:TE->TE->TE:=aNu λi j=> !decide (i=j)
noncomputable def tB(t:TE):TT:=λσ H Q=>t σ H λx H1=>∃c,x=.bl c/\Q c H1
theorem aPF{op:CmpOp}{t:TE}(h:PC X op a b t)(h1:AR op b=false:=by first|exact nobehind _ (by decide) (by decide)|rfl):PT X (.Compare a [op] [b] pos) (tB t):=by intro pins s σ H Q I hw;refine wpAny_isTrue_Compare1 (thn (h pins s σ H _ I hw) λv s1 h1=>thn h1 λu s2 h2=>thn h2 λc s3 ⟨x,H1,I1,r1,q1⟩=> ?_) h1;obtain⟨d,rfl,q⟩:=q1;cases r1;exact Az ⟨H1,I1,q⟩
theorem aOS{e:Expr}{t:TE}(h:PE X e t)(he:∀whole,isTrue e X.env whole=(do let v <-whole;standAt e.pos;holding [v] (truthy v)):=by intro _;rfl):PT X e (tB t):=by intro pins s σ H Q I hw;refine isTrue_plain (thn (h pins s σ H _ I hw) λv s1 ⟨x,H1,I1,r1,q1⟩=> ?_)<|he _;obtain⟨d,rfl,q⟩:=q1;cases r1;exact Az ⟨H1,I1,q⟩
variable {tA tB':TT}{rest:List Expr}
noncomputable def tAnd(t u:TT):TT:=λσ H Q=>t σ H λc H1=>if c=true then u σ H1 Q else Q false H1
noncomputable def tOr(t u:TT):TT:=λσ H Q=>t σ H λc H1=>if c=true then Q true H1 else u σ H1 Q
noncomputable def tNot(t:TT):TT:=λσ H Q=>t σ H λc H1=>Q (!c) H1
theorem aNh(ha:PT X a tA):PW X (.BoolOp .And [a] pos) tA:=by
 intro wh pins s σ H Q I h;refine isTrue_and<|thn (ha pins s σ H Q I h) λc s1 e=> ?_;cases c with
 |true=>exact isTrue_and_nil e
 |false=>exact e
theorem aOR(ha:PT X a tA):PW X (.BoolOp .Or [a] pos) tA:=by
 intro wh pins s σ H Q I h;refine isTrue_or<|thn (ha pins s σ H Q I h) λc s1 e=> ?_;cases c with
 |false=>exact isTrue_or_nil e
 |true=>exact e
theorem aOA(ha:PT X a tA)(hb:PW X (.BoolOp .And (b::rest) pos) tB'):PW X (.BoolOp .And (a::b::rest) pos) (tAnd tA tB'):=by
 intro wh pins s σ H Q I h;refine isTrue_and<|thn (ha pins s σ H _ I h) λc s1 ⟨H1,I1,q1⟩=> ?_;cases c with
 |true=>exact hb wh pins s1 σ H1 Q I1 q1
 |false=>exact⟨H1,I1,q1⟩
theorem aRm(ha:PT X a tA)(hb:PW X (.BoolOp .Or (b::rest) pos) tB'):PW X (.BoolOp .Or (a::b::rest) pos) (tOr tA tB'):=by
 intro wh pins s σ H Q I h;refine isTrue_or<|thn (ha pins s σ H _ I h) λc s1 ⟨H1,I1,q1⟩=> ?_;cases c with
 |true=>exact⟨H1,I1,q1⟩
 |false=>exact hb wh pins s1 σ H1 Q I1 q1
theorem aPs(ha:PT X a tA):PT X (.UnaryOp .Not a pos) (tNot tA):=by intro pins s σ H Q I h;exact isTrue_not<|ha pins s σ H (λc H1=>Q (!c) H1) I h
noncomputable def aQY(ta tb:TE):TE:=λσ H Q=>ta σ H λx H1=>∃c,x=.bl c/\if c=true then tb σ H1 Q else Q (.bl false) H1
theorem aPd{op}{t:TE}(h:PE X a t):PE X (.BoolOp op [a] pos) t:=λpins s σ H Q I hw=>BoolOp_one<|h pins s σ H Q I hw
theorem aPP(ha:PE X a ta)(hb:PE X (.BoolOp .And (b::rest) pos) tb):PE X (.BoolOp .And (a::b::rest) pos) (aQY ta tb):=by
 intro pins s σ H Q I h;refine BoolOp_and<|thn (ha pins s σ H _ I h) λv s1 ⟨x,H1,I1,r1,q1⟩=> ?_;obtain⟨c,rfl,q1⟩:=q1;cases r1;refine Az ?_;cases c with
 |true=>exact hb pins s1 σ H1 Q I1 q1
 |false=>exact⟨.bl false,H1,I1,rfl,q1⟩
noncomputable def tIf(t:TT)(ta tb:TE):TE:=λσ H Q=>t σ H λc H1=>if c=true then ta σ H1 Q else tb σ H1 Q
theorem aIb{c:Expr}(hc:PT X c tA)(ha:PE X a ta)(hb:PE X b tb):PE X (.IfExp c a b pos) (tIf tA ta tb):=by
 intro pins s σ H Q I h;refine wpAny_IfExp<|thn (hc pins s σ H _ I h) λd s1 ⟨H1,I1,q1⟩=> ?_;cases d with
 |true=>exact ha pins s1 σ H1 Q I1 q1
 |false=>exact hb pins s1 σ H1 Q I1 q1
def SqL(K:aA)(H:Hp)(a:BJ)(xs:List V):Prop:=
 Rd H a (.lst xs)\/
  ∃ (o:BM) (its:Array BH) (n:Nat),K.lookup a=some o/\o.cls=.type "list"/\o.dict=none/\o.data=.seq its n/\its.size<=AH/\Vals xs its.toList
def SqT(K:aA)(H:Hp)(a:BJ)(xs:List V):Prop:=
 Rd H a (.tup xs)\/
  ∃ (o:BM) (its:Array BH) (n:Nat),K.lookup a=some o/\o.cls=.type "tuple"/\o.data=.seq its n/\its.size<=AH/\Vals xs its.toList
noncomputable def absV:BH->Option V
 |.none=>some .non
 |.bool b=>some<|.bl b
 |.int i _=>some<|.int i
 |.str x _=>some<|.str x
 |.bytes b _=>some<|.byt b
 |.float b _=>some<|.flt b
 |.ref a=>some<|.ref a
 |.type n=>some<|.ty n
 |_=>none
theorem RelV.abs{x:V}{u:BH}(r:RelV x u):absV u=some x:=by
 cases x with
 |non=>cases r;rfl
 |bl _=>cases r;rfl
 |int _=>obtain⟨t,rfl⟩:=r;rfl
 |str _=>obtain⟨t,rfl⟩:=r;rfl
 |byt _=>obtain⟨t,rfl⟩:=r;rfl
 |flt _=>obtain⟨t,rfl⟩:=r;rfl
 |ref _=>cases r;rfl
 |ty _=>cases r;rfl
theorem RelV.inj{x y:V}{u:BH}(r:RelV x u)(q:RelV y u):x=y:=bY.inj<|r.abs.symm.trans q.abs
theorem Vals.inj:∀ {xs ys:List V}{us:List BH},Vals xs us->Vals ys us->xs=ys
 |_,_,_,.nil,.nil=>rfl
 |_,_,_,.cons r t,.cons r' t'=>by rw[r.inj r',Vals.inj t t']
variable {σ:St}{a:BJ}{xs ys:List V}
theorem SqL.of{K:aA}(h:H a=some (.lst xs)):SqL K H a xs:=.inl<|.inl h
theorem SqT.of{K:aA}(h:H a=some (.tup xs)):SqT K H a xs:=.inl<|.inl h
theorem Inv.list(I:Inv X pins σ H s)(h:SqL X.K H a xs):∃its:List BH,Vals xs its/\PlainL s.heap a its.toArray/\xs.length<=AH:=by
 rcases h with h|⟨o,its,n,hk,hc,hd,hs,hz,r⟩
 ·obtain⟨z,its,n,r,e⟩:=h.ok I.hok;exact⟨its,r,⟨_,n,e,rfl,rfl,rfl⟩,z⟩
 ·refine⟨its.toList,r,⟨o,n,I.kIn a o hk,hc,hd,by simpa using hs⟩, ?_⟩;have e:=r.length;simp only[cZ] at e;omega
theorem Inv.tuple(I:Inv X pins σ H s)(h:SqT X.K H a xs):∃its:List BH,Vals xs its/\IsTup s.heap a its.toArray/\xs.length<=AH:=by
 rcases h with h|⟨o,its,n,hk,hc,hs,hz,r⟩
 ·obtain⟨z,its,r,p⟩:=h.ok I.hok;exact⟨its,r,p.tup,z⟩
 ·refine⟨its.toList,r,⟨o,I.kIn a o hk,hc,n,by simpa using hs⟩, ?_⟩;have e:=r.length;simp only[cZ] at e;omega
theorem Inv.list_inj(I:Inv X pins σ H s)(h:SqL X.K H a xs)(h':SqL X.K H a ys):xs=ys:=by
 obtain⟨its,r,⟨o,n,e,_,_,d⟩,_⟩:=I.list h;obtain⟨its',r',⟨o',n',e',_,_,d'⟩,_⟩:=I.list h';rw[e] at e';cases e';rw[d] at d';injection d' with d1 _
 have:its=its':=by simpa using congrArg aQl d1
 subst this;exact r.inj r'
theorem Inv.tuple_inj(I:Inv X pins σ H s)(h:SqT X.K H a xs)(h':SqT X.K H a ys):xs=ys:=by
 obtain⟨its,r,⟨o,e,_,n,d⟩,_⟩:=I.tuple h;obtain⟨its',r',⟨o',e',_,n',d'⟩,_⟩:=I.tuple h';rw[e] at e';cases e';rw[d] at d';injection d' with d1 _
 have:its=its':=by simpa using congrArg aQl d1
 subst this;exact r.inj r'
noncomputable abbrev Cx.wish(X:Cx)(E:BH->BI->Prop):Cx:={X with xe:=E}
noncomputable abbrev Cx.nox(X:Cx):Cx:=X.wish λ_ _=>False
theorem Cx.Ok.wish(ok:X.Ok)(E:BH->BI->Prop):(X.wish E).Ok:=
 ⟨ok.mod,ok.kind,ok.glob,ok.blt,ok.above,ok.inj,ok.has,ok.cab,ok.hd,ok.frames,ok.stk,ok.exf,ok.bs,ok.bsz,ok.noex,ok.exfs,ok.funs,ok.frf⟩
theorem Cx.Ok.unwish{E:BH->BI->Prop}(ok:(X.wish E).Ok):X.Ok:=
 ⟨ok.mod,ok.kind,ok.glob,ok.blt,ok.above,ok.inj,ok.has,ok.cab,ok.hd,ok.frames,ok.stk,ok.exf,ok.bs,ok.bsz,ok.noex,ok.exfs,ok.funs,ok.frf⟩
variable {E:BH->BI->Prop}
theorem Inv.wish(I:Inv X pins σ H s)(E:BH->BI->Prop):Inv (X.wish E) pins σ H s:=⟨I.ok.wish E,I.os,I.bare,I.base,I.loc,I.cell,I.free,I.freeC,I.pin,I.hok,I.len⟩
theorem Inv.unwish(I:Inv (X.wish E) pins σ H s):Inv X pins σ H s:=⟨I.ok.unwish,I.os,I.bare,I.base,I.loc,I.cell,I.free,I.freeC,I.pin,I.hok,I.len⟩
theorem SP.unwish{D:vB}{f:Flow}{s':BI}(h:SP (X.wish E) pins D f s'):SP X pins D f s':=by
 cases f with
 |next=>obtain⟨σ',H',I,q⟩:=h;exact⟨σ',H',I.unwish,q⟩
 |brk=>obtain⟨σ',H',I,q⟩:=h;exact⟨σ',H',I.unwish,q⟩
 |cont=>obtain⟨σ',H',I,q⟩:=h;exact⟨σ',H',I.unwish,q⟩
 |ret u=>obtain⟨v,σ',H',I,r,q⟩:=h;exact⟨v,σ',H',I.unwish,r,q⟩
theorem PSs.nox{st:List BN}{t:TS}(h:PSs X.nox st t):PSs X st t:=λpins s σ H D I hw=>Af (h pins s σ H D (I.wish _) hw) (λ_ _ q=>q.unwish) λ_ _ z=>False.elim z
variable {st:BN}{rest:List BN}{t u:TS}{e:Expr}{te:TE}
noncomputable def aRD:TS:=λD σ H=>D.nx σ H
noncomputable def tSeq(t u:TS):TS:=λD σ H=>t {D with nx:=u D} σ H
theorem pss_nil:PSs X [] aRD:=λ_ _ σ H _ I h=>wpAny_execs_nil ⟨σ,H,I,h⟩
theorem yG(h1:PS X st t)(h2:PSs X rest u):PSs X (st::rest) (tSeq t u):=by
 intro pins s σ H D I h;refine wpAny_execs_cons<|thn (h1 pins s σ H {D with nx:=u D} I h) λf s1 q=> ?_;cases f with
 |next=>obtain⟨σ',H',I',q⟩:=q;exact h2 pins s1 σ' H' D I' q
 |ret v=>exact q
 |brk=>exact q
 |cont=>exact q
theorem aEO(h1:PS X st t):PSs X [st] t:=by
 intro pins s σ H D I h;refine wpAny_execs_cons<|thn (h1 pins s σ H D I h) λf s1 q=> ?_;cases f with
 |next=>exact wpAny_execs_nil q
 |ret v=>exact q
 |brk=>exact q
 |cont=>exact q
theorem Inv.quiet(I:Inv X pins σ H s):interactive X.env=false:=by simp[interactive,I.ok.kind]
noncomputable def aRi(te:TE):TS:=λD σ H=>te σ H λ_ H1=>D.nx σ H1
theorem sQ(he:PE X e te)(hs:AX e none pos.line X.env=pure false:=by rfl):PS X (.Expr e pos) (aRi te):=by intro pins s σ H D I h;exact wpAny_Expr_any (thn (he pins s σ H _ I h) λv s1 ⟨x,H1,I1,r1,q1⟩=>⟨σ,H1,I1,q1⟩) I.quiet hs
noncomputable def tRet(te:TE):TS:=λD σ H=>te σ H D.rt
theorem tY(he:PE X e te):PS X (.Return (some e) pos) (tRet te):=by intro pins s σ H D I h;exact wpAny_Return_some<|thn (he pins s σ H _ I h) λv s1 ⟨x,H1,I1,r1,q1⟩=>⟨x,σ,H1,I1,r1,q1⟩
noncomputable def tIfS(c:TT)(t u:TS):TS:=λD σ H=>c σ H λb H1=>if b=true then t D σ H1 else u D σ H1
theorem aQS{c:Expr}{a b:List BN}{tc:TT}(hc:PT X c tc)(ha:PSs X a t)(hb:PSs X b u):PS X (.If c a b pos) (tIfS tc t u):=by
 intro pins s σ H D I h;refine wpAny_If<|thn (hc pins s σ H _ I h) λd s1 ⟨H1,I1,q1⟩=> ?_;cases d with
 |true=>exact ha pins s1 σ H1 D I1 q1
 |false=>exact hb pins s1 σ H1 D I1 q1
noncomputable abbrev TG:=V->St->Hp->(St->Hp->Prop)->Prop
noncomputable abbrev TGs:=List V->St->Hp->(St->Hp->Prop)->Prop
def PG(X:Cx)(target:Expr)(t:TG):Prop:=
 ∀ (pins:List (BJ×BM)) (s:BI) (σ:St) (H:Hp) (v:V) (u:BH) (Q:St->Hp->Prop),Inv X pins σ H s->RelV v u->t v σ H Q->
  AE (AF X.prog X.w) X.A (assign target X.env u) (λ_ s'=>∃σ' H',Inv X pins σ' H' s'/\Q σ' H') X.xe s
def PGs(X:Cx)(ts:List Expr)(t:TGs):Prop:=
 ∀ (pins:List (BJ×BM)) (s:BI) (σ:St) (H:Hp) (vs:List V) (us:List BH) (Q:St->Hp->Prop),Inv X pins σ H s->Vals vs us->t vs σ H Q->
  AE (AF X.prog X.w) X.A (assignInOrder ((BB ts X.env).map (·.2)) us) (λ_ s'=>∃σ' H',Inv X pins σ' H' s'/\Q σ' H') X.xe s
noncomputable abbrev TSet:=V->V->V->Hp->(Hp->Prop)->Prop
noncomputable abbrev TIp:=V->V->Hp->VK->Prop
noncomputable def aDM(i:Nat):TG:=λv σ H Q=>Q (σ.set i (some v)) H
theorem sY{i:Nat}{x:Str}(hN:X.N.Nodup)(hi:X.N[i]? =some x)(hx:Loc X.env.scope x)(hf:X.fn x=true\/X.env.scope.names.lookup x=some .local:=by first|exact .inl rfl|exact .inr rfl|assumption):PG X (.Name x pos) (aDM i):=by intro pins s σ H v u Q I r h;exact wpAny_assign_Name<|aCH I hN hi hx r (λs' I'=>⟨_,H,I',h⟩) hf
noncomputable def aSv:TGs:=λvs σ H Q=>vs=[]/\Q σ H
noncomputable def aOl(t:TG)(u:TGs):TGs:=λvs σ H Q=>∃v r,vs=v::r/\t v σ H λσ' H'=>u r σ' H' Q
theorem kM:PGs X [] aSv:=by intro pins s σ H vs us Q I r h;obtain⟨e,h⟩:=h;subst e;cases r;exact assignInOrder_nil ⟨σ,H,I,h⟩
theorem eI{es:List Expr}{t:TG}{u:TGs}(h1:PG X e t)(h2:PGs X es u)
  (hs:(BB (e::es) X.env).map (·.2)=assign e X.env::(BB es X.env).map (·.2):=by rfl):PGs X (e::es) (aOl t u):=by
 intro pins s σ H vs us Q I r h;obtain⟨v,vr,e1,h⟩:=h;subst e1;cases r with
 |cons r rr=>rw[hs];refine assignInOrder_cons<|thn (h1 pins s σ H _ _ _ I r h) λ_ s1 ⟨σ1,H1,I1,q1⟩=> ?_;exact h2 pins s1 σ1 H1 _ _ Q I1 rr q1
noncomputable def gTup(K:aA)(n:Nat)(t:TGs):TG:=λv σ H Q=>∃a xs,v=.ref a/\SqT K H a xs/\xs.length=n/\t xs σ H Q
theorem aOT{es:List Expr}{k:Nat}{t:TGs}{n:Nat}(hc:X.calm=true)(h:PGs X es t)
  (hn:(BB es X.env).length=n:=by rfl) (hst:(BB es X.env).findIdx? (·.1)=none:=by rfl):PG X (.Tuple es k pos) (gTup X.K n t):=by
 intro pins s σ H v u Q I r hw;obtain⟨a,xs,e1,hq,hl,hw⟩:=hw;subst e1;cases r;obtain⟨its,rv,ht,hz⟩:=I.tuple hq;refine assign_Tuple_tuple (I.ok.hd hc) ht (by simp[hn,<-hl,rv.length]) hst λh' hx=> ?_
 have I1:Inv X pins σ H {s with heap:=h'}:=I.kept (t':=s.toks) λb o e=>hx b o (bM<|aO e) e
 exact h pins _ σ H xs _ Q I1 (by simpa using rv) hw
noncomputable def aSy(te:TE)(g:TG):TS:=λD σ H=>te σ H λx H1=>g x σ H1 D.nx
theorem aPE{tg:Expr}{g:TG}(he:PE X e te)(hg:PG X tg g)(hs:swapsWithSole [tg] e pos.line X.env=pure false:=by rfl)(hw:swappedStores [tg] e X.env=pure none:=by rfl)
  (h1:(BB [tg] X.env).map (·.2)=[assign tg X.env]:=by rfl):PS X (.Assign [tg] e pos) (aSy te g):=by
 intro pins s σ H D I h;refine wpAny_Assign_stores (thn (he pins s σ H _ I h) λv s1 ⟨x,H1,I1,r1,q1⟩=> ?_) hs hw;rw[h1];exact thn (hg pins s1 σ H1 x v _ I1 r1 q1) λ_ s2 q=>q
theorem rB{i:Nat}{x:Str}{pos':Pos}(hN:X.N.Nodup)(hi:X.N[i]? =some x)(hx:Loc X.env.scope x)(he:PE X e te)(hs:AX e (some<|.Name x pos') pos.line X.env=pure false:=by rfl)(hf:X.fn x=true\/X.env.scope.names.lookup x=some .local:=by first|exact .inl rfl|exact .inr rfl|assumption):
  PS X (.Assign [.Name x pos'] e pos) (aSy te<|aDM i):=by
 intro pins s σ H D I h;refine wpAny_Assign_Name (thn (he pins s σ H _ I h) λv s1 ⟨y,H1,I1,r1,q1⟩=> ?_) hs;exact aCH I1 hN hi hx r1 (λs2 I2=>⟨_,H1,I2,q1⟩) hf
noncomputable def aPe(c:TT)(tb:TS):TS:=λD σ H=>∃W:Nat->St->Hp->Prop,(∃m,W m σ H)/\∀m σ H,W m σ H->
 c σ H λb H1=>if b=true then ∃N:St->Hp->Prop,(∀σ' H',N σ' H'->∃m',m'<m/\W m' σ' H')/\tb {D with nx:=N,ct:=N,bk:=D.nx} σ H1 else D.nx σ H1
theorem aJm{c:Expr}{body:List BN}{tc:TT}{tb:TS}(hp:PassesOwn (AF X.prog X.w) X.A X.env X.xe)(hc:PT X c tc)(hb:PSs X body tb):PS X (.While c body [] pos) (aPe tc tb):=by
 intro pins s σ H D I h;obtain⟨W,⟨m0,w0⟩,turn⟩:=h;refine wpAny_While<|codeAny_whileLoop (λn s'=>∃σ' H',Inv X pins σ' H' s'/\W n σ' H') ?_ m0 ⟨σ,H,I,w0⟩;rintro n s1 ⟨σ1,H1,I1,w1⟩;refine Ar hp<|thn (hc pins s1 σ1 H1 _ I1<|turn n σ1 H1 w1) λb s2 ⟨H2,I2,q2⟩=> ?_;cases b with
 |true=>
  obtain⟨N,hN,q2⟩:=q2;rw[if_pos rfl];refine Ar hp<|thn (hb pins s2 σ1 H2 _ I2 q2) λf s3 q3=> ?_;cases f with
  |next=>obtain⟨σ3,H3,I3,n3⟩:=q3;obtain⟨m',hm,w3⟩:=hN σ3 H3 n3;exact⟨m',hm,σ3,H3,I3,w3⟩
  |cont=>obtain⟨σ3,H3,I3,n3⟩:=q3;obtain⟨m',hm,w3⟩:=hN σ3 H3 n3;exact⟨m',hm,σ3,H3,I3,w3⟩
  |brk=>exact q3
  |ret v=>exact q3
 |false=>rw[if_neg bO];exact wpAny_execs_nil ⟨σ1,H2,I2,q2⟩
structure It where
 go:Nat->Hp->Prop
 yld:Nat->Hp->V->Hp->Prop
 stop:Nat->Hp->Prop
def xW(X:Cx)(pins:List (BJ×BM))(H:Hp)(b:BJ):Prop:=
 H b=none/\b≠X.env.locals/\b∉X.fs/\(b∈X.ex\/X.s₀.heap.objs.size<=b)/\(∀x c,X.env.cells.lookup x=some c->c≠b)/\∀p∈X.pn++pins,p.1≠b
theorem Inv.fpOk{b:BJ}(I:Inv X pins σ H s)(hb:s.heap.objs.size<=b)(hn:H' b=none):xW X pins H' b:=by
 refine⟨hn,iE<|cB I.lt hb,I.nofs hb,.inr<|bZ I.sz hb,λx c e z=> ?_,λp hp z=> ?_⟩
 ·obtain⟨v,q⟩:=I.cell x c e;exact absurd (cB q.lt<|by rw[z];exact hb)<|dZ _
 ·exact absurd (cB (aO (I.pin p hp).1)<|by rw[z];exact hb)<|dZ _
structure aJH(P:AD)(w:AI)(K:aA)(tg:Expr)(J:It)(fp:List BJ)(it:BJ)(tn:Nat->BL->Prop):Prop where
 mem:it∈fp
 obj:∀i h,tn i h->∀b∈fp,∃o,h.get? b=some o/\∀v,o.data≠ .cell v
 keep:∀i h h',tn i h->(∀b∈fp,∀o,h.get? b=some o->h'.get? b=some o)->tn i h'
 item:∀ (X:Cx),X.prog=P->X.w=w->X.K=K->X.calm=true->∀ (i:Nat) (pins:List (BJ×BM)) (s:BI) (σ:St) (H:Hp) (E:BH->BI->Prop),Inv X pins σ H s->(∀b∈fp,xW X pins H b)->tn i s.heap->J.go i H->
  AE (AF P w) X.A (pyNext (.ref it)) (fun r s1=>∃u,r=some u∧
   AE (AF P w) X.A (letOwnedTupleGo tg (.ref it) u) (λ_ s2=>∃x H',Inv X pins σ H' s2/\RelV x u/\J.yld i H x H'/\tn (i+1) s2.heap/\∀b∈fp,H' b=none) E s1) E s
 done:∀ (X:Cx),X.prog=P->X.w=w->X.K=K->X.calm=true->∀ (i:Nat) (pins:List (BJ×BM)) (s:BI) (σ:St) (H:Hp) (E:BH->BI->Prop),Inv X pins σ H s->(∀b∈fp,xW X pins H b)->tn i s.heap->J.stop i H->
  AE (AF P w) X.A (pyNext<|.ref it) (λr s1=>r=none/\Inv X pins σ H s1) E s
 self:∀ (A:BK) (i:Nat) (s:BI) (Q:BH->BI->Prop) (E:BH->BI->Prop),tn i s.heap->Q (.ref it) s->AE (AF P w) A (pyIter<|.ref it) Q E s
noncomputable abbrev TI:=St->Hp->(It->Hp->Prop)->Prop
def PIE(X:Cx)(pins:List (BJ×BM))(σ:St)(tg:Expr)(R:It->Hp->Prop)(itv:BH)(s2:BI):Prop:=
 ∃ (it:BJ) (fp:List BJ) (tn:Nat->BL->Prop) (J:It) (H':Hp),itv=.ref it/\Inv X pins σ H' s2/\aJH X.prog X.w X.K tg J fp it tn/\tn 0 s2.heap/\(∀b∈fp,xW X pins H' b)/\R J H'
def PI(X:Cx)(tg iter:Expr)(wi:TI):Prop:=
 ∀ (pins:List (BJ×BM)) (s:BI) (σ:St) (H:Hp) (R:It->Hp->Prop),Inv X pins σ H s->wi σ H R->
  AE (AF X.prog X.w) X.A (eval iter X.env) (λv s1=>AE (AF X.prog X.w) X.A (pyIter v) (PIE X pins σ tg R) X.xe s1) X.xe s
theorem aHx{M:Model}{A:BK}{tg:Expr}{it:BJ}{u:BH}{o:BM}{n:String}{vs:Array BH}{Q:Unit->BI->Prop}(ho:s.heap.get? it=some o)(hc:o.cls=.type n)(hd:o.data=.fields vs)
  (hn:["enumerate","zip","dict_itemiterator","dict_reverseitemiterator","odict_iterator","itertools.zip_longest","itertools.pairwise"].contains n=false) (hQ:Q () s):AE M A (letOwnedTupleGo tg (.ref it) u) Q E s:=by
 unfold letOwnedTupleGo
 cases tg<;>first
  |exact AB hQ
  | (cases u<;>first
    |exact AB hQ
    | (refine AA (wpAny_load ho ?_)
       rw[hc,hd];show AE M A (if(["enumerate","zip","dict_itemiterator","dict_reverseitemiterator","odict_iterator","itertools.zip_longest","itertools.pairwise"].contains n&&vs[0]? ==some (Aq _))=true then _ else _) Q E s;rw[if_neg<|by intro h;rw[hn,aAK] at h;cases h]
       exact AB hQ))
noncomputable def Itl(K:aA)(a:BJ):It:=
 ⟨λi H=>∃xs x,SqL K H a xs/\xs[i]? =some x,λi H x H'=>H'=H/\∀xs,SqL K H a xs->xs[i]? =some x,λi H=>∃xs,SqL K H a xs/\xs.length<=i⟩
noncomputable def Itt(K:aA)(a:BJ):It:=
 ⟨λi H=>∃xs x,SqT K H a xs/\xs[i]? =some x,λi H x H'=>H'=H/\∀xs,SqT K H a xs->xs[i]? =some x,λi H=>∃xs,SqT K H a xs/\xs.length<=i⟩
noncomputable def Itr(lo:Int)(n:Nat):It:=⟨λi _=>i<n,λi H x H'=>H'=H/\x=.int (lo+i),λi _=>n<=i⟩
theorem aGr{K:aA}{tg:Expr}(a it:BJ):aJH P w K tg (Itl K a) [it] it (λi h=>h.IsListIter it a i) where
 mem:=by simp
 obj:=λi h st b hb=>by
  have e:b=it:=by simpa using hb
  subst e;obtain⟨o,e,c,d⟩:=st;exact⟨o,e,λv z=>by rw[d] at z;cases z⟩
 keep:=λi h h' st k=>st.at λo e=>k it (by simp) o e
 item:=by
  intro X hP hw hK hc i pins s σ H E I hf st hg;subst hP hw hK;obtain⟨xs,x,hq,hx⟩:=hg;obtain⟨its,rv,p,hz⟩:=I.list hq;obtain⟨u,hu,ru⟩:=rv.get hx;obtain⟨f0,f1,f2,f3,f4,f5⟩:=hf it (by simp);refine wpAny_pyNext_list_item st p.isList (x:=u) (by simpa using hu) λh' st' sb=> ?_
  have I1:Inv X pins σ H {s with heap:=h'}:=I.turned (t':=s.toks) (λb o hb e=>(sb.2 b hb).trans e) f0 f1 f3 f4 f5;obtain⟨o,e,c,d⟩:=id st';exact⟨u,rfl,aHx (s:={s with heap:=h'}) e c d (by decide) ⟨x,H,I1,ru,⟨rfl,λys hy=>by rw[I.list_inj hy hq];exact hx⟩,st',λb hb=>(hf b hb).1⟩⟩
 done:=by intro X hP hw hK hc i pins s σ H E I hf st hg;subst hP hw hK;obtain⟨xs,hq,hx⟩:=hg;obtain⟨its,rv,p,hz⟩:=I.list hq;obtain⟨f0,f1,f2,f3,f4,f5⟩:=hf it (by simp);have hl:=rv.length;exact wpAny_pyNext_list_end (I.ok.hd hc) st p.isList (by simp;omega) λh' eb=>⟨rfl,I.turned (t':=s.toks) (λb o hb e=>eb b o hb e) f0 f1 f3 f4 f5⟩
 self:=λ_ _ _ _ _ st h=>wpAny_pyIter_listiter st h
theorem aDg{K:aA}{tg:Expr}(a it:BJ):aJH P w K tg (Itt K a) [it] it (λi h=>h.IsTupleIter it a i) where
 mem:=by simp
 obj:=λi h st b hb=>by
  have e:b=it:=by simpa using hb
  subst e;obtain⟨o,e,c,d⟩:=st;exact⟨o,e,λv z=>by rw[d] at z;cases z⟩
 keep:=λi h h' st k=>st.at λo e=>k it (by simp) o e
 item:=by
  intro X hP hw hK hc i pins s σ H E I hf st hg;subst hP hw hK;obtain⟨xs,x,hq,hx⟩:=hg;obtain⟨its,rv,p,hz⟩:=I.tuple hq;obtain⟨u,hu,ru⟩:=rv.get hx;obtain⟨f0,f1,f2,f3,f4,f5⟩:=hf it (by simp);refine wpAny_pyNext_tuple_item st (show s.heap.IsTuple a its.toArray from p) (x:=u) (by simpa using hu) λh' st' sb=> ?_
  have I1:Inv X pins σ H {s with heap:=h'}:=I.turned (t':=s.toks) (λb o hb e=>(sb.2 b hb).trans e) f0 f1 f3 f4 f5;obtain⟨o,e,c,d⟩:=id st';exact⟨u,rfl,aHx (s:={s with heap:=h'}) e c d (by decide) ⟨x,H,I1,ru,⟨rfl,λys hy=>by rw[I.tuple_inj hy hq];exact hx⟩,st',λb hb=>(hf b hb).1⟩⟩
 done:=by intro X hP hw hK hc i pins s σ H E I hf st hg;subst hP hw hK;obtain⟨xs,hq,hx⟩:=hg;obtain⟨its,rv,p,hz⟩:=I.tuple hq;obtain⟨f0,f1,f2,f3,f4,f5⟩:=hf it (by simp);have hl:=rv.length;exact wpAny_pyNext_tuple_end (I.ok.hd hc) st (show s.heap.IsTuple a its.toArray from p) (by simp;omega) λh' eb=>⟨rfl,I.turned (t':=s.toks) (λb o hb e=>eb b o hb e) f0 f1 f3 f4 f5⟩
 self:=λ_ _ _ _ _ st h=>wpAny_pyIter_tupleiter st h
theorem aDF{K:aA}{tg:Expr}(it:BJ)(lo:Int)(n:Nat):aJH P w K tg (Itr lo n) [it] it (λi h=>IsRangeIter h it (lo+(i:Nat)*1) ((n:Int)-(i:Nat)) 1) where
 mem:=by simp
 obj:=λi h st b hb=>by
  have e:b=it:=by simpa using hb
  subst e
  exact ⟨_,st,fun v z=>by
   have z':Data.fields _=Data.cell v:=z
   cases z'⟩
 keep:=λi h h' st k=>k it (by simp) _ st
 item:=by
  intro X hP hw hK hc i pins s σ H E I hf st hg;subst hP hw hK;obtain⟨f0,f1,f2,f3,f4,f5⟩:=hf it (by simp);have W:=Walks.range (prog:=X.prog) (w:=X.w) (I.ok.hd hc) it lo 1 n;refine W.item i s _ _ hg st λv h' tk hv st' kk=> ?_
  obtain⟨t,rfl⟩:=hv;have I1:Inv X pins σ H {s with heap:=h',toks:=tk}:=I.turned (λb o hb e=>kk b o (by simpa using hb) e) f0 f1 f3 f4 f5;refine⟨_,rfl,aHx (s:={s with heap:=h',toks:=tk}) (n:="range_iterator") st' rfl rfl (by decide) ⟨.int<|lo+i,H,I1,⟨t, ?_⟩,⟨rfl,rfl⟩,st',λb hb=>(hf b hb).1⟩⟩;rw[Int.mul_one]
 done:=by intro X hP hw hK hc i pins s σ H E I hf st hg;subst hP hw hK;obtain⟨f0,f1,f2,f3,f4,f5⟩:=hf it (by simp);exact wpAny_pyNext_range_end (I.ok.hd hc) st (by have:n<=i:=hg;omega) λh' eb=>⟨rfl,I.turned (t':=s.toks) (λb o hb e=>eb b o hb e) f0 f1 f3 f4 f5⟩
 self:=λ_ _ _ _ _ st h=>wpAny_pyIter_rangeiter st h
variable {tg:Expr}
noncomputable def aRM(K:aA)(tl:TE):TI:=λσ H R=>tl σ H λx H1=>∃a,x=.ref a/\(∃xs,SqL K H1 a xs)/\R (Itl K a) H1
noncomputable def iTup(K:aA)(tl:TE):TI:=λσ H R=>tl σ H λx H1=>∃a,x=.ref a/\(∃xs,SqT K H1 a xs)/\R (Itt K a) H1
theorem aLG{l:Expr}{tl:TE}(hl:PE X l tl):PI X tg l (aRM X.K tl):=by
 intro pins s σ H R I h;refine thn (hl pins s σ H _ I h) λv s1 ⟨x,H1,I1,r1,q1⟩=> ?_
 obtain⟨a,e,⟨xs,hq⟩,q⟩:=q1;subst e;cases r1;obtain⟨its,rv,p,hz⟩:=I1.list hq;refine wpAny_pyIter_list p.isList ?_;refine⟨s1.heap.objs.size,[s1.heap.objs.size],_,_,H1,rfl,I1.kept (t':=s1.toks) λb o e=>aD _ e,aGr a _,⟨_,aS _ rfl,rfl,rfl⟩,λb hb=> ?_,q⟩;have e:b=s1.heap.objs.size:=by simpa using hb
 subst e;exact I1.fpOk (aR _) (I1.hok.fresh<|aR _)
theorem aOV{l:Expr}{tl:TE}(hl:PE X l tl):PI X tg l (iTup X.K tl):=by
 intro pins s σ H R I h;refine thn (hl pins s σ H _ I h) λv s1 ⟨x,H1,I1,r1,q1⟩=> ?_
 obtain⟨a,e,⟨xs,hq⟩,q⟩:=q1;subst e;cases r1;obtain⟨its,rv,p,hz⟩:=I1.tuple hq;refine wpAny_pyIter_tuple (show s1.heap.IsTuple a its.toArray from p) ?_;refine⟨s1.heap.objs.size,[s1.heap.objs.size],_,_,H1,rfl,I1.kept (t':=s1.toks) λb o e=>aD _ e,aDg a _,⟨_,aS _ rfl,rfl,rfl⟩,λb hb=> ?_,q⟩;have e:b=s1.heap.objs.size:=by simpa using hb
 subst e;exact I1.fpOk (aR _) (I1.hok.fresh<|aR _)
theorem aCj{R:It->Hp->Prop}{lo hi:Int}{t u v:Tok}{tk:Nat}(I:Inv X pins σ H s)(h1: -(2^62)<=lo)(h2:lo<2^62)(h3: -(2^62)<=hi)(h4:hi<2^62)
  (q:R (Itr lo (hi-lo).toNat) H):AE (AF X.prog X.w) X.A (pyIter<|.ref s.heap.objs.size) (PIE X pins σ tg R) E {s with heap:=s.heap.push {cls:=.type "range",data:=.fields #[.int lo t,.int hi u,.int 1 v]},toks:=tk}:=by
 refine wpAny_pyIter_range (IsRange.new ..) (small_one h1 h2 h3 h4) ?_;have I1:Inv X pins σ H {s with heap:=s.heap.push {cls:=.type "range",data:=.fields #[.int lo t,.int hi u,.int 1 v]},toks:=tk}:=I.kept λb o e=>aD _ e
 refine ⟨(s.heap.push {cls:= .type "range",data:= .fields #[.int lo t, .int hi u, .int 1 v]}).objs.size,[(s.heap.push {cls:= .type "range",data:= .fields #[.int lo t, .int hi u, .int 1 v]}).objs.size],_,_,H,rfl,
  I1.kept (t':=tk) λb o e=>aD _ e,aDF _ lo (hi-lo).toNat, ?_,λb hb=> ?_,q⟩
 ·have e1:lo+((0:Nat):Int)*1=lo:=by simp
  have e2:(((hi-lo).toNat:Nat):Int)-((0:Nat):Int)=Builtin.Range.rangeSize lo hi 1:=by rw[rangeSize_one];split<;>omega
  show IsRangeIter _ _ (lo+((0:Nat):Int)*1) ((((hi-lo).toNat:Nat):Int)-((0:Nat):Int)) 1;rw[e1,e2];exact aS _ rfl
 ·have e:b=(s.heap.push {cls:=.type "range",data:=.fields #[.int lo t,.int hi u,.int 1 v]}).objs.size:=by simpa using hb
  subst e;exact I1.fpOk (aR _) (I1.hok.fresh<|aR _)
noncomputable def aRr(ta:TA):TI:=λσ H R=>ta σ H λvs H1=>∃j:Int,vs=[.int j]/\ -(2^62)<=j/\j<2^62/\R (Itr 0 j.toNat) H1
noncomputable def aRE(ta:TA):TI:=λσ H R=>ta σ H λvs H1=>∃i j:Int,vs=[.int i,.int j]/\(-(2^62)<=i/\i<2^62/\ -(2^62)<=j/\j<2^62)/\R (Itr i (j-i).toNat) H1
theorem zT{a:Expr}{ta:TA}{p:Pos}(hg:Gl X "range")(hm:X.mg "range"=none)(ha:PA X [a] ta)(hs:AC [a] X.env=[(false,eval a X.env)]:=by rfl):PI X tg (.Call (.Name "range" p) [a] [] pos) (aRr ta):=by
 intro pins s σ H R I h;refine Call_ (hX I hg hm boot_range<|PyProof.Rows.callWith_type1 (thn (ha pos pins s σ H _ I h) λus s1 ⟨vs,H1,I1,r1,q1⟩=> ?_) hs rfl);obtain⟨j,e,q1,q2,q⟩:=q1;subst e;cases r1 with
 |cons r rr=>cases rr;obtain⟨t,rfl⟩:=r;exact call_range_1 (aCj I1 (by omega) (by omega) q1 q2<|by simpa using q)
theorem aGv{a:Expr}{ta:TA}{p:Pos}(hg:Gl X "range")(hm:X.mg "range"=none)(ha:PA X [a,b] ta)(hs:AC [a,b] X.env=[(false,eval a X.env),(false,eval b X.env)]:=by rfl)(hs2:AC [b] X.env=[(false,eval b X.env)]:=by rfl):
  PI X tg (.Call (.Name "range" p) [a,b] [] pos) (aRE ta):=by
 intro pins s σ H R I h;refine Call_<|hX I hg hm boot_range (PyProof.Rows.callWith_type1 (thn (ha pos pins s σ H _ I h) λus s1 ⟨vs,H1,I1,r1,q1⟩=> ?_) (by rw[hs,hs2])<|by rw[hs2];rfl);obtain⟨i,j,e,⟨q1,q2,q3,q4⟩,q⟩:=q1;subst e;cases r1 with
 |cons r rr=>
  cases rr with
  |cons r' rr=>cases rr;obtain⟨t,rfl⟩:=r;obtain⟨t',rfl⟩:=r';exact call_range_2<|aCj I1 q1 q2 q3 q4 q
noncomputable def tFor(wi:TI)(g:TG)(tb:TS):TS:=λD σ H=>wi σ H λJ H1=>∃W:Nat->Nat->St->Hp->Prop,(∃m,W 0 m σ H1)/\∀i m σ H,W i m σ H->
 (J.stop i H/\D.nx σ H)\/(J.go i H/\∃N:St->Hp->Prop,(∀σ' H',N σ' H'->∃m',m'<m/\W (i+1) m' σ' H')/\∀x H',J.yld i H x H'->g x σ H' λσ2 H2=>tb {D with nx:=N,ct:=N,bk:=D.nx} σ2 H2)
noncomputable def oC(fp:List BJ)(h:BL):List (BJ×BM):=fp.filterMap λb=>(h.get? b).map λo=>(b,o)
theorem jL{fp:List BJ}{b:BJ}{o:BM}(hb:b∈fp)(e:h.get? b=some o):(b,o)∈oC fp h:=aJB.mpr ⟨b,hb,by rw[e];rfl⟩
theorem uE{fp:List BJ}{p:BJ×BM}(hp:p∈oC fp h):p.1∈fp/\h.get? p.1=some p.2:=by
 obtain⟨b,hb,e⟩:=aJB.mp hp;cases q:h.get? b with
 |none=>rw[q] at e;cases e
 |some o=>rw[q] at e;have e':(b,o)=p:=bY.inj e;subst e';exact⟨hb,q⟩
theorem Inv.pinned{fp:List BJ}(I:Inv X pins σ H s)(hf:∀b∈fp,xW X pins H b)(ho:∀b∈fp,∃o,s.heap.get? b=some o/\∀v,o.data≠ .cell v):Inv X (pins++oC fp s.heap) σ H s:=
 I.pins_of λp hp=>(bC.mp hp).elim (λz=>I.pin p<|aX _ z) λz=>by obtain⟨hb,e⟩:=uE z;obtain⟨f0,f1,f2,_⟩:=hf p.1 hb;obtain⟨o,e',d⟩:=ho p.1 hb;rw[e] at e';cases e';exact⟨e,f0,f1,f2,d⟩
theorem Inv.unpinned{pl:List (BJ×BM)}(I:Inv X (pins++pl) σ H s):Inv X pins σ H s:=I.pins_of λp hp=>I.pin p (aX _<|cA _ hp)
theorem aKC{iter:Expr}{body:List BN}{wi:TI}{g:TG}{tb:TS}(hp:PassesOwn (AF X.prog X.w) X.A X.env X.xe)(hc:X.calm=true)(hi:PI X tg iter wi)(hg:PG X tg g)(hb:PSs X body tb)
  (hs:∀x,BA iter X.env x=pure x:=by intro _;rfl):PS X (.For tg iter body [] pos) (tFor wi g tb):=by
 intro pins s σ H D I h;refine wpAny_For (thn (hi pins s σ H _ I h) λv s1 h1=>thn h1 λitv s2 h2=> ?_) hs;obtain⟨it,fp,tn,J,H2,e,I2,T,st2,f2,W,⟨m0,w0⟩,turn⟩:=h2;subst e
 have stat:∀ {H':Hp},(∀b∈fp,H' b=none)->∀b∈fp,xW X pins H' b:=λhn b hb=>⟨hn b hb,(f2 b hb).2⟩
 refine codeAny_forLoop_any (λn s'=>∃i σ' H',Inv X pins σ' H' s'/\tn i s'.heap/\(∀b∈fp,H' b=none)/\W i n σ' H') ?_ m0 ⟨0,σ,H2,I2,st2,λb hb=>(f2 b hb).1,w0⟩;rintro n s3 ⟨i,σ3,H3,I3,st3,fr3,w3⟩
 rcases turn i n σ3 H3 w3 with⟨stop,qn⟩|⟨go,N,hN,step⟩
 ·refine Ar hp<|thn (T.done X rfl rfl rfl hc i pins s3 σ3 H3 X.xe I3 (stat fr3) st3 stop) λr s4 ⟨hr,I4⟩=> ?_;subst hr;exact wpAny_execs_nil ⟨σ3,H3,I4,qn⟩
 ·refine Ar hp<|thn (T.item X rfl rfl rfl hc i pins s3 σ3 H3 X.xe I3 (stat fr3) st3 go) λr s4 ⟨u,hr,h4⟩=> ?_;subst hr;refine Ar hp<|thn h4 λ_ s5 ⟨x,H5,I5,r5,y5,st5,fr5⟩=> ?_;have I5':=I5.pinned (stat fr5)<|T.obj _ _ st5;refine Ar hp<|thn (hg _ s5 σ3 H5 x u _ I5' r5<|step x H5 y5) λ_ s6 ⟨σ6,H6,I6,q6⟩=> ?_;refine Ar hp (thn (hb _ s6 σ6 H6 _ I6 q6) λf s7 q7=> ?_)
  have again:∀ {σ7:St}{H7:Hp},Inv X (pins++oC fp s5.heap) σ7 H7 s7->N σ7 H7->∃m,m<n/\∃i σ' H',Inv X pins σ' H' s7/\tn i s7.heap/\(∀b∈fp,H' b=none)/\W i m σ' H':=λ{σ7 H7} I7 n7=>by obtain⟨m',hm,w7⟩:=hN σ7 H7 n7;refine⟨m',hm,i+1,σ7,H7,I7.unpinned,T.keep _ _ _ st5 λb hb o e=>(I7.pin (b,o)<|aX _ (aX _<|jL hb e)).1,λb hb=> ?_,w7⟩;obtain⟨o,e,d⟩:=T.obj _ _ st5 b hb;exact(I7.pin (b,o)<|aX _ (aX _<|jL hb e)).2.1
  cases f with
  |next=>obtain⟨σ7,H7,I7,n7⟩:=q7;exact again I7 n7
  |cont=>obtain⟨σ7,H7,I7,n7⟩:=q7;exact again I7 n7
  |brk=>obtain⟨σ7,H7,I7,q7⟩:=q7;exact⟨σ7,H7,I7.unpinned,q7⟩
  |ret v=>obtain⟨x7,σ7,H7,I7,r7,q7⟩:=q7;exact⟨x7,σ7,H7,I7.unpinned,r7,q7⟩
noncomputable abbrev R2:=V->V->Hp->VK->Prop
def OpR(X:Cx)(f:BH->BH->Sem BH)(r:R2):Prop:=
 ∀ (pins:List (BJ×BM)) (s:BI) (σ:St) (H:Hp) (x y:V) (v u:BH) (Q:VK),Inv X pins σ H s->RelV x v->RelV y u->r x y H Q->
  AE (AF X.prog X.w) X.A (f v u) (EP X pins σ Q) X.xe s
def UnR(X:Cx)(f:BH->Sem BH)(r:V->Hp->VK->Prop):Prop:=
 ∀ (pins:List (BJ×BM)) (s:BI) (σ:St) (H:Hp) (x:V) (v:BH) (Q:VK),Inv X pins σ H s->RelV x v->r x H Q->
  AE (AF X.prog X.w) X.A (f v) (EP X pins σ Q) X.xe s
def mG(X:Cx)(f:BH)(r:List V->Hp->VK->Prop):Prop:=
 ∀ (pins:List (BJ×BM)) (s:BI) (σ:St) (H:Hp) (xs:List V) (us:List BH) (Q:VK),Inv X pins σ H s->Vals xs us->r xs H Q->
  AE (AF X.prog X.w) X.A (call f us) (EP X pins σ Q) X.xe s
noncomputable def tOp(r:R2)(ta tb:TE):TE:=λσ H Q=>ta σ H λx H1=>tb σ H1 λy H2=>r x y H2 Q
noncomputable def tUn(r:V->Hp->VK->Prop)(ta:TE):TE:=λσ H Q=>ta σ H λx H1=>r x H1 Q
noncomputable def rI(C:Int->Int->Prop)(g:Int->Int->V):R2:=λx y H Q=>∃i j,x=.int i/\y=.int j/\C i j/\Q (g i j) H
noncomputable def rI0(g:Int->Int->V):R2:=λx y H Q=>∃i j,x=.int i/\y=.int j/\Q (g i j) H
def rU(g:Int->V):V->Hp->VK->Prop:=λx H Q=>∃i,x=.int i/\Q (g i) H
variable {a c:Expr}{tc:TE}
theorem aQw(ha:PE X a ta)(hb:PE X b tb){R:V->V->Hp->Prop}(I:Inv X pins σ H s)
  (h:ta σ H λx H1=>tb σ H1 λy H2=>R x y H2) {Q:BH->BI->Prop}{f:BH->BH->Sem BH}
  (hf:∀v u s2 x y H2,Inv X pins σ H2 s2->RelV x v->RelV y u->R x y H2->AE (AF X.prog X.w) X.A (f v u) Q X.xe s2):
  AE (AF X.prog X.w) X.A (eval a X.env) (λv s₁=>AE (AF X.prog X.w) X.A (eval b X.env) (λu s₂=>AE (AF X.prog X.w) X.A (f v u) Q X.xe s₂) X.xe s₁) X.xe s:=by
 refine thn (ha pins s σ H _ I h) λv s1 ⟨x,H1,I1,r1,q1⟩=> ?_
 refine thn (hb pins s1 σ H1 _ I1 q1) λu s2 ⟨y,H2,I2,r2,q2⟩=> ?_
 exact hf v u s2 x y H2 I2 r1 r2 q2
theorem aQM{op:Operator}{r:R2}(ho:OpR X (Ag op) r)(ha:PE X a ta)(hb:PE X b tb):PE X (.BinOp a op b pos) (tOp r ta tb):=by intro pins s σ H Q I h;exact wpAny_BinOp<|aQw ha hb I h λv u s2 x y H2 I2 rx ry q=>ho pins s2 σ H2 x y v u Q I2 rx ry q
theorem aRx{op:UnaryOp}{r:V->Hp->VK->Prop}(ho:UnR X (unaryOp op) r)(ha:PE X a ta):PE X (.UnaryOp op a pos) (tUn r ta):=by intro pins s σ H Q I h;exact UnaryOp_<|thn (ha pins s σ H _ I h) λv s1 ⟨x,H1,I1,r1,q1⟩=>ho pins s1 σ H1 x v Q I1 r1 q1
theorem opI{f:BH->BH->Sem BH}{C:Int->Int->Prop}{g:Int->Int->Int}
  (rule:∀ (i j:Int) (t u:Tok) (s:BI) (Q:BH->BI->Prop) (E:BH->BI->Prop),C i j->Q (.int (g i j) s.toks) {s with toks:=s.toks+1}->AE (AF X.prog X.w) X.A (f (.int i t)<|.int j u) Q E s):
  OpR X f (rI C λi j=>.int<|g i j):=by
 intro pins s σ H x y v u Q I rx ry h;obtain⟨i,j,rfl,rfl,hc,q⟩:=h;obtain⟨t,rfl⟩:=rx;obtain⟨t',rfl⟩:=ry;exact rule i j t t' s _ _ hc ⟨.int<|g i j,H,I.tok _,⟨_,rfl⟩,q⟩
theorem aNJ{f:BH->BH->Sem BH}{g:Int->Int->Int}
  (rule:∀ (i j:Int) (t u:Tok) (s:BI) (Q:BH->BI->Prop) (E:BH->BI->Prop),Q (.int (g i j) s.toks) {s with toks:=s.toks+1}->AE (AF X.prog X.w) X.A (f (.int i t)<|.int j u) Q E s):
  OpR X f (rI0 λi j=>.int<|g i j):=by
 intro pins s σ H x y v u Q I rx ry h;obtain⟨i,j,rfl,rfl,q⟩:=h;obtain⟨t,rfl⟩:=rx;obtain⟨t',rfl⟩:=ry;exact rule i j t t' s _ _ ⟨.int<|g i j,H,I.tok _,⟨_,rfl⟩,q⟩
theorem aQa{f:BH->BH->Sem BH}{g:Int->Int->Bool}
  (rule:∀ (i j:Int) (t u:Tok) (s:BI) (Q:BH->BI->Prop) (E:BH->BI->Prop),Q (.bool<|g i j) s->AE (AF X.prog X.w) X.A (f (.int i t)<|.int j u) Q E s):
  OpR X f (rI0 λi j=>.bl<|g i j):=by
 intro pins s σ H x y v u Q I rx ry h;obtain⟨i,j,rfl,rfl,q⟩:=h;obtain⟨t,rfl⟩:=rx;obtain⟨t',rfl⟩:=ry;exact rule i j t t' s _ _ ⟨.bl<|g i j,H,I,rfl,q⟩
def CDiv(i j:Int):Prop:=0<j/\j<1073741824
def aSl(i j:Int):Prop:=0<=j/\j<=1000000/\i.natAbs<2^64
def CMul(i j:Int):Prop:=(-(2^64)<i/\i<2^64)\/(-(2^64)<j/\j<2^64)
theorem CMul.ok{i j:Int}(h:CMul i j):IntMulOk i j:=by
 rcases h with⟨h1,h2⟩|⟨h1,h2⟩
 ·exact .of_left<|intBits_le_64 h1 h2
 ·exact .of_right<|intBits_le_64 h1 h2
theorem fU:OpR X (Ag .Add) (rI0 λi j=>.int<|i+j):=aNJ λ_ _ _ _ _ _ _ q=>add_int q
theorem lV:OpR X (Ag .Sub) (rI0 λi j=>.int<|i-j):=aNJ λ_ _ _ _ _ _ _ q=>sub_int q
theorem aOU:OpR X (Ag .Mult) (rI CMul λi j=>.int<|i*j):=opI λ_ _ _ _ _ _ _ hc q=>mul_int q hc.ok
theorem aLJ:OpR X (Ag .FloorDiv) (rI CDiv λi j=>.int<|i / j):=opI λi j _ _ _ _ _ hc q=>by have h1:(0:Int)<j:=hc.1;have h2:j<1073741824:=hc.2;exact floordiv_int (by omega) (by rw[aAJ i<|by omega];exact q)<|.inl (PyProof.noPylong_small<|by omega)
theorem gK:OpR X (Ag .Mod) (rI (λ_ j=>0<j) λi j=>.int<|i%j):=opI λi j _ _ _ _ _ hc q=>by have h1:(0:Int)<j:=hc;exact mod_int' (by omega) (by rw[Int.fmod_eq_emod_of_nonneg i<|by omega];exact q)
theorem aPL:OpR X (Ag .Pow) (rI aSl λi j=>.int<|i^j.toNat):=opI λ_ _ _ _ _ _ _ hc q=>pow_int_small hc.1 hc.2.1 hc.2.2 q
theorem aPo:OpR X (Ag .LShift) (rI aSl λi j=>.int<|i*2^j.toNat):=opI λ_ _ _ _ _ _ _ hc q=>lshift_int_small hc.1 hc.2.1 hc.2.2 q
theorem aJQ:OpR X (Ag .BitAnd) (rI0 λi j=>.int<|Builtin.bitAnd i j):=aNJ λ_ _ _ _ _ _ _ q=>and_int q
theorem aOj:OpR X (Ag .BitOr) (rI0 λi j=>.int<|Builtin.bitOr i j):=aNJ λ_ _ _ _ _ _ _ q=>or_int q
theorem aKt:OpR X (Ag .BitXor) (rI0 λi j=>.int<|Builtin.bitXor i j):=aNJ λ_ _ _ _ _ _ _ q=>xor_int q
theorem unI{f:BH->Sem BH}{g:Int->Int}
  (rule:∀ (i:Int) (t:Tok) (s:BI) (Q:BH->BI->Prop) (E:BH->BI->Prop),Q (.int (g i) s.toks) {s with toks:=s.toks+1}->AE (AF X.prog X.w) X.A (f<|.int i t) Q E s):
  UnR X f (rU λi=>.int<|g i):=by
 intro pins s σ H x v Q I rx h;obtain⟨i,rfl,q⟩:=h;obtain⟨t,rfl⟩:=rx;exact rule i t s _ _ ⟨.int<|g i,H,I.tok _,⟨_,rfl⟩,q⟩
theorem aPI:UnR X (unaryOp .USub) (rU λi=>.int (-i)):=unI λ_ _ _ _ _ q=>neg_int q
noncomputable def aPU:V->V->Bool
 |.non,.non=>true | .non,.int _=>true | .int _,.non=>true | .non,.bl _=>true | .bl _,.non=>true | .non,.str _=>true | .str _,.non=>true
 |.int _,.int _=>true | .bl _,.bl _=>true | .str _,.str _=>true | .byt _,.byt _=>true
 |.int _,.str _=>true | .str _,.int _=>true | .bl _,.str _=>true | .str _,.bl _=>true
 |_,_=>false
noncomputable def rEq:R2:=λx y H Q=>aPU x y=true/\Q (.bl (decide<|x=y)) H
noncomputable def rNe:R2:=λx y H Q=>aPU x y=true/\Q (.bl<|!decide (x=y)) H
theorem vQ{i j:Int}:decide (V.int i=V.int j)=(i==j):=by rw[gM];simp
theorem aEq{i j:Bool}:decide (V.bl i=V.bl j)=(i==j):=by rw[gM];simp
theorem aEz{i j:Str}:decide (V.str i=V.str j)=(i==j):=by rw[gM];simp
theorem aFK{i j:Array UInt8}:decide (V.byt i=V.byt j)=(i.toList==j.toList):=by rw[gM];cases i;cases j;simp
theorem eJ{Q:VK}{k k':Bool}(I:Inv X pins σ H s)(q:Q (.bl k) H)(e:k=k'):EP X pins σ Q (.bool k') s:=by subst e;exact⟨.bl k,H,I,rfl,q⟩
theorem aQX:OpR X (AO .Eq) rEq:=by
 intro pins s σ H x y v u Q I rx ry h;obtain⟨hs,q⟩:=h;cases x with
 |non=>
  cases rx;cases y with
  |non=>cases ry;exact PySem.EqNone.eq_none_none (eJ I q<|by simp)
  |bl j=>cases ry;exact PySem.EqNone.eq_none_bool (eJ I q<|by simp)
  |int j=>obtain⟨t',rfl⟩:=ry;exact PySem.EqNone.eq_none_int (eJ I q<|by simp)
  |str j=>obtain⟨t',rfl⟩:=ry;exact PySem.EqNone.eq_none_str (eJ I q<|by simp)
  |_=>exact absurd (show false=true from hs) bO
 |bl i=>
  cases rx;cases y with
  |non=>cases ry;exact PySem.EqNone.eq_bool_none (eJ I q<|by simp)
  |bl j=>cases ry;exact eq_bool<|eJ I q aEq
  |str j=>obtain⟨t',rfl⟩:=ry;exact PySem.EqMixed.eq_bool_str (eJ I q<|by simp)
  |_=>exact absurd (show false=true from hs) bO
 |int i=>
  obtain⟨t,rfl⟩:=rx;cases y with
  |non=>cases ry;exact PySem.EqNone.eq_int_none (eJ I q<|by simp)
  |int j=>obtain⟨t',rfl⟩:=ry;exact eq_int<|eJ I q vQ
  |str j=>obtain⟨t',rfl⟩:=ry;exact PySem.EqMixed.eq_int_str (eJ I q<|by simp)
  |_=>exact absurd (show false=true from hs) bO
 |str i=>
  obtain⟨t,rfl⟩:=rx;cases y with
  |non=>cases ry;exact PySem.EqNone.eq_str_none (eJ I q<|by simp)
  |bl j=>cases ry;exact PySem.EqMixed.eq_str_bool (eJ I q<|by simp)
  |int j=>obtain⟨t',rfl⟩:=ry;exact PySem.EqMixed.eq_str_int (eJ I q<|by simp)
  |str j=>obtain⟨t',rfl⟩:=ry;exact eq_str<|eJ I q aEz
  |_=>exact absurd (show false=true from hs) bO
 |byt i=>
  obtain⟨t,rfl⟩:=rx;cases y with
  |byt j=>obtain⟨t',rfl⟩:=ry;exact PySem.W.eq_bytes<|eJ I q aFK
  |_=>exact absurd (show false=true from hs) bO
 |_=>cases y<;>exact absurd (show false=true from hs) bO
theorem aRh:OpR X (AO .NotEq) rNe:=by
 intro pins s σ H x y v u Q I rx ry h;obtain⟨hs,q⟩:=h;cases x with
 |non=>
  cases rx;cases y with
  |non=>cases ry;exact PySem.EqNone.ne_none_none (eJ I q<|by simp)
  |bl j=>cases ry;exact PySem.EqNone.ne_none_bool (eJ I q<|by simp)
  |int j=>obtain⟨t',rfl⟩:=ry;exact PySem.EqNone.ne_none_int (eJ I q<|by simp)
  |str j=>obtain⟨t',rfl⟩:=ry;exact PySem.EqNone.ne_none_str (eJ I q<|by simp)
  |_=>exact absurd (show false=true from hs) bO
 |bl i=>
  cases rx;cases y with
  |non=>cases ry;exact PySem.EqNone.ne_bool_none (eJ I q<|by simp)
  |bl j=>cases ry;exact ne_bool (eJ I q<|congrArg not aEq)
  |str j=>obtain⟨t',rfl⟩:=ry;exact PySem.EqMixed.ne_bool_str (eJ I q<|by simp)
  |_=>exact absurd (show false=true from hs) bO
 |int i=>
  obtain⟨t,rfl⟩:=rx;cases y with
  |non=>cases ry;exact PySem.EqNone.ne_int_none (eJ I q<|by simp)
  |int j=>obtain⟨t',rfl⟩:=ry;exact ne_int (eJ I q<|congrArg not vQ)
  |str j=>obtain⟨t',rfl⟩:=ry;exact PySem.EqMixed.ne_int_str (eJ I q<|by simp)
  |_=>exact absurd (show false=true from hs) bO
 |str i=>
  obtain⟨t,rfl⟩:=rx;cases y with
  |non=>cases ry;exact PySem.EqNone.ne_str_none (eJ I q<|by simp)
  |bl j=>cases ry;exact PySem.EqMixed.ne_str_bool (eJ I q<|by simp)
  |int j=>obtain⟨t',rfl⟩:=ry;exact PySem.EqMixed.ne_str_int (eJ I q<|by simp)
  |str j=>obtain⟨t',rfl⟩:=ry;exact ne_str (eJ I q<|congrArg not aEz)
  |_=>exact absurd (show false=true from hs) bO
 |byt i=>
  obtain⟨t,rfl⟩:=rx;cases y with
  |byt j=>obtain⟨t',rfl⟩:=ry;exact PySem.W.ne_bytes (eJ I q<|congrArg not aFK)
  |_=>exact absurd (show false=true from hs) bO
 |_=>cases y<;>exact absurd (show false=true from hs) bO
theorem aLw:OpR X (AO .Lt) (rI0 λi j=>.bl (decide<|i<j)):=aQa λ_ _ _ _ _ _ _ q=>lt_int q
theorem aOr:OpR X (AO .LtE) (rI0 λi j=>.bl (decide<|i<=j)):=aQa λ_ _ _ _ _ _ _ q=>le_int q
theorem aLr:OpR X (AO .Gt) (rI0 λi j=>.bl (decide<|j<i)):=aQa λ_ _ _ _ _ _ _ q=>gt_int q
theorem aLz:OpR X (AO .GtE) (rI0 λi j=>.bl (decide<|j<=i)):=aQa λ_ _ _ _ _ _ _ q=>ge_int q
theorem aJM:OpR X (AO .Is) (λx y H Q=>y=.non/\Q (.bl (decide<|x=.non)) H):=by
 intro pins s σ H x y v u Q I rx ry h;obtain⟨rfl,q⟩:=h;cases ry;refine is_none_gen<|eJ I q ?_
 cases x<;>first
  |(cases rx;rfl)
  |(obtain⟨t,rfl⟩:=rx;rfl)
theorem aLX:OpR X (AO .IsNot) (λx y H Q=>y=.non/\Q (.bl<|!decide (x=.non)) H):=by
 intro pins s σ H x y v u Q I rx ry h;obtain⟨rfl,q⟩:=h;cases ry;refine isnot_none_gen<|eJ I q ?_
 cases x<;>first
  |(cases rx;rfl)
  |(obtain⟨t,rfl⟩:=rx;rfl)
theorem OpR.or{f:BH->BH->Sem BH}{r r':R2}(h:OpR X f r)(h':OpR X f r'):OpR X f (λx y H Q=>r x y H Q\/r' x y H Q):=by
 intro pins s σ H x y v u Q I rx ry q
 rcases q with q|q
 ·exact h pins s σ H x y v u Q I rx ry q
 ·exact h' pins s σ H x y v u Q I rx ry q
theorem iM(b:Expr){op:CmpOp}(h:op≠ .In:=by decide)(h2:op≠ .NotIn:=by decide):AR op b=false:=by
 have e1:(op==CmpOp.In)=false:=by cases op<;>first|rfl|exact absurd rfl h
 have e2:(op==CmpOp.NotIn)=false:=by cases op<;>first|rfl|exact absurd rfl h2
 cases b<;>simp[AR,e1,e2]
theorem aLR{op:CmpOp}{r:R2}(ho:OpR X (AO op) r)(ha:PE X a ta)(hb:PE X b tb)(hm:AR op b=false):PE X (.Compare a [op] [b] pos) (tOp r ta tb):=by intro pins s σ H Q I h;exact wpAny_Compare1 (aQw ha hb I h λv u s2 x y H2 I2 rx ry q=>ho pins s2 σ H2 x y v u Q I2 rx ry q) hm
noncomputable def aRd(t:TE):TT:=λσ H Q=>t σ H λx H'=>∃k,x=.bl k/\Q k H'
theorem aBb{op:CmpOp}{r:R2}(ho:OpR X (AO op) r)(ha:PE X a ta)(hb:PE X b tb)(hm:AR op b=false):PT X (.Compare a [op] [b] pos) (aRd<|tOp r ta tb):=by
 intro pins s σ H Q I h
 refine wpAny_isTrue_Compare1 (thn (ha pins s σ H _ I h) λv s1 ⟨x,H1,I1,r1,q1⟩=>thn (hb pins s1 σ H1 _ I1 q1) λu s2 ⟨y,H2,I2,r2,q2⟩=>thn (ho pins s2 σ H2 x y v u _ I2 r1 r2 q2) λc s3 ⟨z,H3,I3,r3,k,e,q3⟩=> ?_) hm
 subst e;cases r3;exact Az ⟨H3,I3,q3⟩
theorem wU:(AH:Nat)<2^63:=by rw[AU];decide
theorem mL{x:V}{us:List BH}(r:Vals [x] us):∃u,us=[u]/\RelV x u:=by
 cases r with
 |cons r1 r2=>cases r2;exact⟨_,rfl,r1⟩
theorem aOt{x y:V}{us:List BH}(r:Vals [x,y] us):∃u w',us=[u,w']/\RelV x u/\RelV y w':=by
 cases r with
 |cons r1 r2=>
  cases r2 with
  |cons r3 r4=>cases r4;exact⟨_,_,rfl,r1,r3⟩
theorem aGE(hc:X.calm=true):mG X (.builtin "min") (λxs H Q=>∃i j,xs=[.int i,.int j]/\Q (.int (if j<i then j else i)) H):=by
 intro pins s σ H xs us Q I r h;obtain⟨i,j,rfl,q⟩:=h;obtain⟨u,w',rfl,⟨t,rfl⟩,⟨t',rfl⟩⟩:=aOt r;refine min_two_ints (I.ok.hd hc) λh' tk k=>⟨_,H,I.kept k, ?_,q⟩
 by_cases hj:j<i
 ·rw[if_pos hj,if_pos hj];exact⟨_,rfl⟩
 ·rw[if_neg hj,if_neg hj];exact⟨_,rfl⟩
structure ObjM(h:BL)(x dx C:BJ)(mA:Str->Option BH):Prop where
 obj:h.get? x=some (cN C dx)
 ns:h.Ns1 dx mA
 ne:dx≠x
theorem aGy{dx:BJ}{mA:Str->Option BH}(n:h.Ns1 dx mA):∃od,h.get? dx=some od/\∀name,pJ name od=some (mA name):=by
 obtain⟨o,es,ep,ho,hd,hk,_,hm⟩:=n;refine⟨o,ho,λname=> ?_⟩;have e:=hm name;unfold nsFind findBy at e;rw[<-Array.find?_toList] at e;unfold pJ;rw[hd];dsimp only
 split
 ·rename_i y q;rw[q] at e;exact congrArg some e
 ·rename_i q;rw[q] at e
  have a:es.toList.any (·.refKey)=false:=by rw[List.any_eq_false];intro y hy;obtain⟨z,t,hkey⟩:=hk y<|aDK.mp hy;simp[DictEntry.refKey,hkey]
  have a':¬ es.toList.any (·.refKey)=true:=by rw[a];exact bO
  rw[if_neg a'];exact congrArg some e
theorem ObjM.look{dx C:BJ}{mA:Str->Option BH}(I:ObjM h x dx C mA):∃od,PySem.W.InstAt h x (cN C dx) C (some od)/\∀name,pJ name od=some (mA name):=
 let ⟨od,ho,hl⟩:=aGy I.ns
 ⟨od,⟨I.obj,rfl,rfl,ho⟩,hl⟩
variable {prog:AD}{A:BK}{K:aA}{dx C f:BJ}{mA:Str->Option BH}{name:Str}{v:BH}
theorem aAZ{expr:Bool}{Q:BH->BI->Prop}(X:K.In s.heap)(I:ObjM s.heap x dx C mA)(hg:kK K C name=true)(hh:mN K C=true)
  (ha:dF K (.ref C) name=some none) (hv:mA name=some v) (hv':aHp v=true) (h:Q v {s with toks:=s.toks+1}):
  AE (AF prog w) A (getAttr (.ref x) name expr) Q E s:=by
 obtain⟨od,J,hl⟩:=I.look;exact PySem.W.get_value X J (qI hg).1 (PySem.W.findObj_own hh ha rfl<|by rw[hl,hv]) hv' h
theorem aIm{pl:Sem Bool}{Q:BH×List BH->BI->Prop}(X:K.In s.heap)(I:ObjM s.heap x dx C mA)(hg:kK K C name=true)
  (hf:dF K (.ref C) name=some (some<|.ref f)) (ht:oH K (.ref f)=true) (hv:mA name=none) (h:Q (.ref f,[.ref x]) s):
  AE (AF prog w) A (getMethod (.ref x) name pl) Q E s:=by
 obtain⟨od,J,hl⟩:=I.look;exact PySem.W.method_fn X J (qI hg).1 (qI hg).2 hf (beq_iff_eq.mp ht) (by show(pJ name od).map (·.isSome)=some false;rw[hl,hv];rfl) h
theorem aMO{ns:List Str}{Q:Unit->BI->Prop}(X:K.In s.heap)(I:ObjM s.heap x dx C mA)
  (hs:dF K (.ref C) "__setattr__"=some (some<|.builtin "object.__setattr__")) (hp:tH K C=true) (ht:vF K C name=some none) (hh:mN K C=true)
  (hw:PySem.Within mA ns) (hsz:ns.length<=AH)
  (h:∀h',ObjM h' x dx C (λy=>if y=name then some v else mA y)->Heap.SameBut dx s.heap h'->Q () {s with heap:=h',toks:=s.toks+2}):
  AE (AF prog w) A (setAttr (.ref x) name v) Q E s:=by
 obtain⟨od,J,hl⟩:=I.look;refine PySem.W.set_plain X J hs<|PySem.W.osa_open (s:={s with toks:=s.toks+1}) (r:=none) X J hp ht λb=> ?_;obtain⟨cd,hc,hd'⟩:=PySem.W.any_some hh;have hx:s.heap.get? x=some ⟨.ref C,some dx,.plain, #[]⟩:=I.obj;refine AA (AB<|AA (AA<|wpAny_loadPart hx (AA<|PySem.W.Looks.here (s:={s with toks:=s.toks+1}) (PySem.W.looks_clsIn X hc) ?_)));rw[hd'];refine AB (a:=some dx)<|AA (AB<|AA ?_);refine wpAny_nsSet1 (s:={s with toks:=s.toks+1}) I.ns λh' hn2 hs2=> ?_
 obtain⟨oD,esD,epD,hoD,hdD,hcD⟩:=hn2.count<|PySem.Within.cons name v hw;refine AA<|wpAny_lookBehind hoD (by rw[hdD];exact pastItsLine_dict (bZ hcD<|by rw[bP];omega)) ?_;exact AB<|h _ ⟨(hs2.2 _<|Ne.symm I.ne).trans I.obj,hn2,I.ne⟩ hs2
theorem aJa{R:Result->BI->Prop}{vs:List BH}{kw:List (Str×BH)}(X:K.In s.heap)(hm:vG K C=true)
  (hi:dF K (.ref C) "__init__"=some (some<|.ref f)) (hf:PySem.W.typeIn K (.ref f)=some (.type "function"))
  (h:At (AF prog w) (A.under (.builtin "type.__call__" ⟨.ref C::vs,kw⟩)) (.call (.ref f) ⟨.ref (s.heap.objs.size+1)::vs,kw⟩) (PySem.W.InitBack (s.heap.objs.size+1) R)
   {s with heap:=(s.heap.push fD).push (cN C s.heap.objs.size)}):
  At (AF prog w) A (.call (.ref C) ⟨vs,kw⟩) R s:=by
 obtain⟨hh,g,d,t,os⟩:=s;exact PySem.W.make_core (PySem.W.makes_of X hm) (PySem.W.looks_findIn X hi) (λself=>PySem.W.bind_fn X self hf) (.inl rfl) h
noncomputable def nC(f:Str)(v:V):List (Str×V)->List (Str×V)
 |[]=>[(f,v)]
 |(g,x)::r=>if g=f then(g,v)::r else(g,x)::nC f v r
theorem fR(f g:Str)(v:V):∀fs:List (Str×V),(nC f v fs).lookup g=if g=f then some v else fs.lookup g
 |[]=>by
  show iW g [(f,v)]=_
  by_cases h:g=f
  ·have hb:(g==f)=true:=beq_iff_eq.mpr h;simp only[iW,hb,if_pos h]
  ·have hb:(g==f)=false:=beq_eq_false_iff_ne.mpr h;simp only[iW,hb,if_neg h]
 |(k,x)::r=>by
  have ih:=fR f g v r;rw[show nC f v ((k,x)::r)=(if k=f then(k,v)::r else(k,x)::nC f v r) from rfl]
  by_cases hk:k=f
  ·rw[if_pos hk]
   by_cases h:g=k
   ·have hb:(g==k)=true:=beq_iff_eq.mpr h;simp only[iW,hb,if_pos<|h.trans hk]
   ·have hb:(g==k)=false:=beq_eq_false_iff_ne.mpr h;simp only[iW,hb,if_neg (λe:g=f=>h<|e.trans hk.symm)]
  ·rw[if_neg hk]
   by_cases h:g=k
   ·have hb:(g==k)=true:=beq_iff_eq.mpr h;simp only[iW,hb,if_neg (λe:g=f=>hk<|h.symm.trans e)]
   ·have hb:(g==k)=false:=beq_eq_false_iff_ne.mpr h;simp only[iW,hb];exact ih
theorem uF(f:Str)(v:V):∀fs:List (Str×V),f∈(nC f v fs).map (·.1)/\∀g,g∈fs.map (·.1)->g∈(nC f v fs).map (·.1)
 |[]=>⟨by simp[nC],λg h=>by simp at h⟩
 |(k,x)::r=>by
  obtain⟨i1,i2⟩:=uF f v r;rw[show nC f v ((k,x)::r)=(if k=f then(k,v)::r else(k,x)::nC f v r) from rfl]
  by_cases hk:k=f
  ·rw[if_pos hk];subst hk;exact⟨by simp,λg h=>by simpa using h⟩
  ·rw[if_neg hk];refine⟨?_,λg h=> ?_⟩
   ·rw[aV];exact aE _ i1
   ·rw[aV] at h ⊢
    rcases aU.mp h with e|e
    ·exact aU.mpr<|.inl e
    ·exact aE _<|i2 g e
theorem mH(f:Str)(v:V):∀fs:List (Str×V),(nC f v fs).length<=fs.length+1
 |[]=>by simp[nC]
 |(k,x)::r=>by
  have ih:=mH f v r;rw[show nC f v ((k,x)::r)=(if k=f then(k,v)::r else(k,x)::nC f v r) from rfl]
  by_cases hk:k=f
  ·rw[if_pos hk,bP,bP];omega
  ·rw[if_neg hk,bP,bP];omega
theorem RelO.some_of{v:V}{o:Option BH}(r:RelO (some v) o):∃u,o=some u/\RelV v u:=by
 cases o with
 |none=>exact(show False from r).elim
 |some u=>exact⟨u,rfl,r⟩
theorem RelO.none_of{o:Option BH}(r:RelO none o):o=none:=by
 cases o with
 |none=>rfl
 |some u=>exact(show False from r).elim
theorem uI{v:V}{u:BH}(r:RelV v u):aHp u=true:=by
 cases v with
 |non=>cases(show u=Value.none from r);rfl
 |bl b=>cases(show u=Value.bool b from r);rfl
 |int i=>obtain⟨t,e⟩:=(show ∃t,u=Value.int i t from r);cases e;rfl
 |str x=>obtain⟨t,e⟩:=(show ∃t,u=Value.str x t from r);cases e;rfl
 |byt b=>obtain⟨t,e⟩:=(show ∃t,u=Value.bytes b t from r);cases e;rfl
 |flt b=>obtain⟨t,e⟩:=(show ∃t,u=Value.float b t from r);cases e;rfl
 |ref a=>cases(show u=Value.ref a from r);rfl
 |ty n=>cases(show u=Value.type n from r);rfl
variable {a:BJ}{fs fs':List (Str×V)}
theorem aAO(hok:HOk P w H h)(e:H a=some (.ins C dx fs)):∃mA,ObjM h a dx C mA/\(∀f,RelO (fs.lookup f)<|mA f)/\PySem.Within mA (fs.map (·.1))/\fs.length<=1000/\H dx=some (.own a):=by obtain⟨d,z,ne,ob,mA,n,r,q⟩:=(show ObjOk P w H h a (.ins C dx fs) from hok a _ e);exact⟨mA,⟨ob,n,ne⟩,r,q,z,d⟩
structure Cls(K:aA)(C:BJ):Prop where
 pg:kK K C Str.empty=true
 hd:mN K C=true
 po:tH K C=true
 sa:dF K (.ref C) "__setattr__"=some (some<|.builtin "object.__setattr__")
theorem Cls.get(c:Cls K C)(f:Str):kK K C f=true:=c.pg
def NoAttr(K:aA)(C:BJ)(f:Str):Prop:=dF K (.ref C) f=some none
theorem NoAttr.taker{f:Str}(n:NoAttr K C f):vF K C f=some none:=by unfold vF;rw[show dF K (.ref C) f=some none from n];rfl
structure Con(K:aA)(C:BJ)(f:Str)(v:V)(u:BH):Prop where
 at_:dF K (.ref C) f=some (some u)
 rel:RelV v u
 get:aHg K u "__get__"=some none
 cp:PySem.W.copiedNames.contains f=false
structure aQd(K:aA)(C:BJ)(m:Str)(f:BJ):Prop where
 at_:dF K (.ref C) m=some (some<|.ref f)
 fn:oH K (.ref f)=true
 kp:cU K (.ref f)=true
variable {f:Str}{v:V}
theorem aDp{y:V}{u:BH}{Q:Unit->BI->Prop}(I:Inv X pins σ H s)(e:H a=some (.ins C dx fs))(c:Cls X.K C)(n:NoAttr X.K C f)(hl:fs.length<1000)(ry:RelV y u)
  (h:∀s',Inv X pins σ (upd H a (.ins C dx<|nC f y fs)) s'->Q () s'):AE (AF X.prog X.w) A (setAttr (.ref a) f u) Q E s:=by
 obtain⟨mA,O,r,wi,_,ho⟩:=aAO I.hok e;have hz:(fs.map (·.1)).length<=AH:=by rw[aB,AU];omega
 refine aMO I.kIn O c.sa c.po n.taker c.hd wi hz λh' O' sb=>h _ ?_
 have hd:∃o,h'.get? dx=some o:=let ⟨o,_,_,e',_⟩:=O'.ns;⟨o,e'⟩
 refine I.write (x:=a) (e:=dx) (by rw[e];exact True.intro) (.inr ho) (λb q hb z=>(sb.2 b hb).trans z) hd ?_;refine⟨by rw[bD O.ne];exact ho, ?_,O.ne,O'.obj,_,O'.ns,λg=> ?_,λg hg=> ?_⟩
 ·have:=mH f y fs;omega
 ·show RelO ((nC f y fs).lookup g) (if g=f then some u else mA g);rw[fR]
  by_cases q:g=f
  ·rw[if_pos q,if_pos q];exact ry
  ·rw[if_neg q,if_neg q];exact r g
 ·by_cases q:g=f
  ·rw[q];exact(uF f y fs).1
  ·refine(uF f y fs).2 g<|wi g λz=>hg ?_;show(if g=f then some u else mA g)=none;rw[if_neg q];exact z
theorem Inv.made(I:Inv X pins σ H s):Inv X pins σ (upd (upd H s.heap.objs.size (.own<|s.heap.objs.size+1)) (s.heap.objs.size+1)<|.ins C s.heap.objs.size [])
  {s with heap:=(s.heap.push fD).push (cN C s.heap.objs.size)}:=by
 have e1:(s.heap.push fD).get? s.heap.objs.size=some fD:=aS s.heap rfl
 have e2:((s.heap.push fD).push<|cN C s.heap.objs.size).get? (s.heap.objs.size+1)=some (cN C s.heap.objs.size):=by
  have:=aS (s.heap.push fD) (o:=cN C s.heap.objs.size) rfl
  rwa[mM] at this
 have e3:(s.heap.push fD).Ns s.heap.objs.size (λ_=>none):=⟨fD, #[],_,e1,rfl,(λe he=>absurd he<|by simp),λ_=>rfl⟩;have I1:=I.laid (a:=s.heap.objs.size) (o:=.own<|s.heap.objs.size+1) (h':=s.heap.push fD) (t':=s.toks) (λb u q=>aD _ q) (aR _) ⟨_,e1⟩;refine I1.laid (a:=s.heap.objs.size+1) (o:=.ins C s.heap.objs.size []) (t':=s.toks) (λb u q=>aD _ q) (pG<|mM _ _) ?_;have ne:s.heap.objs.size≠s.heap.objs.size+1:=bM<|jG _;refine⟨by rw[bD ne,bL],cD _,ne,e2,λ_=>none,(Heap.Ns1.of_empty e3).at λo q=>aD _ q,λ_=>True.intro,λy hy=>absurd rfl hy⟩
theorem aBu{env:Env}{Q:BH->BI->Prop}(hb:Ad e f env (eval e env)=eval e env)
  (h:AE (AF prog w) A (eval e env) (λo s₁=>AE (AF prog w) A (getAttr o f true) Q E s₁) E s):AE (AF prog w) A (eval (.Attribute e f pos) env) Q E s:=
 Attribute_any_ h (by rw[arm_eval_Attribute,hb])
noncomputable def sFld(K:aA)(ta tv:TE)(f:Str):TS:=λD σ H=>tv σ H λy H1=>ta σ H1 λx H2=>∃a C dx fs,x=.ref a/\H2 a=some (.ins C dx fs)/\Cls K C/\NoAttr K C f/\fs.length<1000/\
 D.nx σ (upd H2 a (.ins C dx<|nC f y fs))
variable {o value:Expr}{pos' tpos:Pos}{tv:TE}
theorem aDW(ha:PE X o ta)(hv:PE X value tv)(hs:AX value (some<|.Attribute o f pos') pos.line X.env=pure false):PS X (.Assign [.Attribute o f pos'] value pos) (sFld X.K ta tv f):=by intro pins s σ H D I h;refine plainObj_wpAny_Assign_Attribute (thn (hv pins s σ H _ I h) λu s1 ⟨y,H1,I1,ry,q⟩=>thn (ha pins s1 σ H1 _ I1 q) λov s2 ⟨x,H2,I2,rx,a,C,dx,fs,ex,ea,c,n,l,q2⟩=> ?_) hs;subst ex;obtain rfl:ov=Value.ref a:=rx;exact aDp I2 ea c n l ry λs3 I3=>⟨σ,_,I3,q2⟩
variable {Q:BH->BI->Prop}{c:BH}{b:Bool}
inductive sO(K:aA)(H:Hp):V->BH->Prop where
 |non:sO K H .non (.type "NoneType")
 |bl (x:Bool):sO K H (.bl x) (.type "bool")
 |int (i:Int):sO K H (.int i) (.type "int")
 |str (x:Str):sO K H (.str x) (.type "str")
 |flt (x:UInt64):sO K H (.flt x) (.type "float")
 |lst {a:BJ}{xs:List V} (e:H a=some (.lst xs)):sO K H (.ref a) (.type "list")
 |frz {a:BJ}{o:BM}{xs:List V} (e:H a=some (.frz o<|.lst xs)):sO K H (.ref a) (.type "list")
 |tup {a:BJ}{xs:List V} (e:H a=some (.tup xs)):sO K H (.ref a) (.type "tuple")
 |dK {a:BJ}{kvs:List (Key×V)} (e:Rd H a (.dK kvs)):sO K H (.ref a) (.type "dict")
 |dT {a:BJ}{kvs:List (List Key×V)} (e:H a=some (.dT kvs)):sO K H (.ref a) (.type "dict")
 |ins {a C dx:BJ}{fs:List (Str×V)} (e:H a=some (.ins C dx fs)) (cl:Cls K C) (ha:dF K (.ref C) "__class__"=some (some<|.builtin "object.__class__"))
   (hn:aHg K (.builtin "object.__class__") "__get__"=some (some<|.builtin "getset_descriptor.__get__")) (htk:PySem.W.takesIn K (.builtin "object.__class__")=some true)
   (hm:PySem.W.mroIn K C (.type "object")=some true):sO K H (.ref a) (.ref C)
theorem aGD{x:V}{u t:BH}(I:Inv X pins σ H s)(rx:RelV x u)(ty:sO X.K H x t)(e:lY X.K t c=some b)(h:∀tk,Q (.bool b) {s with toks:=tk}):
  AE (AF X.prog X.w) A (call (.builtin "isinstance") [u,c]) Q E s:=by
 cases ty with
 |non=>cases(show u=Value.none from rx);exact eQ PySem.W.kitx_none I.kIn True.intro e (λz=>nomatch z) h
 |bl y=>cases(show u=Value.bool y from rx);exact eQ PySem.W.kitx_bool I.kIn True.intro e (λz=>nomatch z) h
 |int i=>obtain⟨t,q⟩:=(show ∃t,u=Value.int i t from rx);cases q;exact eQ PySem.W.kitx_int I.kIn True.intro e (λz=>nomatch z) h
 |str y=>obtain⟨t,q⟩:=(show ∃t,u=Value.str y t from rx);cases q;exact eQ PySem.W.kitx_str I.kIn True.intro e (λz=>nomatch z) h
 |flt y=>obtain⟨t,q⟩:=(show ∃t,u=Value.float y t from rx);cases q;exact eQ PySem.W.kitx_float I.kIn True.intro e (λz=>nomatch z) h
 |@lst a xs ea=>cases(show u=Value.ref a from rx);obtain⟨_,_,n,_,h1⟩:=(show ObjOk X.prog X.w H s.heap a (.lst xs) from I.hok a _ ea);exact eQ aHh I.kIn ⟨_,h1,rfl⟩ e (λz=>nomatch z) h
 |@frz a ob xs ea=>cases(show u=Value.ref a from rx);obtain⟨_,_,_,n,_,h1⟩:=(show ObjOk X.prog X.w H s.heap a (.frz ob<|.lst xs) from I.hok a _ ea);exact eQ aHh I.kIn ⟨_,h1,rfl⟩ e (λz=>nomatch z) h
 |@tup a xs ea=>cases(show u=Value.ref a from rx);obtain⟨_,_,_,p⟩:=(show ObjOk X.prog X.w H s.heap a (.tup xs) from I.hok a _ ea);obtain⟨o,h1,h2,_⟩:=p;exact eQ PySem.W.kitx_tuple I.kIn ⟨o,h1,h2⟩ e (λz=>nomatch z) h
 |@dK a kvs ea=>cases(show u=Value.ref a from rx);obtain⟨_,_,vs,_,p⟩:=(show ObjOk X.prog X.w H s.heap a (.dK kvs) from ea.ok I.hok);obtain⟨o,es,ep,h1,h2,_⟩:=p;exact eQ aHi I.kIn ⟨o,h1,h2.1⟩ e (λz=>nomatch z) h
 |@dT a kvs ea=>cases(show u=Value.ref a from rx);obtain⟨_,_,xs,_,o,es,ep,h1,h2,_⟩:=(show ObjOk X.prog X.w H s.heap a (.dT kvs) from I.hok a _ ea);exact eQ aHi I.kIn ⟨o,h1,h2.1⟩ e (λz=>nomatch z) h
 |@ins a C dx fs ea cl ha hn htk hm=>cases(show u=Value.ref a from rx);obtain⟨mA,O,_⟩:=aAO I.hok ea;obtain⟨od,J,_⟩:=O.look;exact eQ (PySem.W.kitx_own (cl.get _) cl.hd ha hn htk hm) I.kIn J e (λz=>nomatch z) h
structure Room(k:Nat)(A:BK):Prop where
 hd:A.handled=none
 dp:A.depth+3*k+5<recursionLimit
 un:A.units+16*k+200<AM
 gd:A.guards=some []
theorem Room.mono{j k:Nat}(r:Room k A)(h:j<=k):Room j A:=⟨r.hd,by have:=r.dp;omega,by have:=r.un;omega,r.gd⟩
theorem Room.deeper{k:Nat}(r:Room (k+1) A)(env:Env):Room k (A.deeper env):=
 ⟨r.hd,by have:=r.dp;show A.depth+1+3*k+5<_;omega,by have:=r.un;show A.units+3+16*k+200<_;omega,r.gd⟩
theorem aDr{us:List BH}{kw:List (Str×BH)}:(A.under<|.builtin "type.__call__" ⟨.ref C::us,kw⟩).depth=A.depth+1:=by first|rfl|simp[Around.under,Code.weight,Code.isCreation,Code.isGuard,Code.isCaller,Code.frames,Code.isFrame,guardIds]
theorem aDE{us:List BH}{kw:List (Str×BH)}:(A.under<|.builtin "type.__call__" ⟨.ref C::us,kw⟩).units=A.units+1:=by first|rfl|simp[Around.under,Code.cUnits,Code.frames,Code.isFrame]
theorem Room.make{k:Nat}(r:Room (k+1) A)(C:BJ)(us:List BH)(kw:List (Str×BH)):Room k (A.under<|.builtin "type.__call__" ⟨.ref C::us,kw⟩):=
 ⟨r.hd,by have:=r.dp;rw[aDr];omega,by have:=r.un;rw[aDE];omega,by rw[show(A.under<|.builtin "type.__call__" ⟨.ref C::us,kw⟩).guards=pushGuards (Code.builtin "type.__call__" ⟨.ref C::us,kw⟩).guards A.guards from rfl,r.gd];first|rfl|simp[Code.guards,Code.isGuard,guardIds,pushGuards]⟩
theorem Room.depth{k:Nat}(r:Room k A):A.depth<recursionLimit:=by have:=r.dp;omega
noncomputable def yH:TA:=λ_ H Q=>Q [] H
noncomputable def nF(ta:TE)(tr:TA):TA:=λσ H Q=>ta σ H λx H1=>tr σ H1 λxs H2=>Q (x::xs) H2
variable {es:List Expr}{t:TA}
theorem pa_nil:PA X [] yH:=λ_ _ _ _ H Q I h=>Calls.spliced_nil ⟨[],H,I,.nil,h⟩
theorem dP(ha:PE X e te)(hr:PA X es t)(hs:AC (e::es) X.env=(false,eval e X.env)::AC es X.env:=by rfl):PA X (e::es) (nF te t):=by intro pos pins s σ H Q I h;rw[hs];show AE _ _ (spliced ((false,eval e X.env)::Ae pos (AC es X.env))) _ _ s;refine Calls.spliced_cons<|thn (ha pins s σ H _ I h) λu s1 ⟨x,H1,I1,r1,q1⟩=> ?_;exact thn (hr pos pins s1 σ H1 _ I1 q1) λus s2 ⟨xs,H2,I2,r2,q2⟩=>⟨x::xs,H2,I2,.cons r1 r2,q2⟩
noncomputable def aRX(t:TA):TE:=λσ H Q=>t σ H λxs H1=>xs.length<=AH/\∀p,H1 p=none->Q (.ref p) (upd H1 p<|.tup xs)
noncomputable def tLst(t:TA):TE:=λσ H Q=>t σ H λxs H1=>xs.length<=AH/\∀p,H1 p=none->Q (.ref p) (upd H1 p<|.lst xs)
theorem aEw{x1}(h:PA X es t):PE X (.Tuple es x1 pos) (aRX t):=by intro pins s σ H Q I hq;refine wpAny_Tuple_spliced<|thn (h pos pins s σ H _ I hq) λus s1 ⟨xs,H1,I1,r,z,q⟩=>⟨by rw[<-r.length];exact z, ?_⟩;have hf:H1 s1.heap.objs.size=none:=I1.hok.fresh<|aR _;refine⟨.ref s1.heap.objs.size,upd H1 s1.heap.objs.size<|.tup xs,I1.laid (t':=s1.toks) (λb u e=>aD _ e) (aR _) ?_,rfl,q _ hf⟩;exact⟨z,us,r,IsTupD.new _ _⟩
theorem aOQ(h:PA X es t):PE X (.List es pos) (tLst t):=by intro pins s σ H Q I hq;refine wpAny_List_spliced<|thn (h pos pins s σ H _ I hq) λus s1 ⟨xs,H1,I1,r,z,q⟩=>⟨by rw[<-r.length];exact z, ?_⟩;have hf:H1 s1.heap.objs.size=none:=I1.hok.fresh<|aR _;refine⟨.ref s1.heap.objs.size,upd H1 s1.heap.objs.size<|.lst xs,I1.laid (t':=s1.toks) (λb u e=>aD _ e) (aR _) ?_,rfl,q _ hf⟩;exact⟨z,us,0,r,aS _ rfl⟩
noncomputable abbrev Sp:=List V->Hp->VK->XK->Prop
noncomputable abbrev CXT:=List Env->Hp->BI->XK->BH->BI->Prop
structure Env0(P:AD)(w:AI)(K:aA)(mg:Str->Option BH)(base:BL)(A:BK)(outer:List Env)(s:BI)(H:Hp):Prop where
 frames:A.frames=some outer
 mod:Mod K mg base
 bs:∀b o,base.get? b=some o->s.heap.get? b=some o/\H b=none
 bsz:base.objs.size<=s.heap.objs.size
 funs:s.heap.FunFrames base outer
 frf:∀b∈frs outer,H b=none
 hok:HOk P w H s.heap
 bare:AllBare s.gens
def CE(outer:List Env)(P:AD)(w:AI)(H:Hp)(s:BI)(Q:VK)(u:BH)(s':BI):Prop:=
 ∃v H',s'.os=s.os/\AllBare s'.gens/\Un (frs outer) [] H H' s.heap s'.heap/\HOk P w H' s'.heap/\RelV v u/\Q v H'
def CR(CX:CXT)(outer:List Env)(P:AD)(w:AI)(H:Hp)(s:BI)(Q:VK)(E:XK)(r:Result)(s':BI):Prop:=
 match r with
 |.ok (.ret u)=>CE outer P w H s Q u s'
 |.ok _=>False
 |.error e=>CX outer H s E e s'
structure FnOk(P:AD)(w:AI)(K:aA)(mg:Str->Option BH)(base:BL)(CX:CXT)(k:Nat)(f:BJ)(fd:AL)(ps:List Str)(sp:Sp):Prop where
 len:∀vs H Q E,sp vs H Q E->vs.length=ps.length
 run:∀ (A:BK) (outer:List Env) (s:BI) (H:Hp) (args:Args) (us:List BH) (vs:List V) (Q:VK) (E:XK),Room k A->Env0 P w K mg base A outer s H->BindsTo s fd args (ps.zip us)->Vals vs us->sp vs H Q E->
  At (AF P w) A (.call (.ref f) args) (CR CX outer P w H s Q E) s
theorem Env0.make{mg:Str->Option BH}{base:BL}{outer:List Env}(e:Env0 P w K mg base A outer s H)(C:BJ)(us:List BH)(kw:List (Str×BH)):
  Env0 P w K mg base (A.under<|.builtin "type.__call__" ⟨.ref C::us,kw⟩) outer s H:=⟨by first|exact e.frames|(simpa[Around.under,Code.envs,Code.isFrame,pushEnvs] using e.frames),e.mod,e.bs,e.bsz,e.funs,e.frf,e.hok,e.bare⟩
variable {s':BI}
theorem Inv.env0(I:Inv X pins σ H s):Env0 X.prog X.w X.K X.mg X.base X.A X.stack s H:=
 ⟨I.ok.frames,I.ok.mod,I.bs,bZ I.ok.bsz I.sz,I.stack,I.stkFree,I.hok,I.bare⟩
theorem Inv.after{Q:VK}{u:BH}(I:Inv X pins σ H s)(h:CE X.stack X.prog X.w H s Q u s'):EP X pins σ Q u s':=by obtain⟨v,H',os,bare,un,hok,r,q⟩:=h;obtain⟨hh,g,d,t,os'⟩:=s';obtain rfl:os'=s.os:=os;exact⟨v,H',I.call (h':=hh) (g':=g) (d':=d) (t':=t) (ch:=[]) un hok bare (λb z=>absurd z<|by simp),r,q⟩
noncomputable def aQR(sp:Sp)(dvs:List V)(E:XK)(t:TA):TE:=λσ H Q=>t σ H λvs H1=>sp (vs++dvs) H1 Q E
noncomputable def aRB(C:BJ)(sp:Sp)(dvs:List V)(E:XK)(t:TA):TE:=λσ H Q=>t σ H λvs H1=>∀x dx,H1 x=none->H1 dx=none->dx≠x->
 sp (.ref x::(vs++dvs)) (upd (upd H1 dx<|.own x) x<|.ins C dx []) (λv H2=>v=.non/\Q (.ref x) H2) E
def Binds(K:aA)(fd:AL)(ps:List Str)(ds:List BH):Prop:=
 ∀ (s:BI) (us:List BH),K.In s.heap->(us++ds).length=ps.length->BindsTo s fd ⟨us,[]⟩ (ps.zip<|us++ds)
theorem Binds.all{fd:AL}{ps:List Str}(h:∀us:List BH,us.length=ps.length->bindArgs fd ⟨us,[]⟩=pure (ps.zip us)):Binds K fd ps []:=λs us _ hl=>by rw[cH] at hl ⊢;exact .of_eq<|h us hl
def xQ(CX:CXT)(X:Cx)(E:XK):Prop:=∀ (pins:List (BJ×BM)) (σ:St) (H:Hp) (s:BI) (e:BH) (s':BI),Inv X pins σ H s->CX X.stack H s E e s'->X.xe e s'
variable {CX:CXT}{k:Nat}{f:BJ}{fd:AL}{ps:List Str}{sp:Sp}{dvs:List V}{ds:List BH}{E:XK}{x m:Str}{p apos:Pos}
theorem aJW{Q:VK}{us:List BH}{vs:List V}(F:FnOk X.prog X.w X.K X.mg X.base CX k f fd ps sp)(hr:Room k X.A)(hb:Binds X.K fd ps ds)(hd:Vals dvs ds)(hx:xQ CX X E)
  (I:Inv X pins σ H s) (r:Vals vs us) (h:sp (vs++dvs) H Q E):AE (AF X.prog X.w) X.A (call (.ref f) us) (EP X pins σ Q) X.xe s:=by
 have r2:Vals (vs++dvs) (us++ds):=r.append hd;have hl:(us++ds).length=ps.length:=by rw[<-r2.length];exact F.len _ _ _ _ h
 refine wpAny_call<|Ah (F.run X.A X.stack s H ⟨us,[]⟩ (us++ds) (vs++dvs) Q E hr I.env0 (hb s us I.kIn hl) r2 h) λr s' hq=> ?_;cases r with
 |error e=>exact hx pins σ H s e s' I hq
 |ok fl=>
  cases fl with
  |ret u=>exact I.after hq
  |next=>exact False.elim hq
  |brk=>exact False.elim hq
  |cont=>exact False.elim hq
theorem vS(F:FnOk X.prog X.w X.K X.mg X.base CX k f fd ps sp)(hr:Room k X.A)(hg:Gl X x)(hm:X.mg x=some (.ref f))(hk:cU X.K (.ref f)=true)(hb:Binds X.K fd ps ds)(hd:Vals dvs ds)(hx:xQ CX X E)
  (ha:PA X (e::es) t) (hdb:(x==("__debug__":Str))=false:=by decide) (he:AC (e::es) X.env=(false,eval e X.env)::AC es X.env:=by rfl) (hpl:(Ae pos<|AC es X.env).any (·.1)=false:=by rfl):
  PE X (.Call (.Name x p) (e::es) [] pos) (aQR sp dvs E t):=by
 intro pins s σ H Q I h;refine AJ<|aAM I hg hm ?_ hdb;refine rE (h₀:=X.base) I.ok.mod.kin hk (thn (ha pos pins s σ H _ I h) λus s1 ⟨vs,H1,I1,r,q⟩=>⟨I1.kIn, ?_⟩) he hpl;exact aJW F hr hb hd hx I1 r q
structure Mk(K:aA)(C f:BJ):Prop where
 makes:vG K C=true
 init:dF K (.ref C) "__init__"=some (some<|.ref f)
 fn:oH K (.ref f)=true
 kp:cU K (.ref C)=true
theorem aIl{Q:VK}{us:List BH}{vs:List V}(M:Mk X.K C f)(F:FnOk X.prog X.w X.K X.mg X.base CX k f fd ps sp)(hr:Room (k+1) X.A)(hb:Binds X.K fd ps ds)(hd:Vals dvs ds)
  (hx:xQ CX X E) (I:Inv X pins σ H s) (r:Vals vs us)
  (h:∀x dx,H x=none->H dx=none->dx≠x->sp (.ref x::(vs++dvs)) (upd (upd H dx<|.own x) x<|.ins C dx []) (λv H2=>v=.non/\Q (.ref x) H2) E):
  AE (AF X.prog X.w) X.A (call (.ref C) us) (EP X pins σ Q) X.xe s:=by
 have hq:=h (s.heap.objs.size+1) s.heap.objs.size (I.hok.fresh<|fK _) (I.hok.fresh<|aR _) (bM<|jG _);have I2:=Inv.made (C:=C) I;have r2:Vals (V.ref (s.heap.objs.size+1)::(vs++dvs)) (Value.ref (s.heap.objs.size+1)::(us++ds)):=.cons rfl<|r.append hd
 have hl:(Value.ref (s.heap.objs.size+1)::us++ds).length=ps.length:=by have e:=r2.length;rw[F.len _ _ _ _ hq] at e;exact e.symm
 refine wpAny_call (aJa (f:=f) I.kIn M.makes M.init (beq_iff_eq.mp M.fn) (Ah (F.run _ X.stack _ _ ⟨Value.ref (s.heap.objs.size+1)::us,[]⟩ (Value.ref (s.heap.objs.size+1)::(us++ds)) _ _ E (hr.make C us [])
  (I2.env0.make C us []) (hb _ (Value.ref (s.heap.objs.size+1)::us) I2.kIn hl) r2 hq) λr s' hq'=> ?_))
 cases r with
 |error e=>exact hx pins σ _ _ e s' I2 hq'
 |ok fl=>
  cases fl with
  |ret u=>obtain⟨v,H',I3,rv,ev,q3⟩:=I2.after hq';subst ev;exact⟨rv,⟨V.ref<|s.heap.objs.size+1,H',I3,rfl,q3⟩⟩
  |next=>exact False.elim hq'
  |brk=>exact False.elim hq'
  |cont=>exact False.elim hq'
theorem aMd(M:Mk X.K C f)(F:FnOk X.prog X.w X.K X.mg X.base CX k f fd ps sp)(hr:Room (k+1) X.A)(hg:Gl X x)(hm:X.mg x=some (.ref C))(hb:Binds X.K fd ps ds)(hd:Vals dvs ds)(hx:xQ CX X E)
  (ha:PA X (e::es) t) (hdb:(x==("__debug__":Str))=false:=by decide) (he:AC (e::es) X.env=(false,eval e X.env)::AC es X.env:=by rfl) (hpl:(Ae pos<|AC es X.env).any (·.1)=false:=by rfl):
  PE X (.Call (.Name x p) (e::es) [] pos) (aRB C sp dvs E t):=by
 intro pins s σ H Q I h;refine AJ<|aAM I hg hm ?_ hdb;refine rE (h₀:=X.base) I.ok.mod.kin M.kp (thn (ha pos pins s σ H _ I h) λus s1 ⟨vs,H1,I1,r,q⟩=>⟨I1.kIn, ?_⟩) he hpl;exact aIl M F hr hb hd hx I1 r q
section
variable {X:Cx}{CX:CXT}{k:Nat}{f C:BJ}{fd:AL}{ps ks:List Str}{sp:Sp}{E:XK}{x m:Str}{p pos apos kpos:Pos}{e o:Expr}{es:List Expr}{kws:List Keyword}{te ta:TE}{t tk:TA}{nm:Option Str}
structure aSI(K:aA)(fd:AL)(ps ks:List Str)(g:List BH->List BH->List BH)(gV:List V->List V->List V):Prop where
 to:∀ (s:BI) (us ws:List BH),K.In s.heap->(g us ws).length=ps.length->BindsTo s fd ⟨us,ks.zip ws⟩ (ps.zip<|g us ws)
 rel:∀ {vs:List V}{us:List BH}{zs:List V}{ws:List BH},Vals vs us->Vals zs ws->Vals (gV vs zs) (g us ws)
variable {g:List BH->List BH->List BH}{gV:List V->List V->List V}
end
structure kR(N P:List Str)(sc:Scope):Prop where
 kind:sc.kind=.function
 co:sc.isCoroutine=false
 gen:sc.isGenerator=false
 nd:N.Nodup
 pre:N.take P.length=P
 par:∀x∈P,sc.names.lookup x=some .local\/sc.names.lookup x=some .cell
 nofree:∀y∈sc.names,y.2≠ .free
theorem zV{kindOf:Str->Option NameKind}{x:Str}:∀ {binds:List (Str×BH)}{m:Str->Option BH},(∀v,(x,v)∉binds)->bindL kindOf binds m x=m x
 |[],_,_=>rfl
 |(n,v)::r,m,h=>by
  unfold bindL;rw[zV λw hw=>h w<|aE _ hw]
  split
  ·have:x≠n:=by rintro rfl;exact h v aH
   simp[this]
  ·rfl
theorem aAt{kindOf:Str->Option NameKind}{x:Str}:∀ {binds:List (Str×BH)}{m:Str->Option BH},(∀v,(x,v)∉binds)->bindC kindOf binds m x=m x
 |[],_,_=>rfl
 |(n,v)::r,m,h=>by
  unfold bindC;rw[aAt λw hw=>h w<|aE _ hw]
  split
  ·rfl
  ·have:x≠n:=by rintro rfl;exact h v aH
   simp[this]
theorem aAq{kindOf:Str->Option NameKind}{x:Str}{v:BH}:∀ {P:List Str}{vs:List BH}{i:Nat}{m:Str->Option BH},P.Nodup->P[i]? =some x->vs[i]? =some v->kindOf x=some .local->
  bindL kindOf (P.zip vs) m x=some v
 |[],_,_,_,_,h,_,_=>by simp at h
 |_::_,[],_,_,_,_,h,_=>by simp at h
 |p::P,w::vs,0,m,nd,h1,h2,hk=>by simp at h1 h2;subst h1;subst h2;show bindL kindOf ((p,w)::P.zip vs) m p=_;unfold bindL;rw[zV λv hv=>(bX.mp nd).1 (yU hv).1,if_pos hk];simp
 |p::P,w::vs,i+1,m,nd,h1,h2,hk=>by show bindL kindOf ((p,w)::P.zip vs) m x=_;unfold bindL;exact aAq (i:=i) (bX.mp nd).2 (by simpa using h1) (by simpa using h2) hk
theorem aAe{kindOf:Str->Option NameKind}{x:Str}{v:BH}:∀ {P:List Str}{vs:List BH}{i:Nat}{m:Str->Option BH},P.Nodup->P[i]? =some x->vs[i]? =some v->kindOf x≠some .local->
  bindC kindOf (P.zip vs) m x=some v
 |[],_,_,_,_,h,_,_=>by simp at h
 |_::_,[],_,_,_,_,h,_=>by simp at h
 |p::P,w::vs,0,m,nd,h1,h2,hk=>by simp at h1 h2;subst h1;subst h2;show bindC kindOf ((p,w)::P.zip vs) m p=_;unfold bindC;rw[aAt λv hv=>(bX.mp nd).1 (yU hv).1,if_neg hk];simp
 |p::P,w::vs,i+1,m,nd,h1,h2,hk=>by show bindC kindOf ((p,w)::P.zip vs) m x=_;unfold bindC;exact aAe (i:=i) (bX.mp nd).2 (by simpa using h1) (by simpa using h2) hk
noncomputable def start(N:List Str)(vs:List V):St:=vs.map some++fF (N.length-vs.length) none
noncomputable def qG(CX:CXT)(P:AD)(w:AI)(K:aA)(mg:Str->Option BH)(base:BL)(N:List Str)(qual:Str)(scope:Scope)(f:BJ)(cd:BH)(A:BK)(outer:List Env)(s:BI)(H:Hp)(E:XK):Cx where
 prog:=P
 w:=w
 K:=K
 mg:=mg
 base:=base
 A:=A.deeper<|envOfC qual scope s.heap.objs.size f cd
 N:=N
 s₀:=s
 H₀:=H
 env:=envOfC qual scope s.heap.objs.size f cd
 outer:=outer
 stack:=envOfC qual scope s.heap.objs.size f cd::outer
 ex:=[]
 calm:=true
 fn:=λ_=>true
 pn:=[]
 xe:=λe s'=>AE (AF P w) (A.deeper<|envOfC qual scope s.heap.objs.size f cd) (leaving (envOfC qual scope s.heap.objs.size f cd) e) (λ_ s''=>CX outer H s E e s'') (λe' s''=>CX outer H s E e' s'') s'
theorem aCg{sc:Scope}{n:Nat}(h:sc.names.lookup x=some .cell):∃c,(cellsFrom n sc.names []).lookup x=some c:=by have q:=aAL sc.names n []<|.inl h;exact Option.isSome_iff_exists.mp q
theorem aFT{mg:Str->Option BH}{base:BL}{N:List Str}{qual:Str}{scope:Scope}{cd:BH}{outer:List Env}{s1:BI}{us:List BH}{vs:List V}
  (S:kR N ps scope) (hd:A.handled=none) (e0:Env0 P w K mg base A outer s H) (hl:vs.length=ps.length) (r:Vals vs us)
  (x:InCallC s s.heap.objs.size (bindL (envOfC qual scope s.heap.objs.size f cd).kindOf (ps.zip us) λ_=>none) (cellsFrom (s.heap.objs.size+1) scope.names []) (bindC (envOfC qual scope s.heap.objs.size f cd).kindOf (ps.zip us) λ_=>none) s1):
  Inv (qG CX P w K mg base N qual scope f cd A outer s H E) [] (start N vs) H s1:=by
 have hpl:ps.length<=N.length:=by have:=congrArg qM S.pre;rw[dD] at this;omega
 obtain⟨h1,tk,rfl,hk⟩:=x.done;have noA:∀b:BJ,b∉(qG CX P w K mg base N qual scope f cd A outer s H E).ex:=λb z=>absurd (show b∈([]:List BJ) from z)<|by simp
 refine ⟨⟨e0.mod,S.kind,rfl,rfl,aR _,fun y z c h1 h2=> ?_,fun y hy=> ?_,fun y c _ h=> ?_,fun _=>hd,Around.frames_deeper e0.frames, .inr ⟨rfl,rfl⟩,fun b z=>absurd z (noA b),e0.bs,e0.bsz,fun b _ _=>noA b,fun b z=>absurd z (noA b),e0.funs,e0.frf⟩,
  rfl,e0.bare,Un.kept hk,⟨_,x.toInCall.ns,λi y v h1 h2 h3=> ?_⟩,λy c h=>⟨_,x.cell y c h⟩,e0.hok.fresh (aR _),λy c h=> ?_,λp hp=>absurd (show p∈([]:List (BJ×BM)) from hp) (by simp),e0.hok.kept hk, ?_⟩
 ·exact name_of_addr x.apart (PySem.mem_of_lookup h1)<|PySem.mem_of_lookup h2
 ·have hy:scope.names.lookup y=some .cell\/scope.names.lookup y=some .free:=hy
  rcases hy with hy|hy
  ·exact aCg hy
  ·exact absurd rfl (S.nofree _<|PySem.mem_of_lookup hy)
 ·exact dL (x.above y c<|PySem.mem_of_lookup h)
 ·have hi:i<vs.length:=by
   unfold start at h2
   by_cases hi:i<vs.length
   ·exact hi
   ·rw[List.getElem?_append_right<|by simpa using hi] at h2;rw[List.getElem?_replicate] at h2
    split at h2<;>cases h2
  have ha:vs[i]? =some v:=by
   unfold start at h2;rw[gJ (by simpa using hi),aY] at h2;cases e:vs[i]? with
   |none=>rw[e] at h2;cases h2
   |some a=>rw[e] at h2;cases h2;rfl
  obtain⟨u,hu,rv⟩:=r.get ha
  have hp:ps[i]? =some y:=by rw[<-S.pre,List.getElem?_take_of_lt<|by omega];exact h1
  have ndP:ps.Nodup:=by rw[<-S.pre];exact S.nd.sublist<|List.take_sublist _ _
  refine⟨u,rv, ?_⟩
  rcases S.par y (bH hp) with k|k
  ·exact .inl ⟨k,aAq ndP hp hu k⟩
  ·obtain⟨c,e⟩:=aCg (n:=s.heap.objs.size+1) k;refine .inr ⟨.inl k,c,e, ?_⟩;have q:=x.cell y c e;rw[aAe ndP hp hu<|by show scope.names.lookup y≠_;rw[k];decide] at q;exact q
 ·exact e0.hok.fresh<|dL (x.above y c<|PySem.mem_of_lookup h)
 ·unfold start;show _=N.length;rw[aP,aB,List.length_replicate];omega
theorem aOf{mg:Str->Option BH}{base:BL}{qual:Str}{params:Arguments}{body:List BN}{scope:Scope}{dV kV doc pm cdv ct oc:BH}{an od:Option BJ}
  {osl:Array (Option BH)}{N ps:List Str}{sp:Sp} (lk:K.lookup f=some ⟨oc,od,.func<|cV name qual params body scope dV kV doc pm an cdv ct,osl⟩) (hcd:fE K cdv qual=true) (S:kR N ps scope)
  (len:∀vs H Q E,sp vs H Q E->vs.length=ps.length)
  (hbody:∀ (A:BK) (outer:List Env) (s:BI) (H:Hp) (vs:List V) (Q:VK) (E:XK),Room k (A.deeper (envOfC qual scope s.heap.objs.size f cdv))→sp vs H Q E→
   ∃t,PSs (qG CX P w K mg base N qual scope f cdv A outer s H E) body t/\t {nx:=λ_ H'=>Q .non H',rt:=Q} (start N vs) H):
  FnOk P w K mg base CX (k+1) f (cV name qual params body scope dV kV doc pm an cdv ct) ps sp:=by
 refine⟨len,λA outer s H args us vs Q E hr e0 hb r hsp=> ?_⟩;have hl:=len _ _ _ _ hsp;have KX:K.In s.heap:=e0.mod.kin.keeps λb o e=>(e0.bs b o e).1
 have lim:s.heap.NoLimit:=e0.mod.nolimit.keeps λb o e=>(e0.bs b o e).1
 have hkind:∀y∈ps.zip us,scope.names.lookup y.1=some .local\/(scope.names.lookup y.1=some .cell/\((cellsFrom (s.heap.objs.size+1) scope.names []).lookup y.1).isSome=true):=λ⟨n,v⟩ hy=>by
  rcases S.par n (yU hy).1 with q|q
  ·exact .inl q
  ·exact .inr ⟨q,aAL _ _ _<|.inl q⟩
 refine codeAny_call_function hr.depth (KX _ _ lk) rfl S.co S.gen rfl (PySem.W.codeRec_of KX hcd)<|hb _ _ _ _ ?_;refine wpAny_newFunctionEnv_cells S.kind hkind λenv he s1 x=> ?_
 subst he;refine⟨lim.keeps x.toInCall.keep,codeAny_func ?_⟩;obtain⟨t,ht,hq⟩:=hbody A outer s H vs Q E (hr.deeper _) hsp;have I:Inv (qG CX P w K mg base N qual scope f cdv A outer s H E) [] (start N vs) H s1:=aFT S hr.hd e0 hl r x;refine Af (ht [] s1 (start N vs) H _ I hq) (λfl s' hs=> ?_) λe s' hs=>hs
 have fin:∀ {σ':St}{H':Hp}{v:V}{u:BH},Inv (qG CX P w K mg base N qual scope f cdv A outer s H E) [] σ' H' s'->RelV v u->Q v H'->CE outer P w H s Q u s':=
  λ{σ' H' v u} J rv q=>⟨v,H',J.os,J.bare,J.base,J.hok,rv,q⟩
 cases fl with
 |ret u=>obtain⟨v,σ',H',J,rv,q⟩:=hs;exact fin J rv q
 |next=>obtain⟨σ',H',J,q⟩:=hs;exact fin (v:=V.non) (u:=Value.none) J rfl q
 |brk=>obtain⟨_,_,_,q⟩:=hs;exact False.elim q
 |cont=>obtain⟨_,_,_,q⟩:=hs;exact False.elim q
section
variable {X:Cx}{x:Str}{p pos:Pos}{e:Expr}{es:List Expr}{t:TA}{id T:String}{r:List V->Hp->VK->Prop}
noncomputable def tCB(r:List V->Hp->VK->Prop)(t:TA):TE:=λσ H Q=>t σ H λvs H1=>r vs H1 Q
theorem tE(hc:mG X (.builtin id) r)(hg:Gl X x)(hm:X.mg x=none)(hv:An x=some (.builtin id))(ha:PA X (e::es) t)(hn:x≠"__name__":=by decide)(hdb:(x==("__debug__":Str))=false:=by decide)
  (he:AC (e::es) X.env=(false,eval e X.env)::AC es X.env:=by rfl) (hpl:(Ae pos<|AC es X.env).any (·.1)=false:=by rfl):PE X (.Call (.Name x p) (e::es) [] pos) (tCB r t):=by
 intro pins s σ H Q I h;refine AJ<|hX I hg hm hv ?_ hn hdb;exact PyProof.Rows.callWith_builtin1 (thn (ha pos pins s σ H _ I h) λus s1 ⟨vs,H1,I1,r1,q1⟩=>hc pins s1 σ H1 vs us Q I1 r1 q1) he hpl
theorem aGN(hc:mG X (.type T) r)(hg:Gl X x)(hm:X.mg x=none)(hv:An x=some (.type T))(ha:PA X (e::es) t)(hn:x≠"__name__":=by decide)(hdb:(x==("__debug__":Str))=false:=by decide)
  (he:AC (e::es) X.env=(false,eval e X.env)::AC es X.env:=by rfl) (hpl:(Ae pos<|AC es X.env).any (·.1)=false:=by rfl):PE X (.Call (.Name x p) (e::es) [] pos) (tCB r t):=by
 intro pins s σ H Q I h;refine AJ<|hX I hg hm hv ?_ hn hdb;exact PyProof.Rows.callWith_type1 (thn (ha pos pins s σ H _ I h) λus s1 ⟨vs,H1,I1,r1,q1⟩=>hc pins s1 σ H1 vs us Q I1 r1 q1) he hpl
end
end L2
namespace HT
open PySem PyProof.Rows
noncomputable def lexLt:List Int->List Int->Bool
 |[],[]=>false
 |[],_::_=>true
 |_::_,[]=>false
 |x::xs,y::ys=>if x=y then lexLt xs ys else decide (x<y)
section
open PySem.SeqAt
open PySem.AutoSeq1 (wpAny_loadPart')
open PySem.MeetsSeq PySem.MeetsSeq2 PySem.MeetsSeq3
end
variable {prog:AD}{w:AI}{A:BK}{E:BH->BI->Prop}{s:BI}
theorem cat_tup{t b:BJ}{vs ws:List BH}{Q:BH->BI->Prop}(ht:IsTup s.heap t vs.toArray)(hb:IsTup s.heap b ws.toArray)(hv:vs≠[])
  (h1:ws=[]->Q (.ref t) s) (h2:ws≠[]->Q (.ref s.heap.objs.size) {s with heap:=s.heap.push {cls:=.type "tuple",data:=.seq (vs++ws).toArray}})
  (hsz:vs.length+ws.length<=AH):AE (AF prog w) A (Ag .Add (.ref t)<|.ref b) Q E s:=by
 obtain⟨⟨cls,dd,data,sl⟩,ho,hc,n,hd⟩:=id ht;obtain⟨⟨cls2,dd2,data2,sl2⟩,ho2,hc2,n2,hd2⟩:=id hb;simp only at hc hd hc2 hd2;subst hc hd hc2 hd2;have e:vs.toArray++ws.toArray=(vs++ws).toArray:=by simp
 by_cases hw:ws=[]
 ·exact concat_meets ⟨_,ho,rfl⟩ ⟨_,ho2,rfl⟩ noFill_tuple_add seq_tuple_add oI nI (mU _ _)
   (tuple_addW1 t b vs.toArray ws.toArray n n2 dd dd2 sl sl2 (by simpa using hv)<|by simp[hw]) ⟨ho,ho2,h1 hw⟩
 ·refine concat_meets ⟨_,ho,rfl⟩ ⟨_,ho2,rfl⟩ noFill_tuple_add seq_tuple_add oI nI (mU _ _)
   (tuple_addW2 t b vs.toArray ws.toArray n n2 dd dd2 sl sl2 (by simpa using hv) (by simpa using hw)<|by rw[aK,aK];exact hsz) ⟨ho,ho2, ?_⟩
  rw[e];exact h2 hw
noncomputable def sIx(n d:Nat):Option Int->Nat
 |none=>d
 |some v=>if v<0 then(v+(n:Int)).toNat else min v.toNat n
theorem sIx_none(n d:Nat):sIx n d none=d:=rfl
theorem sIx_nat(n d k:Nat):sIx n d (some (k:Int))=min k n:=by show(if(k:Int)<0 then((k:Int)+(n:Int)).toNat else min (k:Int).toNat n)=min k n;rw[if_neg<|by omega,cF]
theorem aOC(n d:Nat)(hd:d<=n)(o:Option Int):sIx n d o<=n:=by
 cases o with
 |none=>exact hd
 |some v=>
  show(if v<0 then(v+(n:Int)).toNat else min v.toNat n)<=n
  by_cases hv:v<0
  ·rw[if_pos hv];omega
  ·rw[if_neg hv];exact Nat.min_le_right _ _
theorem aEL(v:Int)(n d:Nat):(if v<0 then max (v+(n:Int)) 0 else min v (n:Int))=((sIx n d (some v):Nat):Int):=by
 show(if v<0 then max (v+(n:Int)) 0 else min v (n:Int))=(((if v<0 then(v+(n:Int)).toNat else min v.toNat n):Nat):Int)
 by_cases hv:v<0
 ·simp only[if_pos hv];omega
 ·simp only[if_neg hv];omega
theorem aDi(lo hi:Option Int)(n:Nat):Builtin.Slice.sliceAdjust lo hi 1 (n:Int)=(((sIx n 0 lo:Nat):Int),((sIx n n hi:Nat):Int)):=by
 have h1:¬ ((1:Int)<0):=by omega
 unfold Builtin.Slice.sliceAdjust;simp only[h1,if_false];refine Prod.ext ?_ ?_
 ·cases lo with
  |none=>rfl
  |some v=>exact aEL v n 0
 ·cases hi with
  |none=>rfl
  |some v=>exact aEL v n n
theorem aCY(i j:Nat):Builtin.Slice.slicePlaces (i:Int) (j:Int) 1=j-i:=by
 unfold Builtin.Slice.slicePlaces;have h1:(1:Int)>0:=by omega
 simp only[h1,if_true,Int.ediv_one]
 split<;>omega
theorem wX{v:BH}{o:Option Int}{Q:Option Int->BI->Prop}(p:IsPart v o)(h:Q o s):AE (AF prog w) A (Builtin.Slice.slicePartIndex v) Q E s:=by
 cases p with
 |none=>exact slicePart_none h
 |int i t=>exact slicePart_int h
theorem sliceApplied_gen{sl:BJ}{vl vu:BH}{lo hi:Option Int}{n:Nat}{Q:Int×Int×Nat->BI->Prop}(hs:s.heap.IsSliceOf sl vl vu .none)(pl:IsPart vl lo)(pu:IsPart vu hi)
  (h:Q (((sIx n 0 lo:Nat):Int),1,sIx n n hi-sIx n 0 lo) s):AE (AF prog w) A (Builtin.Slice.sliceApplied (.ref sl)<|pure (n:Int)) Q E s:=by
 obtain⟨os,hos,hcs,hds⟩:=id hs;unfold Builtin.Slice.sliceApplied Builtin.Slice.sliceFields;refine AA<|AA (BC hos hds (x:=vl) rfl<|AA (BC hos hds (x:=vu) rfl<|AA (BC hos hds (x:=.none) rfl<|AB ?_)));refine AA<|slicePart_none ?_;show AE _ _ (if((1:Int)==0)=true then _ else _) _ _ s;rw[if_neg<|by decide];refine AA<|wX pl (AA<|wX pu (AA<|AB ?_));show AE _ _ (match Builtin.Slice.sliceAdjust lo hi 1 (n:Int) with|(lo,hi)=>pure (lo,(1:Int),Builtin.Slice.slicePlaces lo hi 1)) _ _ s;rw[aDi lo hi n];show AE _ _ (pure (((sIx n 0 lo:Nat):Int),(1:Int),Builtin.Slice.slicePlaces ((sIx n 0 lo:Nat):Int) ((sIx n n hi:Nat):Int) 1)) _ _ s;rw[aCY];exact AB h
theorem aHZ(xs:Array BH)(i k:Nat):((aW k).filterMap λ(m:Nat)=>xs[((i:Int)+(m:Int)*1).toNat]?).toArray=((xs.toList.drop i).take k).toArray:=by
 have e:(λ(m:Nat)=>xs[((i:Int)+(m:Int)*1).toNat]?)=λm=>xs[i+m]? :=by
  funext m;have:((i:Int)+(m:Int)*1).toNat=i+m:=by omega
  rw[this]
 rw[e];have:=pick_run xs i k;rw[List.filterMap_map] at this;have e2:((λx=>xs[x]?) ∘ λx=>i+x)=λm=>xs[i+m]? :=rfl
 rw[e2] at this;rw[this]
theorem getItem_tuple_cut{t sl:BJ}{items:Array BH}{vl vu:BH}{lo hi:Option Int}{Q:BH->BI->Prop}(ht:IsTup s.heap t items)(hs:s.heap.IsSliceOf sl vl vu .none)(pl:IsPart vl lo)(pu:IsPart vu hi)
  (hw:¬ (sIx items.size 0 lo=0/\sIx items.size items.size hi=items.size))
  (h:Q (.ref s.heap.objs.size) {s with heap:=s.heap.push {cls:=.type "tuple",data:=.seq ((items.toList.drop<|sIx items.size 0 lo).take<|sIx items.size items.size hi-sIx items.size 0 lo).toArray}})
  (hsz:items.size<=AH):AE (AF prog w) A (getItem (.ref t)<|.ref sl) Q E s:=by
 have htake:sizeOk (.seq ((items.toList.drop<|sIx items.size 0 lo).take<|sIx items.size items.size hi-sIx items.size 0 lo).toArray):=by show((items.toList.drop<|sIx items.size 0 lo).take<|sIx items.size items.size hi-sIx items.size 0 lo).toArray.size<=AH;rw[aK,dD,eX,cZ];omega
 have hj:sIx items.size items.size hi<=items.size:=aOC _ _ (aR _) hi;obtain⟨os,hos,hcs,hds⟩:=id hs;have hTs:s.TypeIs (.ref sl) "slice":=⟨os,hos,hcs⟩;unfold getItem
 try with_reducible refine AT ?_
 first|refine AA (AB ?_)|skip
 refine AA<|wpAny_sequenceKey ht.typeIs (by decide) ?_
 refine AA (AS (name:=Str.ofString "__getitem__") ht.typeIs PyProof.Rows.slot_tuple_getitem
  (AQ PyProof.Rows.slot_tuple_getitem ht.typeIs entry_tuple_getitem ?_ (args_tuple_getitem _ _)))
 show AE _ _ (Builtin.Tuple.tupleItemsOf (.ref t)>>=_) _ _ s;refine AA<|tupleItemsOf_ ht ?_;refine AA<|wpAny_typeOf hTs ?_;rw[if_pos<|by decide];refine AA<|sliceApplied_gen hs pl pu ?_
 have hno:¬ ((((sIx items.size 0 lo:Nat):Int)==0&&(1:Int)==1&&(sIx items.size items.size hi-sIx items.size 0 lo)==items.size)=true):=by intro q;rw[bR,bR] at q;have q1:((sIx items.size 0 lo:Nat):Int)=0:=eq_of_beq q.1.1;have q2:sIx items.size items.size hi-sIx items.size 0 lo=items.size:=eq_of_beq q.2;exact hw ⟨by omega,by omega⟩
 show AE _ _ (if(((sIx items.size 0 lo:Nat):Int)==0&&(1:Int)==1&&(sIx items.size items.size hi-sIx items.size 0 lo)==items.size)=true then _ else _) _ _ s;rw[if_neg hno,aHZ]
 first
  |exact AA (m:=Builtin.Tuple.tupleExact _) (AK (AB ⟨_,rfl,AB h⟩) htake)
  |exact AA (m:=Builtin.Tuple.tupleExact _) (AK (AA (AB<|AB ⟨_,rfl,AB h⟩)) htake)
  |exact AA (AA (m:=Builtin.Tuple.tupleExact _)<|AK (AB<|AB ⟨_,rfl,AB h⟩) htake)
  |exact AA (AA (m:=Builtin.Tuple.tupleExact _)<|AK (AB ⟨_,rfl,AB h⟩) htake)
end HT
namespace L2
open PySem PySem.Spec PyProof.Rows
noncomputable abbrev TO:=St->Hp->(Option Int->Hp->Prop)->Prop
def PO(X:Cx)(e:Option Expr)(t:TO):Prop:=
 ∀ (pins:List (BJ×BM)) (s:BI) (σ:St) (H:Hp) (Q:Option Int->Hp->Prop),Inv X pins σ H s->t σ H Q->
  AE (AF X.prog X.w) X.A (evalPart e X.env) (λu s'=>∃o H',Inv X pins σ H' s'/\IsPart u o/\Q o H') X.xe s
noncomputable def aMA:TO:=λ_ H Q=>Q none H
noncomputable def aQU(t:TE):TO:=λσ H Q=>t σ H λx H1=>∃i,x=.int i/\Q (some i) H1
theorem aDG{ns:List Int}:∀ {us:List BH},Vals (ns.map V.int) us->IntsAre us ns:=by
 induction ns with
 |nil=>intro us r;rw[eA] at r;cases r;exact .nil
 |cons n ns ih=>
  intro us r;rw[aV] at r;cases r with
  |cons r1 r2=>obtain⟨t,e⟩:=r1;subst e;exact .cons n t<|ih r2
variable {X:Cx}{e:Expr}{te:TE}{lo hi:Option Expr}{tl th:TO}{pos p2:Pos}
theorem aMz:PO X none aMA:=by intro pins s σ H Q I h;rw[evalPart_none];exact AB ⟨none,H,I,.none,h⟩
theorem aMl(h:PE X e te):PO X (some e) (aQU te):=by
 intro pins s σ H Q I hw;rw[evalPart_some];refine thn (h pins s σ H _ I hw) λu s1 ⟨x,H1,I1,r1,q1⟩=> ?_
 obtain⟨i,rfl,q⟩:=q1;obtain⟨t,rfl⟩:=r1;exact⟨some i,H1,I1,.int i t,q⟩
def SlR(X:Cx)(r:V->Option Int->Option Int->Hp->VK->Prop):Prop:=
 ∀ (pins:List (BJ×BM)) (s:BI) (σ:St) (H:Hp) (x:V) (v vl vu:BH) (lo hi:Option Int) (sl:BJ) (Q:VK),Inv X pins σ H s->RelV x v->s.heap.IsSliceOf sl vl vu .none->IsPart vl lo->IsPart vu hi->r x lo hi H Q->
  ∃T id,typeLookup (.type T) "__getitem__"=pure (some<|.builtin id)/\s.TypeIs v T/\AE (AF X.prog X.w) X.A (getItem v<|.ref sl) (EP X pins σ Q) X.xe s
noncomputable def tSl(r:V->Option Int->Option Int->Hp->VK->Prop)(te:TE)(tl th:TO):TE:=λσ H Q=>te σ H λx H1=>tl σ H1 λl H2=>th σ H2 λu H3=>r x l u H3 Q
theorem yI{r:V->Option Int->Option Int->Hp->VK->Prop}(hr:SlR X r)(he:PE X e te)(hl:PO X lo tl)(hu:PO X hi th):PE X (.Subscript e (.Slice lo hi none p2) pos) (tSl r te tl th):=by
 intro pins s σ H Q I h;refine Subscript_<|thn (he pins s σ H _ I h) λv s1 ⟨x,H1,I1,r1,q1⟩=> ?_;refine wpAny_Slice<|thn (hl pins s1 σ H1 _ I1 q1) λvl s2 ⟨l,H2,I2,pl,q2⟩=>thn (hu pins s2 σ H2 _ I2 q2) λvu s3 ⟨u,H3,I3,pu,q3⟩=> ?_;rw[evalPart_none];refine AB ?_;have I4:Inv X pins σ H3 {s3 with heap:=s3.heap.push {cls:=.type "slice",data:=.fields #[vl,vu,.none]}}:=I3.kept (t':=s3.toks) λb ob q=>aD _ q
 obtain⟨T,id,hT,ht,hg⟩:=hr pins {s3 with heap:=s3.heap.push {cls:=.type "slice",data:=.fields #[vl,vu,.none]}} σ H3 x v vl vu l u s3.heap.objs.size Q I4 r1 (Heap.IsSliceOf.new ..) pl pu q3;show AE (AF X.prog X.w) X.A (subscriptTail e (.Slice lo hi none p2) v<|.ref s3.heap.objs.size) (EP X pins σ Q) X.xe {s3 with heap:=s3.heap.push {cls:=.type "slice",data:=.fields #[vl,vu,.none]}};exact tail_any (ops:=[.ref s3.heap.objs.size,v]) ht hT hg (by with_unfolding_all rfl)
noncomputable def yZ(xs:List V)(lo hi:Option Int):List V:=(xs.drop<|HT.sIx xs.length 0 lo).take<|HT.sIx xs.length xs.length hi-HT.sIx xs.length 0 lo
theorem uT(xs:List V)(lo hi:Option Int):(yZ xs lo hi).length<=xs.length:=by unfold yZ;rw[dD,eX];omega
def rSlT(K:aA):V->Option Int->Option Int->Hp->VK->Prop:=λx lo hi H Q=>∃a xs,x=.ref a/\SqT K H a xs/\
 ¬ (HT.sIx xs.length 0 lo=0/\HT.sIx xs.length xs.length hi=xs.length)/\∀p,H p=none->Q (.ref p) (upd H p (.tup<|yZ xs lo hi))
theorem aOO:SlR X (rSlT X.K):=by
 intro pins s σ H x v vl vu lo hi sl Q I rx hs pl pu h;obtain⟨a,xs,rfl,hx,hw,q⟩:=h;cases rx;obtain⟨its,r,ht,hz⟩:=I.tuple hx;have hlen:its.toArray.size=xs.length:=by rw[aK];exact r.length.symm
 refine⟨"tuple",_,PyProof.Rows.slot_tuple_getitem.lookup,ht.typeIs, ?_⟩;refine HT.getItem_tuple_cut ht hs pl pu (by rw[hlen];exact hw) ?_ (by rw[hlen];exact hz);rw[hlen];refine⟨.ref s.heap.objs.size,_,I.laid (t':=s.toks) (o:=.tup<|yZ xs lo hi) (λb ob q=>aD _ q) (aR _) ?_,rfl,q _ (I.hok.fresh<|aR _)⟩;exact⟨bZ (uT xs lo hi) hz,_,(r.drop<|HT.sIx xs.length 0 lo).take<|HT.sIx xs.length xs.length hi-HT.sIx xs.length 0 lo,IsTupD.new _ _⟩
noncomputable def aRF(K:aA):R2:=λx y H Q=>∃a b xs ys,x=.ref a/\y=.ref b/\SqT K H a xs/\SqT K H b ys/\xs≠[]/\xs.length+ys.length<=AH/\
 (ys=[]->Q (.ref a) H)/\(ys≠[]->∀p,H p=none->Q (.ref p) (upd H p (.tup<|xs++ys)))
theorem Vals.nil_iff{xs:List V}{us:List BH}(r:Vals xs us):us=[]↔xs=[]:=by
 cases r with
 |nil=>simp
 |cons _ _=>simp
theorem aLB:OpR X (Ag .Add) (aRF X.K):=by intro pins s σ H x y v u Q I rx ry h;obtain⟨a,b,xs,ys,rfl,rfl,ha,hb,hx,hz,q1,q2⟩:=h;cases rx;cases ry;obtain⟨its,r1,p1,_⟩:=I.tuple ha;obtain⟨its2,r2,p2,_⟩:=I.tuple hb;refine HT.cat_tup p1 p2 (λz=>hx<|r1.nil_iff.mp z) (λz=>⟨.ref a,H,I,rfl,q1<|r2.nil_iff.mp z⟩) (λz=> ?_) (by rw[<-r1.length,<-r2.length];exact hz);refine⟨.ref s.heap.objs.size,_,I.laid (t':=s.toks) (o:=.tup<|xs++ys) (λb ob q=>aD _ q) (aR _) ?_,rfl,q2 (λw=>z<|r2.nil_iff.mpr w) _ (I.hok.fresh<|aR _)⟩;exact⟨by rw[aP];exact hz,_,r1.append r2,IsTupD.new _ _⟩
noncomputable def ixN(n:Nat)(i:Int):Option Nat:=if 0<=i then(if i<n then some i.toNat else none) else if -(n:Int)<=i then some (i+n).toNat else none
noncomputable def atI{α:Type}(xs:List α)(i:Int):Option α:=(ixN xs.length i).bind λj=>xs[j]?
theorem aBl{n:Nat}{i:Int}{j:Nat}(h:ixN n i=some j):seqIndex? i n=some j/\j<n/\ -(n:Int)<=i/\i<n:=by
 unfold ixN at h
 by_cases h0:0<=i
 ·rw[if_pos h0] at h
  by_cases h1:i<n
  ·rw[if_pos h1] at h;have e:i.toNat=j:=bY.inj h;exact⟨by rw[seqIndex_of h0 h1,e],by omega,by omega,h1⟩
  ·rw[if_neg h1] at h;cases h
 ·rw[if_neg h0] at h
  by_cases h1: -(n:Int)<=i
  ·rw[if_pos h1] at h;have e:(i+n).toNat=j:=bY.inj h;exact⟨by rw[seqIndex_neg (by omega) h1,e],by omega,h1,by omega⟩
  ·rw[if_neg h1] at h;cases h
theorem aFm{α:Type}{xs:List α}{i:Int}{v:α}(h:atI xs i=some v):∃j,seqIndex? i xs.length=some j/\xs[j]? =some v/\j<xs.length/\ -(xs.length:Int)<=i/\i<xs.length:=by
 unfold atI at h;cases e:ixN xs.length i with
 |none=>rw[e] at h;cases h
 |some j=>rw[e] at h;obtain⟨h1,h2,h3,h4⟩:=aBl e;exact⟨j,h1,h,h2,h3,h4⟩
theorem aAS{α:Type}{xs:List α}{j:Nat}{v:α}(h:xs[j]? =some v):atI xs (j:Int)=some v:=by
 have hj:j<xs.length:=(aI.mp h).1
 have e:ixN xs.length (j:Int)=some j:=by unfold ixN;rw[if_pos<|by omega,if_pos<|by omega];simp
 unfold atI;rw[e];exact h
theorem aHU{α:Type}(xs:List α)(v:α):atI (xs++[v]) (-1)=some v:=by
 have hl:(xs++[v]).length=xs.length+1:=by simp
 have e:ixN (xs++[v]).length (-1)=some xs.length:=by unfold ixN;rw[hl,if_neg<|by decide,if_pos<|by omega];congr 1;omega
 unfold atI;rw[e];show(xs++[v])[xs.length]? =some v;simp
def nQ(b:Expr):Prop:=∀o i,subscripted b false o i=operate [o,i] (getItem o i)
def IxR(X:Cx)(r:R2):Prop:=
 ∀ (value slice:Expr) (pins:List (BJ×BM)) (s:BI) (σ:St) (H:Hp) (x y:V) (v u:BH) (Q:VK),Inv X pins σ H s->RelV x v->RelV y u->r x y H Q->
  subscripted slice false v u=operate [v,u] (getItem v u)->AE (AF X.prog X.w) X.A (subscriptTail value slice v u) (EP X pins σ Q) X.xe s
def MtR(X:Cx)(id:String)(r:V->List V->Hp->VK->Prop):Prop:=
 ∀ (pins:List (BJ×BM)) (s:BI) (σ:St) (H:Hp) (x:V) (xs:List V) (v:BH) (us:List BH) (Q:VK),Inv X pins σ H s->RelV x v->Vals xs us->r x xs H Q->
  AE (AF X.prog X.w) X.A (call (.builtin id) (v::us)) (EP X pins σ Q) X.xe s
section
variable {X:Cx}{a b:Expr}{ta tb:TE}{pos:Pos}
theorem aHD{r:R2}(hr:IxR X r)(ha:PE X a ta)(hb:PE X b tb)(hs:nQ b):PE X (.Subscript a b pos) (tOp r ta tb):=by intro pins s σ H Q I h;exact Subscript_ (aQw ha hb I h λv u s2 x y H2 I2 rx ry q=>hr a b pins s2 σ H2 x y v u Q I2 rx ry q<|hs _ _)
noncomputable def rIxL(K:aA):R2:=λx y H Q=>∃p xs i v,x=.ref p/\y=.int i/\SqL K H p xs/\atI xs i=some v/\Q v H
noncomputable def rIxT(K:aA):R2:=λx y H Q=>∃p xs i v,x=.ref p/\y=.int i/\SqT K H p xs/\atI xs i=some v/\Q v H
theorem aBi:IxR X (rIxL X.K):=by
 intro value slice pins s σ H x y v u Q I rx ry h hs;obtain⟨p,xs,i,z,rfl,rfl,hq,he,q⟩:=h;cases rx;obtain⟨t,rfl⟩:=ry;obtain⟨its,r,pl,hz⟩:=I.list hq;obtain⟨j,h1,h2,h3,h4,h5⟩:=aFm he;obtain⟨w,ew,rw'⟩:=r.get h2;have hl:=r.length;have hn:=wU;have fin:EP X pins σ Q w s:=⟨z,H,I,rw',q⟩
 by_cases h0:0<=i
 ·have hj:i.toNat=j:=by rw[seqIndex_of h0 h5] at h1;exact bY.inj h1
  exact item_listR pl.isList h0 (by omega) (by rw[hj];simpa using ew) fin hs
 ·have hj:(i+(its.toArray.size:Int)).toNat=j:=by rw[seqIndex_neg (by omega) h4] at h1;rw[aK,<-hl];exact bY.inj h1
  exact subscriptTail_builtinR (x:=w) pl.isList.typeIs slot_list_getitem.lookup
   (wpAny_getItem_list_neg (Q:=λr s'=>r=w/\EP X pins σ Q r s') pl.isList (by omega) (by rw[aK]<;>omega) (by omega) (by rw[hj];simpa using ew) ⟨rfl,fin⟩) hs
theorem aOH:IxR X (rIxT X.K):=by
 intro value slice pins s σ H x y v u Q I rx ry h hs;obtain⟨p,xs,i,z,rfl,rfl,hq,he,q⟩:=h;cases rx;obtain⟨t,rfl⟩:=ry;obtain⟨its,r,pl,hz⟩:=I.tuple hq;obtain⟨j,h1,h2,h3,h4,h5⟩:=aFm he;obtain⟨w,ew,rw'⟩:=r.get h2;have hl:=r.length;have hn:=wU;have fin:EP X pins σ Q w s:=⟨z,H,I,rw',q⟩
 exact subscriptTail_builtinR (x:=w) pl.typeIs slot_tuple_getitem.lookup
  (getItem_tuple (j:=j) (Q:=λr s'=>r=w/\EP X pins σ Q r s') pl (by omega) (by omega) (by rw[aK,<-hl];exact h1) (by simpa using ew) ⟨rfl,fin⟩) hs
theorem aAv(lo hi:Option Int)(n:Nat):(sliceBounds lo hi none n).1=((HT.sIx n 0 lo:Nat):Int)/\(sliceBounds lo hi none n).2.1=((HT.sIx n n hi:Nat):Int)/\(sliceBounds lo hi none n).2.2=1:=by
 refine⟨?_, ?_,rfl⟩
 ·cases lo with
  |none=>simp[sliceBounds,HT.sIx]
  |some i=>
   simp only[sliceBounds,HT.sIx,aJC,show(1:Int)>0 by decide,if_true]
   by_cases h:i<0
   ·simp only[h,if_true]<;>omega
   ·simp only[h,if_false]<;>omega
 ·cases hi with
  |none=>simp[sliceBounds,HT.sIx]
  |some i=>
   simp only[sliceBounds,HT.sIx,aJC,show(1:Int)>0 by decide,if_true]
   by_cases h:i<0
   ·simp only[h,if_true]<;>omega
   ·simp only[h,if_false]<;>omega
theorem zD(its:List BH)(lo hi:Option Int):slicePick its.toArray lo hi none=((its.drop<|HT.sIx its.length 0 lo).take<|HT.sIx its.length its.length hi-HT.sIx its.length 0 lo).toArray:=by obtain⟨h1,h2,h3⟩:=aAv lo hi its.toArray.size;unfold slicePick;rw[h1,h2,h3];simp only[sliceRange_one,pick_run,aK]<;>rfl
def rSlL(K:aA):V->Option Int->Option Int->Hp->VK->Prop:=λx lo hi H Q=>∃a xs,x=.ref a/\SqL K H a xs/\∀p,H p=none->Q (.ref p) (upd H p (.lst<|yZ xs lo hi))
theorem aMt:SlR X (rSlL X.K):=by intro pins s σ H x v vl vu lo hi sl Q I rx hs pl pu h;obtain⟨a,xs,rfl,hx,q⟩:=h;cases rx;obtain⟨its,r,ht,hz⟩:=I.list hx;have hlen:=r.length;refine⟨"list",_,slot_list_getitem.lookup,ht.isList.typeIs, ?_⟩;refine wpAny_getItem_list_slice ht.isList hs pl pu .none (by simp) ?_ (by rw[aK]<;>omega);rw[zD,<-hlen];refine⟨.ref s.heap.objs.size,_,I.laid (t':=s.toks) (o:=.lst<|yZ xs lo hi) (λb ob q=>aD _ q) (aR _) ?_,rfl,q _ (I.hok.fresh<|aR _)⟩;exact⟨bZ (uT xs lo hi) hz,_,0,(r.drop<|HT.sIx xs.length 0 lo).take<|HT.sIx xs.length xs.length hi-HT.sIx xs.length 0 lo,aS _ rfl⟩
noncomputable def oJ:V->Bool
 |.non=>true
 |.bl _=>true
 |.int _=>true
 |.str _=>true
 |_=>false
noncomputable def eqV:V->V->Bool
 |.non,.non=>true
 |.bl a,.bl b=>a==b
 |.bl a,.int b=>(if a then 1 else 0)==b
 |.int a,.bl b=>a==(if b then 1 else 0)
 |.int a,.int b=>a==b
 |.str a,.str b=>a==b
 |_,_=>false
theorem yL{A:BK}{s:BI}{y x:V}{u v:BH}(ry:RelV y u)(rx:RelV x v)(fy:oJ y=true)(fx:oJ x=true):SeqAt.EqAt A s u v (eqV y x):=by
 cases y with
 |non=>
  cases ry;cases x with
  |non=>cases rx;exact SeqAt.EqAt.same _
  |bl b=>cases rx;exact SeqAt.EqAt.none_bool b
  |int b=>obtain⟨t,rfl⟩:=rx;exact SeqAt.EqAt.none_int b t
  |str b=>obtain⟨t,rfl⟩:=rx;exact SeqAt.EqAt.none_str b t
  |_=>exact absurd (show false=true from fx) bO
 |bl a=>
  cases ry;cases x with
  |non=>cases rx;exact SeqAt.EqAt.bool_none a
  |bl b=>cases rx;exact SeqAt.EqAt.bool_bool a b
  |int b=>obtain⟨t,rfl⟩:=rx;exact SeqAt.EqAt.bool_int a b t
  |str b=>obtain⟨t,rfl⟩:=rx;exact SeqAt.EqAt.bool_str a b t
  |_=>exact absurd (show false=true from fx) bO
 |int a=>
  obtain⟨t',rfl⟩:=ry;cases x with
  |non=>cases rx;exact SeqAt.EqAt.int_none a t'
  |bl b=>cases rx;exact SeqAt.EqAt.int_bool a t' b
  |int b=>obtain⟨t,rfl⟩:=rx;exact SeqAt.EqAt.int_int a t' b t
  |str b=>obtain⟨t,rfl⟩:=rx;exact SeqAt.EqAt.int_str a t' b t
  |_=>exact absurd (show false=true from fx) bO
 |str a=>
  obtain⟨t',rfl⟩:=ry;cases x with
  |non=>cases rx;exact SeqAt.EqAt.str_none a t'
  |bl b=>cases rx;exact SeqAt.EqAt.str_bool a t' b
  |int b=>obtain⟨t,rfl⟩:=rx;exact SeqAt.EqAt.str_int a t' b t
  |str b=>obtain⟨t,rfl⟩:=rx;exact SeqAt.EqAt.str_str a t' b t
  |_=>exact absurd (show false=true from fx) bO
 |_=>exact absurd (show false=true from fy) bO
noncomputable def eqU(x:V)(u:BH):Bool:=match u with
 |.none=>eqV .non x
 |.bool b=>eqV (.bl b) x
 |.int i _=>eqV (.int i) x
 |.str z _=>eqV (.str z) x
 |_=>false
theorem aJT{x y:V}{u:BH}(r:RelV y u)(f:oJ y=true):eqU x u=eqV y x:=by
 cases y with
 |non=>cases r;rfl
 |bl b=>cases r;rfl
 |int i=>obtain⟨t,rfl⟩:=r;rfl
 |str z=>obtain⟨t,rfl⟩:=r;rfl
 |_=>exact absurd (show false=true from f) bO
theorem sW{x:V}:∀ {xs:List V}{us:List BH},Vals xs us->xs.all oJ=true->us.any (eqU x)=xs.any λy=>eqV y x
 |_,_,.nil,_=>rfl
 |y::xs,u::us,.cons r t,f=>by rw[aQh,bR] at f;rw[jP,jP,aJT r f.1,sW t f.2]
theorem oT{A:BK}{s:BI}{x:V}{v:BH}(rx:RelV x v)(fx:oJ x=true):∀ {xs:List V}{us:List BH},Vals xs us->xs.all oJ=true->∀u∈us,SeqAt.EqAt A s u v (eqU x u)
 |_,_,.nil,_=>λu hu=>by cases hu
 |y::xs,u::us,.cons r t,f=>λu' hu=>by
  rw[aQh,bR] at f
  rcases aU.mp hu with rfl|hu
  ·rw[aJT r f.1];exact yL r rx f.1 fx
  ·exact oT rx fx t f.2 u' hu
noncomputable def inV(x:V)(xs:List V):Bool:=xs.any λy=>eqV y x
noncomputable def rIn(K:aA)(neg:Bool):R2:=λx y H Q=>∃p xs,y=.ref p/\(SqL K H p xs\/SqT K H p xs)/\oJ x=true/\xs.all oJ=true/\Q (.bl (if neg then !inV x xs else inV x xs)) H
theorem aGM:OpR X (AO .In) (rIn X.K false):=by
 intro pins s σ H x y v u Q I rx ry h;obtain⟨p,xs,rfl,hq,fx,fs,q⟩:=h;cases ry
 rcases hq with hq|hq
 ·obtain⟨its,r,pl,hz⟩:=I.list hq;refine SeqAt.in_listAt (eqU x) pl.isList (λw hw=>oT rx fx r fs w<|by simpa using hw) ⟨.bl _,H,I,rfl, ?_⟩;rw[show its.toArray.any (eqU x)=its.any (eqU x) by simp,sW r fs];exact q
 ·obtain⟨its,r,pl,hz⟩:=I.tuple hq;refine SeqAt.in_tupleAt (eqU x) pl (λw hw=>oT rx fx r fs w<|by simpa using hw) ⟨.bl _,H,I,rfl, ?_⟩;rw[show its.toArray.any (eqU x)=its.any (eqU x) by simp,sW r fs];exact q
theorem aAA:OpR X (AO .NotIn) (rIn X.K true):=by
 intro pins s σ H x y v u Q I rx ry h;obtain⟨p,xs,rfl,hq,fx,fs,q⟩:=h;cases ry
 rcases hq with hq|hq
 ·obtain⟨its,r,pl,hz⟩:=I.list hq;refine SeqAt.notIn_listAt (eqU x) pl.isList (λw hw=>oT rx fx r fs w<|by simpa using hw) ⟨.bl _,H,I,rfl, ?_⟩;rw[show its.toArray.any (eqU x)=its.any (eqU x) by simp,sW r fs];exact q
 ·obtain⟨its,r,pl,hz⟩:=I.tuple hq;refine SeqAt.notIn_tupleAt (eqU x) pl (λw hw=>oT rx fx r fs w<|by simpa using hw) ⟨.bl _,H,I,rfl, ?_⟩;rw[show its.toArray.any (eqU x)=its.any (eqU x) by simp,sW r fs];exact q
theorem oE:mG X (.builtin "len") (λxs H Q=>∃p ys,xs=[.ref p]/\(SqL X.K H p ys\/SqT X.K H p ys)/\Q (.int ys.length) H):=by
 intro pins s σ H xs us Q I r h;obtain⟨p,ys,rfl,hq,q⟩:=h;obtain⟨u,rfl,rx⟩:=mL r;cases rx;have hn:=wU
 rcases hq with hq|hq
 ·obtain⟨its,r',pl,hz⟩:=I.list hq;have hlen:=r'.length;exact Calls.call_len_list pl.isList (by simp only[aK]<;>omega) ⟨.int ys.length,H,I.tok _,⟨s.toks+1,by rw[aK,hlen]⟩,q⟩
 ·obtain⟨its,r',pl,hz⟩:=I.tuple hq;have hlen:=r'.length;exact len_tuple pl (by simp only[aK]<;>omega) ⟨.int ys.length,H,I.tok _,⟨s.toks+1,by rw[aK,hlen]⟩,q⟩
theorem aAw:mG X (.type "list") (λxs H Q=>∃p ys,xs=[.ref p]/\(SqL X.K H p ys\/SqT X.K H p ys)/\∀l,H l=none->Q (.ref l) (upd H l<|.lst ys)):=by
 intro pins s σ H xs us Q I r h;obtain⟨p,ys,rfl,hq,q⟩:=h;obtain⟨u,rfl,rx⟩:=mL r;cases rx
 have fin:∀ (its:List BH),Vals ys its->ys.length<=AH->∀ (h':BL) (c':Nat),(∀b o',s.heap.get? b=some o'->h'.get? b=some o')->
   h'.get? s.heap.objs.size=some {cls:=.type "list",dict:=none,data:=.seq its.toArray c',slots:= #[]}->EP X pins σ Q (.ref s.heap.objs.size) {s with heap:=h'}:=λits r' hz h' c' kp e=>
  ⟨.ref s.heap.objs.size,_,I.laid (t':=s.toks) kp (aR _) (show ObjOk X.prog X.w _ h' _ (.lst ys) from⟨hz,its,c',r',e⟩),rfl,q _ (I.hok.fresh<|aR _)⟩
 rcases hq with hq|hq
 ·obtain⟨its,r',pl,hz⟩:=I.list hq;have hlen:=r'.length;obtain⟨o,ho,hc,n,hd⟩:=pl.isList;exact call_list_seq p (.inl rfl) ho hc hd (λh' c' kp e=>fin its r' hz h' c' kp e) (by simp only[aK]<;>omega)
 ·obtain⟨its,r',pl,hz⟩:=I.tuple hq;have hlen:=r'.length;obtain⟨o,ho,hc,n,hd⟩:=pl;exact call_list_seq p (.inr rfl) ho hc hd (λh' c' kp e=>fin its r' hz h' c' kp e) (by simp only[aK]<;>omega)
theorem zM:mG X (.type "tuple") (λxs H Q=>∃p ys,xs=[.ref p]/\((SqL X.K H p ys/\∀l,H l=none->Q (.ref l) (upd H l<|.tup ys))\/(SqT X.K H p ys/\Q (.ref p) H))):=by
 intro pins s σ H xs us Q I r h;obtain⟨p,ys,rfl,h⟩:=h;obtain⟨u,rfl,rx⟩:=mL r;cases rx
 rcases h with⟨hq,q⟩|⟨hq,q⟩
 ·obtain⟨its,r',pl,hz⟩:=I.list hq;have hlen:=r'.length;refine call_tuple_list pl.isList (λh' kp=> ?_) (by simp only[aK]<;>omega);have I1:Inv X pins σ H {s with heap:=h'}:=I.kept (t':=s.toks) kp
  have I2:Inv X pins σ (upd H h'.objs.size<|.tup ys) {s with heap:=h'.push {cls:=.type "tuple",data:=.seq its.toArray}}:=
   I1.laid (t':=s.toks) (λb o e=>aD _ e) (aR _) (show ObjOk X.prog X.w _ _ _ (.tup ys) from⟨hz,its,r',IsTupD.new _ _⟩)
  exact⟨.ref h'.objs.size,_,I2,rfl,q _ (I1.hok.fresh<|aR _)⟩
 ·obtain⟨its,r',pl,hz⟩:=I.tuple hq;exact call_tuple_same pl ⟨.ref p,H,I,rfl,q⟩
def tyV(K:aA)(T:String)(x:V)(H:Hp):Prop:=match x with
 |.str _=>T="str"
 |.int _=>T="int"
 |.ref p=>(T="list"/\∃xs,SqL K H p xs)\/(T="tuple"/\∃o,K.lookup p=some o/\o.cls=.type "tuple"/\o.dict=none)\/
   (T="dict"/\((∃kvs,H p=some (.dK kvs))\/∃kvs,H p=some (.dT kvs)))\/(T="set"/\∃S n,H p=some (.set S n))
 |_=>False
theorem aPg{pins:List (BJ×BM)}{σ:St}{H:Hp}{s:BI}{T:String}{x:V}{v:BH}(I:Inv X pins σ H s)(r:RelV x v)(ty:tyV X.K T x H):
  s.TypeIs v T/\∀a,v=.ref a->∃ob,s.heap.get? a=some ob/\ob.dict=none:=by
 cases x with
 |str z=>obtain⟨t,rfl⟩:=r;cases(show T="str" from ty);exact⟨typeIs_str s z t,λ_ e=>nomatch e⟩
 |int i=>obtain⟨t,rfl⟩:=r;cases(show T="int" from ty);exact⟨typeIs_int s i t,λ_ e=>nomatch e⟩
 |ref p=>
  cases r
  rcases ty with⟨rfl,xs,hq⟩|⟨rfl,o,hk,hc,hd⟩|⟨rfl,hk⟩|⟨rfl,S,n,hk⟩
  ·obtain⟨its,_,pl,_⟩:=I.list hq;refine⟨pl.isList.typeIs,λa e=> ?_⟩;cases e;obtain⟨o,n,e,c,hd,_⟩:=pl;exact⟨o,e,hd⟩
  ·refine⟨⟨o,I.kIn p o hk,hc⟩,λa e=> ?_⟩;cases e;exact⟨o,I.kIn _ o hk,hd⟩
  ·have z:∃o,s.heap.get? p=some o/\o.ExactDict:=by
    rcases hk with⟨kvs,hk⟩|⟨kvs,hk⟩
    ·obtain⟨_,_,_,_,o,_,_,e,ex,_⟩:=I.hok p _ hk;exact⟨o,e,ex⟩
    ·obtain⟨_,_,_,_,o,_,_,e,ex,_⟩:=I.hok p _ hk;exact⟨o,e,ex⟩
   obtain⟨o,e,ex⟩:=z;refine⟨⟨o,e,ex.1⟩,λa e2=> ?_⟩;cases e2;exact⟨o,e,ex.2.1⟩
  ·obtain⟨o,_,_,_,e,ex,_⟩:=I.hok p _ hk;refine⟨⟨o,e,ex.1⟩,λa e2=> ?_⟩;cases e2;exact⟨o,e,ex.2.1⟩
 |_=>exact False.elim ty
noncomputable def tBM(K:aA)(T:String)(r:V->List V->Hp->VK->Prop)(to:TE)(t:TA):TE:=λσ H Q=>to σ H λx H1=>tyV K T x H1/\t σ H1 λxs H2=>r x xs H2 Q
variable {o e:Expr}{es:List Expr}{to:TE}{t:TA}{name:Str}{apos cpos:Pos}{T id:String}{r:V->List V->Hp->VK->Prop}
theorem aDQ(pa:PlainAttrs T)(slot:Slot T name id)(hty:typeOf (.builtin id)=pure (.type "method_descriptor"))(hm:MtR X id r)(ho:PE X o to)(ha:PA X (e::es) t)
  (hbase:Ad o name X.env (eval o X.env)=eval o X.env:=by rfl)
  (hfew:((Ae cpos (AC (e::es) X.env)).all (fun x=> !x.1) && (backToKw cpos (keywordEach [] X.env)).all (fun x=>x.1.isSome)
  &&decide ((e::es).length+([]:List Keyword).length+(if([]:List Keyword).isEmpty then 0 else 1)<30))=true:=by rfl)
  (hline:(apos.endLine==cpos.line)=true:=by rfl) (hs:AC (e::es) X.env=(false,eval e X.env)::AC es X.env:=by rfl) (hplain:(Ae cpos<|AC es X.env).any (·.1)=false:=by rfl):
  PE X (.Call (.Attribute o name apos) (e::es) [] cpos) (tBM X.K T r to t):=by
 intro pins s σ H Q I h;refine wpAny_Call_method_late hbase hfew hline rfl<|thn (ho pins s σ H _ I h) λv s1 ⟨x,H1,I1,r1,ty,q1⟩=> ?_;obtain⟨h1,h2⟩:=aPg I1 r1 ty;refine⟨T,id,pa,slot,hty,h1,h2, ?_⟩;have hA:=ha cpos pins s1 σ H1 _ I1 q1;rw[hs] at hA ⊢;refine Calls.callWith_builtin (by show(false||(Ae cpos<|AC es X.env).any (·.1))=false;rw[hplain]<;>rfl)<|Calls.evalArgs_plain ?_;exact thn hA λus s2 ⟨vs,H2,I2,r2,q2⟩=>hm pins s2 σ H2 x vs v us Q I2 r1 r2 q2
/- xs.append(e),list.index on a module's tuple .. are MtR facts of 06m -/
end
def MtM(X:Cx)(id:String)(r:V->List V->Hp->VK->Prop):Prop:=
 ∀ (pins:List (BJ×BM)) (s:BI) (σ:St) (H:Hp) (x:V) (xs:List V) (v:BH) (us:List BH) (Q:VK),Inv X pins σ H s->RelV x v->Vals xs us->r x xs H Q->
  AE (AF X.prog X.w) X.A (call (.builtin id) (v::us)) (EP X pins σ Q) X.xe s
theorem Vals.one:∀ {x:V}{us:List BH},Vals [x] us->∃u,us=[u]/\RelV x u
 |_,_,.cons r .nil=>⟨_,rfl,r⟩
theorem Vals.eraseIdx:∀ {xs:List V}{us:List BH} (i:Nat),Vals xs us->Vals (xs.eraseIdx i) (us.eraseIdx i)
 |_,_,_,.nil=>.nil
 |_,_,0,.cons _ t=>t
 |_,_,i+1,.cons r t=>.cons r<|Vals.eraseIdx i t
theorem Vals.reverse{xs:List V}{us:List BH}(h:Vals xs us):Vals xs.reverse us.reverse:=by
 induction h with
 |nil=>exact .nil
 |cons r t ih=>rw[nH,nH];exact Vals.append ih<|.cons r .nil
theorem aAj{α:Type}:∀ (l:List α) (i:Nat),(l.eraseIdx i).length<=l.length
 |[],_=>aR _
 |_::_,0=>fK _
 |_::r,i+1=>oP<|aAj r i
variable {pins:List (BJ×BM)}{σ:St}{H:Hp}{s:BI}{l b:BJ}{xs ys zs:List V}
theorem Inv.lset{its its':List BH}{n:Nat}{f:Array BH->Array BH}{t':Nat}(I:Inv X pins σ H s)(hH:H l=some (.lst xs))
  (e:s.heap.get? l=some {cls:=.type "list",data:=.seq its.toArray n}) (hf:f its.toArray=its'.toArray) (hv:Vals ys its') (hz:ys.length<=AH):
  Inv X pins σ (upd H l<|.lst ys) {s with heap:=s.heap.update l<|Obj.mapSeq f,toks:=t'}:=by
 have q:=PySem.IsL.update e f;rw[hf] at q;refine I.write (x:=l) (e:=l) (by rw[hH];exact trivial) (.inl rfl) (λb' u hb hu=>(cP s.heap (Obj.mapSeq f)<|Ne.symm hb).trans hu) ⟨_,q⟩ ?_;exact⟨hz,its',_,hv,q⟩
theorem Inv.lnew{its:List BH}{t':Nat}(I:Inv X pins σ H s)(hv:Vals ys its)(hz:ys.length<=AH):
  Inv X pins σ (upd H s.heap.objs.size<|.lst ys) {s with heap:=s.heap.push {cls:=.type "list",data:=.seq its.toArray},toks:=t'}:=
 I.laid (λ_ _ q=>aD _ q) (aR _) ⟨hz,its,0,hv,aS _ rfl⟩
theorem Inv.fresh(I:Inv X pins σ H s):H s.heap.objs.size=none:=I.hok.fresh<|aR _
theorem Inv.lstM(I:Inv X pins σ H s)(hH:H l=some (.lst xs)):xs.length<=AH/\∃ (its:List BH) (n:Nat),Vals xs its/\xs.length=its.length/\s.heap.get? l=some {cls:=.type "list",data:=.seq its.toArray n}:=by obtain⟨z,its,n,r,e⟩:=I.hok l _ hH;exact⟨z,its,n,r,r.length,e⟩
theorem aJg{n:Nat}(h:n<=AH):Builtin.List.listTooLong n=false:=by unfold Builtin.List.listTooLong;exact decide_eq_false<|by omega
def sA:V->List V->Hp->VK->Prop:=λx vs H Q=>∃l xs y,x=.ref l/\vs=[y]/\H l=some (.lst xs)/\xs.length<AH/\Q .non (upd H l (.lst<|xs++[y]))
theorem uH:MtM X "list.append" sA:=by intro pins s σ H x vs v us Q I rx rv h;obtain⟨l,xs,y,rfl,rfl,hH,hz,q⟩:=h;cases rx;obtain⟨u,rfl,ru⟩:=rv.one;obtain⟨z,its,n,r,hl,e⟩:=I.lstM hH;refine call_meets F.slot_list_append ⟨_,e,rfl⟩ F.entry_list_append (F.args_list_append_2 _ _) (PySem.list_append l its.toArray n u<|by rw[aK];omega) ⟨e, ?_⟩;refine⟨.non,_,I.lset (its':=its++[u]) hH e (by simp) (r.append<|.cons ru .nil) ?_,rfl,q⟩;rw[aP,List.length_singleton];omega
def aEF:V->List V->Hp->VK->Prop:=λx vs H Q=>∃l b xs zs,x=.ref l/\vs=[.ref b]/\H l=some (.lst xs)/\H b=some (.lst zs)/\xs.length+zs.length<=AH/\Q .non (upd H l (.lst<|xs++zs))
theorem aGC:MtM X "list.extend" aEF:=by
 intro pins s σ H x vs v us Q I rx rv h;obtain⟨l,b,xs,zs,rfl,rfl,hH,hB,hz,q⟩:=h;cases rx;obtain⟨u,rfl,ru⟩:=rv.one;cases ru;obtain⟨z,its,n,r,hl,e⟩:=I.lstM hH;obtain⟨z2,its2,n2,r2,hl2,e2⟩:=I.lstM hB;have hsz:its.toArray.size+its2.toArray.size<=AH:=by rw[aK,aK];omega
 have hlong:¬ (!its.toArray.isEmpty&&Builtin.List.listTooLong (its.toArray.size+its2.toArray.size))=true:=by rw[aJg hsz,aPT];exact bO
 refine call_meets F.slot_list_extend ⟨_,e,rfl⟩ F.entry_list_extend (F.args_list_extend_2 _ _)
  (AutoSeq1.list_extend_list_list_0 l its.toArray n b its2.toArray n2 hlong (by rw[aK];omega)<|by omega) ⟨e,e2, ?_⟩
 refine⟨.non,_,I.lset (its':=its++its2) hH e (by simp) (r.append r2) ?_,rfl,q⟩;rw[aP];omega
def aKz:V->List V->Hp->VK->Prop:=λx vs H Q=>∃l xs i k y,x=.ref l/\vs=[.int i]/\H l=some (.lst xs)/\ -(2^63)<=i/\i<2^63/\seqIndex? i xs.length=some k/\xs[k]? =some y/\Q y (upd H l (.lst<|xs.eraseIdx k))
theorem aIH:MtM X "list.pop" aKz:=by
 intro pins s σ H x vs v us Q I rx rv h;obtain⟨l,xs,i,k,y,rfl,rfl,hH,h1,h2,hk,hy,q⟩:=h;cases rx;obtain⟨u,rfl,ru⟩:=rv.one;obtain⟨t,rfl⟩:=ru;obtain⟨z,its,n,r,hl,e⟩:=I.lstM hH;obtain⟨w,hw,rw'⟩:=r.get hy
 refine call_meets F.slot_list_pop ⟨_,e,rfl⟩ F.entry_list_pop (F.args_list_pop_2 _ _)
  (MeetsSeq.list_pop_at l its.toArray n i t k w (fitsIndex_both h1 h2) (by rw[aK,<-hl];exact hk) (by rw[<-eM];exact hw)<|by rw[aK];omega) ⟨e, ?_⟩
 refine⟨y,_,I.lset (its':=its.eraseIdx k) hH e ?_ (r.eraseIdx k) ?_,rw',q⟩
 ·show its.toArray.eraseIdxIfInBounds k=(its.eraseIdx k).toArray;rw[List.eraseIdxIfInBounds_toArray]
 ·have:=aAj xs k;omega
noncomputable def rCat:R2:=λx y H Q=>∃l b xs zs,x=.ref l/\y=.ref b/\H l=some (.lst xs)/\H b=some (.lst zs)/\xs.length+zs.length<=AH/\∀p,H p=none->Q (.ref p) (upd H p (.lst<|xs++zs))
theorem aPH:OpR X (Ag .Add) rCat:=by
 intro pins s σ H x y v u Q I rx ry h;obtain⟨l,b,xs,zs,rfl,rfl,hH,hB,hz,q⟩:=h;cases rx;cases ry;obtain⟨z,its,n,r,hl,e⟩:=I.lstM hH;obtain⟨z2,its2,n2,r2,hl2,e2⟩:=I.lstM hB;refine PySem.P.add_list e e2 ?_ (by rw[aK,aK];omega);have ea:its.toArray++its2.toArray=(its++its2).toArray:=by simp
 rw[ea];exact⟨.ref _,_,I.lnew (t':=s.toks) (r.append r2) (by rw[aP];omega),rfl,q _ I.fresh⟩
section
variable {prog:AD}{w:AI}{A:BK}{E:BH->BI->Prop}{s:BI}
set_option maxRecDepth 100000 in
end
section
variable {κ:Type}[DecidableEq κ]
noncomputable def jE(kvs:List (κ×V))(k:κ):Option V:=(kvs.find? λkv=>decide<|kv.1=k).map (·.2)
noncomputable def sC(kvs:List (κ×V))(k:κ)(v:V):List (κ×V):=
 if(kvs.any λkv=>decide<|kv.1=k)=true then kvs.map (λkv=>if kv.1=k then(kv.1,v) else kv) else kvs++[(k,v)]
theorem kA{p:κ×V}{r:List (κ×V)}{k:κ}(e:p.1=k):jE (p::r) k=some p.2:=by simp[jE,gL,e]
theorem iA{p:κ×V}{r:List (κ×V)}{k:κ}(e:¬ p.1=k):jE (p::r) k=jE r k:=by simp[jE,gL,e]
theorem xO(k:κ):∀kvs:List (κ×V),(kvs.any λkv=>decide<|kv.1=k)=(jE kvs k).isSome
 |[]=>rfl
 |p::r=>by
  rw[jP]
  by_cases e:p.1=k
  ·simp only[kA e,decide_eq_true e,Bool.true_or,Option.isSome_some]
  ·rw[iA e,decide_eq_false e,Bool.false_or];exact xO k r
theorem uU(kvs:List (κ×V))(k:κ)(v:V):(sC kvs k v).length<=kvs.length+1:=by
 unfold sC
 split
 ·rw[aB];omega
 ·rw[aP,bP,fJ];omega
theorem sR{kvs:List (κ×V)}{k:κ}(v:V)(h:jE kvs k=none):sC kvs k v=kvs++[(k,v)]:=by unfold sC;rw[xO,h];exact if_neg<|by decide
theorem RelO.isSome_eq{o:Option V}{u:Option BH}(r:RelO o u):o.isSome=u.isSome:=by
 cases o with
 |none=>cases u with
  |none=>rfl
  |some _=>exact(show False from r).elim
 |some _=>cases u with
  |none=>exact(show False from r).elim
  |some _=>rfl
theorem KV.val{kvs:List (κ×V)}{vs:List (κ×BH)}(r:KV kvs vs)(k:κ):RelO (jE kvs k) (valueAt vs k):=by
 unfold KV at r
 induction r with
 |nil=>exact True.intro
 |@cons p q ps qs h t ih=>
  obtain⟨h1,h2⟩:=h
  by_cases e:p.1=k
  ·have e':q.1=k:=h1.symm.trans e;have b:valueAt (q::qs) k=some q.2:=by simp[valueAt,gL,e']
   rw[kA e,b];exact h2
  ·have e':¬ q.1=k:=λz=>e (h1.trans z)
   have b:valueAt (q::qs) k=valueAt qs k:=by simp[valueAt,gL,e']
   rw[iA e,b];exact ih
theorem KV.any{kvs:List (κ×V)}{vs:List (κ×BH)}(r:KV kvs vs)(k:κ):(kvs.any λkv=>decide<|kv.1=k)=vs.any λkv=>decide (kv.1=k):=by
 unfold KV at r
 induction r with
 |nil=>rfl
 |cons h t ih=>rw[jP,jP,ih,h.1]
theorem KV.repl{kvs:List (κ×V)}{vs:List (κ×BH)}(r:KV kvs vs)(k:κ){y:V}{u:BH}(ry:RelV y u):
  KV (kvs.map λkv=>if kv.1=k then(kv.1,y) else kv) (vs.map λkv=>if kv.1=k then(kv.1,u) else kv):=by
 unfold KV at r ⊢
 induction r with
 |nil=>exact .nil
 |@cons p q ps qs h t ih=>
  rw[aV,aV];refine .cons ?_ ih;obtain⟨h1,h2⟩:=h
  by_cases e:p.1=k
  ·rw[if_pos e,if_pos<|h1.symm.trans e];exact⟨h1,ry⟩
  ·rw[if_neg e,if_neg (λz=>e<|h1.trans z)];exact⟨h1,h2⟩
theorem KV.put{kvs:List (κ×V)}{vs:List (κ×BH)}(r:KV kvs vs)(k:κ){y:V}{u:BH}(ry:RelV y u):KV (sC kvs k y) (stored vs k u):=by
 unfold sC stored;rw[r.any k]
 by_cases e:(vs.any λkv=>decide<|kv.1=k)=true
 ·rw[if_pos e,if_pos e];exact r.repl k ry
 ·rw[if_neg e,if_neg e];exact Paired.snoc r ⟨rfl,ry⟩
theorem KV.length{kvs:List (κ×V)}{vs:List (κ×BH)}(r:KV kvs vs):kvs.length=vs.length:=Paired.length r
end
theorem aHG{P:AD}{w:AI}{k:Key}{u:BH}(r:RelV (kV k) u):(eP P w).is k u=true:=by
 cases k with
 |inl i=>obtain⟨t,e⟩:=(show ∃t,u=Value.int i t from r);subst e;exact aBB P w i t
 |inr x=>obtain⟨t,e⟩:=(show ∃t,u=Value.str x t from r);subst e;exact aBw P w x t
theorem aAc{P:AD}{w:AI}:∀ {ks:List Key}{us:List BH},Vals (ks.map kV) us->ItemsAre (eP P w) ks us
 |[],_,r=>by rw[eA] at r;cases r;exact .nil
 |k::ks,_,r=>by
  rw[aV] at r;cases r with
  |cons h t=>exact .cons (aHG h)<|aAc t
abbrev KT(H:Hp):List (List Key×V)->List (List Key×BJ×BH)->Prop:=Paired λp q=>p.1=q.1/\H q.2.1=some (.tup<|p.1.map kV)/\RelV p.2 q.2.2
theorem KT.val{kvs:List (List Key×V)}{xs:List (List Key×BJ×BH)}(r:KT H kvs xs)(k:List Key):RelO (jE kvs k) ((atKey xs k).map (·.2)):=by
 induction r with
 |nil=>exact True.intro
 |@cons p q ps qs h t ih=>
  obtain⟨h1,_,h2⟩:=h
  by_cases e:p.1=k
  ·have e':q.1=k:=h1.symm.trans e;have b:atKey (q::qs) k=some q.2:=by simp[atKey,gL,e']
   rw[kA e,b];exact h2
  ·have e':¬ q.1=k:=λz=>e (h1.trans z)
   have b:atKey (q::qs) k=atKey qs k:=by simp[atKey,gL,e']
   rw[iA e,b];exact ih
theorem KT.repl{kvs:List (List Key×V)}{xs:List (List Key×BJ×BH)}(r:KT H kvs xs)(k:List Key){y:V}{u:BH}(ry:RelV y u):
  KT H (kvs.map λkv=>if kv.1=k then(kv.1,y) else kv) (xs.map<|putAt k u):=by
 induction r with
 |nil=>exact .nil
 |@cons p q ps qs h t ih=>
  rw[aV,aV];refine .cons ?_ ih;obtain⟨h1,h2,h3⟩:=h;unfold putAt
  by_cases e:p.1=k
  ·rw[if_pos e,if_pos<|h1.symm.trans e];exact⟨h1,h2,ry⟩
  ·rw[if_neg e,if_neg (λz=>e<|h1.trans z)];exact⟨h1,h2,h3⟩
theorem KT.put{kvs:List (List Key×V)}{xs:List (List Key×BJ×BH)}(r:KT H kvs xs)(k:List Key){y:V}{u:BH}(hb:H b=some (.tup<|k.map kV))(ry:RelV y u):
  KT H (sC kvs k y) (storedH xs k b u):=by
 have e:(kvs.any λkv=>decide<|kv.1=k)=(atKey xs k).isSome:=by rw[xO,(r.val k).isSome_eq,tM]
 unfold sC storedH;rw[e]
 by_cases q:(atKey xs k).isSome=true
 ·rw[if_pos q,if_pos q];exact r.repl k ry
 ·rw[if_neg q,if_neg q];exact Paired.snoc r ⟨rfl,hb,ry⟩
theorem KT.keeps{H':Hp}{kvs:List (List Key×V)}{xs:List (List Key×BJ×BH)}(r:KT H kvs xs)(ht:∀b ys,H b=some (.tup ys)->H' b=some (.tup ys)):KT H' kvs xs:=
 Paired.mapP r λ_ _ z=>⟨z.1,ht _ _ z.2.1,z.2.2⟩
variable {P:AD}{w:AI}{h:BL}{a:BJ}
theorem aOy{u:HO}(ok:HOk P w H h)(e:Rd H a u):ObjOk P w H h a u:=e.ok ok
theorem aHz{kvs:List (Key×V)}(ok:HOk P w H h)(e:Rd H a (.dK kvs)):kvs.length<=AH/\(a==AV)=false/\∃vs,KV kvs vs/\h.DictOf (eP P w) a vs:=
 show ObjOk P w H h a (.dK kvs) from aOy ok e
theorem aQO{kvs:List (Key×V)}(ok:HOk P w H h)(e:H a=some (.dK kvs)):kvs.length<=AH/\(a==AV)=false/\∃vs,KV kvs vs/\h.DictOf (eP P w) a vs:=aHz ok<|.inl e
theorem mS{ks:List Key}(ok:HOk P w H h)(e:H a=some (.tup<|ks.map kV)):(Ai<|eP P w).is h ks a:=by obtain⟨_,its,r,o,h1,h2,⟨n,h3⟩,_⟩:=(show ObjOk P w H h a (.tup<|ks.map kV) from ok a _ e);exact⟨o,its.toArray,n,h1,h2,h3,by simpa using aAc r⟩
theorem aHv{kvs:List (List Key×V)}(ok:HOk P w H h)(e:Rd H a (.dT kvs)):kvs.length<=AH/\(a==AV)=false/\
  ∃xs,KT H kvs xs/\h.DictOfH (Ai<|eP P w) a xs:=by
 obtain⟨z,y,xs,r,o,es,ep,h1,h2,h3,h4,h5⟩:=(show ObjOk P w H h a (.dT kvs) from aOy ok e);refine⟨z,y,xs,r,o,es,ep,h1,h2,h3,h4,λx hx=> ?_,h5⟩
 have all:∀ {l:List (List Key×V)}{m:List (List Key×BJ×BH)},KT H l m->∀x∈m,(Ai<|eP P w).is h x.1 x.2.1:=by
  intro l m q
  induction q with
  |nil=>intro x hx;exact nomatch hx
  |@cons p q ps qs hq t ih=>
   intro x hx
   rcases aU.mp hx with e|hx
   ·subst e;exact mS ok (by rw[<-hq.1];exact hq.2.1)
   ·exact ih x hx
 exact all r x hx
theorem aRb{kvs:List (List Key×V)}(ok:HOk P w H h)(e:H a=some (.dT kvs)):kvs.length<=AH/\(a==AV)=false/\
  ∃xs,KT H kvs xs/\h.DictOfH (Ai<|eP P w) a xs:=aHv ok<|.inl e
def aNq(H:Hp)(a:BJ)(y:V)(r:Option V):Prop:=
 (∃kvs k,Rd H a (.dK kvs)/\y=kV k/\r=jE kvs k)\/∃kvs k b,Rd H a (.dT kvs)/\y=.ref b/\H b=some (.tup<|k.map kV)/\r=jE kvs k
def DPut(H:Hp)(a:BJ)(y v:V)(H':Hp):Prop:=
 (∃kvs k,H a=some (.dK kvs)/\y=kV k/\kvs.length<AH/\H'=upd H a (.dK<|sC kvs k v))\/
 ∃kvs k b,H a=some (.dT kvs)/\y=.ref b/\H b=some (.tup<|k.map kV)/\kvs.length<AH/\H'=upd H a (.dT<|sC kvs k v)
theorem DPut.k{H:Hp}{a:BJ}{kvs:List (Key×V)}{k:Key}{v:V}(e:H a=some (.dK kvs))(hl:kvs.length<AH):DPut H a (kV k) v (upd H a (.dK<|sC kvs k v)):=.inl ⟨kvs,k,e,rfl,hl,rfl⟩
variable {y v:V}{u r:BH}{o:Option V}{A:BK}{E:BH->BI->Prop}
theorem Inv.big(I:Inv X pins σ H s):AV<s.heap.objs.size:=by have h:AN<s.heap.objs.size:=(I.mod.glob.keeps I.bk).lt;exact Nat.lt_trans (by decide) h
theorem aFP{Q:BH->BI->Prop}(hu:A.units+1<AM)(I:Inv X pins σ H s)(g:aNq H a y (some v))(ry:RelV y u)(h:∀w' s',Inv X pins σ H s'->RelV v w'->Q w' s'):
  AE (AF X.prog X.w) A (getItem (.ref a) u) Q E s:=by
 rcases g with⟨kvs,k,e,ey,l⟩|⟨kvs,k,b,e,ey,eb,l⟩
 ·subst ey;obtain⟨z,hd,vs,rel,dd⟩:=aHz I.hok e;obtain⟨w',hw,rw'⟩:=RelO.some_of (v:=v) (o:=valueAt vs k) (by rw[l];exact rel.val k);exact wpAny_getItem_of (aHG ry) dd.mapOf hw<|h w' _ (I.tok _) rw'
 ·subst ey;cases(show u=Value.ref b from ry);obtain⟨z,hd,xs,rel,dd⟩:=aHv I.hok e;obtain⟨w',hw,rw'⟩:=RelO.some_of (v:=v) (o:=(atKey xs k).map (·.2)) (by rw[l];exact rel.val k);obtain⟨p,hp,hp2⟩:=eE.mp hw;refine wpAny_getItem_heap (Ac hu) (mS I.hok eb) dd hp ?_;rw[hp2];exact h w' _ (I.tok _) rw'
theorem aLC{Q:BH->BI->Prop}(hu:A.units+1<AM)(I:Inv X pins σ H s)(g:aNq H a y o)(ry:RelV y u)(h:∀s',Inv X pins σ H s'->Q (.bool<|!o.isSome) s'):
  AE (AF X.prog X.w) A (AO .NotIn u<|.ref a) Q E s:=by
 rcases g with⟨kvs,k,e,ey,l⟩|⟨kvs,k,b,e,ey,eb,l⟩
 ·subst ey;obtain⟨z,hd,vs,rel,dd⟩:=aHz I.hok e;refine wpAny_notIn_of (aHG ry) hd dd.mapOf ?_;rw[<-(rel.val k).isSome_eq,<-l];exact h _<|I.tok _
 ·subst ey;cases(show u=Value.ref b from ry);obtain⟨z,hd,xs,rel,dd⟩:=aHv I.hok e;refine wpAny_notIn_heap (Ac hu) (mS I.hok eb) hd dd ?_;have q:=(rel.val k).isSome_eq;rw[tM] at q;rw[<-q,<-l];exact h _<|I.tok _
theorem pV{h':BL}{t':Nat}{ob:HO}(I:Inv X pins σ H s)(mu:Mut (H a))(hs:Heap.SameBut a s.heap h')(he:∃q,h'.get? a=some q)(new:ObjOk X.prog X.w (upd H a ob) h' a ob):
  Inv X pins σ (upd H a ob) {s with heap:=h',toks:=t'}:=
 I.write (x:=a) (e:=a) mu (.inl rfl) (λb q hb z=>(hs.2 b hb).trans z) he new
theorem aOL{H':Hp}{h':BL}{kvs:List (Key×V)}{vs:List (Key×BH)}(z:kvs.length<=AH)(hd:(a==AV)=false)(rel:KV kvs vs)(dd:h'.DictOf (eP P w) a vs):
  ObjOk P w H' h' a (.dK kvs):=⟨z,hd,vs,rel,dd⟩
theorem aGH{H':Hp}{Q:Unit->BI->Prop}(hu:A.units+1<AM)(I:Inv X pins σ H s)(g:DPut H a y v H')(ry:RelV y u)(rv:RelV v r)(h:∀s',Inv X pins σ H' s'->Q () s'):
  AE (AF X.prog X.w) A (setItem (.ref a) u r) Q E s:=by
 rcases g with⟨kvs,k,e,ey,l,eH⟩|⟨kvs,k,b,e,ey,eb,l,eH⟩
 ·subst ey eH;obtain⟨z,hd,vs,rel,dd⟩:=aQO I.hok e;have hz:vs.length<=AH:=by rw[<-rel.length];exact z
  have hl:(sC kvs k v).length<=AH:=by have:=uU kvs k v;omega
  refine wpAny_setItem_pairs (hsz:=hz) (aHG ry) dd λh' dd' hs=>h _ ?_
  have he:∃q,h'.get? a=some q:=let ⟨q,_,_,hq,_⟩:=dd';⟨q,hq⟩
  exact pV I (by rw[e];exact True.intro) hs he<|aOL hl hd (rel.put k rv) dd'
 ·subst ey eH;cases(show u=Value.ref b from ry);obtain⟨z,hd,xs,rel,dd⟩:=aRb I.hok e;have hz:xs.length<=AH:=by rw[<-Paired.length rel];exact z
  have hl:(sC kvs k v).length<=AH:=by have:=uU kvs k v;omega
  refine wpAny_setItem_heap (hsz:=hz) (Ac hu) (mS I.hok eb) dd λh' dd' hs=>h _ ?_
  obtain⟨q,es,ep,hq,h2,h3,h4,_,h5⟩:=dd';refine pV I (by rw[e];exact True.intro) hs ⟨q,hq⟩ ⟨hl,hd,_,(rel.put k eb rv).keeps λc ys ec=> ?_,q,es,ep,hq,h2,h3,h4,h5⟩;rw[bD<|aRn ec e λz=>nomatch z];exact ec
def aPZ(i:Expr):Prop:=∀ov iv,subscripted i false ov iv=operate [ov,iv] (getItem ov iv)
theorem aEA{prog:AD}{env:Env}{value slice:Expr}{T id:String}{Q:BH->BI->Prop}
  (hl:typeLookup (.type T) "__getitem__"=pure (some<|.builtin id)) (hs:aPZ slice)
  (h:AE (AF prog w) A (eval value env) (λo s₁=>AE (AF prog w) A (eval slice env) (λi s₂=>s₂.TypeIs o T/\AE (AF prog w) A (getItem o i) Q E s₂) E s₁) E s):
  AE (AF prog w) A (eval (.Subscript value slice pos) env) Q E s:=by
 refine Subscript_<|Af h (λo s₁ h₁=>Af h₁ (λi s₂ h₂=> ?_) λ_ _ x=>x) λ_ _ x=>x;obtain⟨hT,h₂⟩:=h₂;unfold subscriptTail;refine AA ?_;rw[getitemInPython_of_ne hT.not_modules];refine AA<|As hT hl ?_
 have fin:AE (AF prog w) A (subscripted slice false o i) (λr s₃=>AE (AF prog w) A (letTemporaryGo value o r>>=λ_=>pure r) Q E s₃) E s₂:=by rw[hs o i];exact wpAny_operating<|Af h₂ (λr s₃ h₃=>AA (wpAny_letTemporaryGo<|AB h₃)) λ_ _ x=>x
 first
  |exact AB (AA fin)
  |exact AA (AB<|AA fin)
  |exact AA fin
theorem aBy(I:Inv X pins σ H s)(g:aNq H a y o):s.TypeIs (.ref a) "dict":=by
 rcases g with⟨kvs,k,e,_,_⟩|⟨kvs,k,b,e,_,_,_⟩
 ·obtain⟨_,_,vs,_,dd⟩:=aHz I.hok e;exact dd.typeIs
 ·obtain⟨_,_,xs,_,dd⟩:=aHv I.hok e;exact dd.typeIs
noncomputable def aRS(td ty:TE):TE:=λσ H Q=>td σ H λx H1=>ty σ H1 λy H2=>∃a v,x=.ref a/\aNq H2 a y (some v)/\Q v H2
noncomputable def aMJ(ty td:TE):TE:=λσ H Q=>ty σ H λy H1=>td σ H1 λx H2=>∃a o,x=.ref a/\aNq H2 a y o/\Q (.bl<|!o.isSome) H2
noncomputable def aQW(td ty tv:TE):TS:=λD σ H=>tv σ H λv H1=>td σ H1 λx H2=>ty σ H2 λy H3=>∃a H4,x=.ref a/\DPut H3 a y v H4/\D.nx σ H4
variable {o i value:Expr}{pos' tpos:Pos}{td ty tv:TE}
theorem aMC(hu:X.A.units+1<AM)(ho:PE X o td)(hi:PE X i ty)(hs:aPZ i):PE X (.Subscript o i pos) (aRS td ty):=by intro pins s σ H Q I h;refine aEA yY.lookup hs<|thn (ho pins s σ H _ I h) λu s1 ⟨x,H1,I1,rx,q1⟩=>thn (hi pins s1 σ H1 _ I1 q1) λiv s2 ⟨y,H2,I2,ry,a,v,ex,g,q2⟩=> ?_;subst ex;obtain rfl:u=Value.ref a:=rx;exact⟨aBy I2 g,aFP hu I2 g ry λw' s3 I3 rw'=>⟨v,H2,I3,rw',q2⟩⟩
theorem aFW(hu:X.A.units+1<AM)(hi:PE X i ty)(ho:PE X o td):PC X .NotIn i o (aMJ ty td):=by
 intro pins s σ H Q I h;refine thn (hi pins s σ H _ I h) λiv s1 ⟨y,H1,I1,ry,q1⟩=>thn (ho pins s1 σ H1 _ I1 q1) λu s2 ⟨x,H2,I2,rx,a,ov,ex,g,q2⟩=> ?_
 subst ex;obtain rfl:u=Value.ref a:=rx;exact aLC hu I2 g ry λs3 I3=>⟨.bl<|!ov.isSome,H2,I3,rfl,q2⟩
theorem aLO(hu:X.A.units+1<AM)(ho:PE X o td)(hi:PE X i ty)(hv:PE X value tv)(hs:AX value (some<|.Subscript o i pos') pos.line X.env=pure false):
  PS X (.Assign [.Subscript o i pos'] value pos) (aQW td ty tv):=by
 intro pins s σ H D I h;refine wpAny_Assign_Subscript (thn (hv pins s σ H _ I h) λr s1 ⟨v,H1,I1,rv,q1⟩=>thn (ho pins s1 σ H1 _ I1 q1) λu s2 ⟨x,H2,I2,rx,q2⟩=>thn (hi pins s2 σ H2 _ I2 q2) λiv s3 ⟨y,H3,I3,ry,a,H4,ex,g,q3⟩=> ?_) hs;subst ex;obtain rfl:u=Value.ref a:=rx;exact aGH hu I3 g ry rv λs4 I4=>⟨σ,H4,I4,q3⟩
theorem aHM(h:BL)(hb:AV<h.objs.size):ObjOk P w H (h.push {cls:=.type "dict",data:=.dict #[]}) h.objs.size (.dK []):=
 ⟨cD _,beq_eq_false_iff_ne.mpr (Ne.symm<|bM hb),[],.nil,Heap.DictOf.new h⟩
noncomputable def aPc:TE:=λ_ H Q=>∀p,H p=none->Q (.ref p) (upd H p<|.dK [])
theorem aIa:PE X (.Dict [] [] pos) aPc:=λpins s σ H Q I h=>wpAny_Dict_empty ⟨.ref s.heap.objs.size,_,I.laid (a:=s.heap.objs.size) (o:=.dK []) (t':=s.toks) (λ_ _ q=>aD _ q) (aR _)<|aHM s.heap I.big,rfl,h _ (I.hok.fresh<|aR _)⟩
abbrev VV:List (V×V)->List (BH×BH)->Prop:=Paired λp q=>RelV p.1 q.1/\RelV p.2 q.2
structure M1(X:Cx)(o:Expr)(m:Str)(apos:Pos)(e:Expr)(cpos:Pos):Prop where
 base:Ad o m X.env (eval o X.env)=eval o X.env
 few:((Ae cpos (AC [e] X.env)).all (fun x=> !x.1) && (backToKw cpos (keywordEach [] X.env)).all (fun x=>x.1.isSome)
 &&decide (([e]:List Expr).length+([]:List Keyword).length+(if([]:List Keyword).isEmpty then 0 else 1)<30))=true
 line:(apos.endLine==cpos.line)=true
 trees:Ae cpos (AC [e] X.env)=[(false,eval e X.env)]
structure M2(X:Cx)(o:Expr)(m:Str)(apos:Pos)(e f:Expr)(cpos:Pos):Prop where
 base:Ad o m X.env (eval o X.env)=eval o X.env
 few:((Ae cpos (AC [e,f] X.env)).all (fun x=> !x.1) && (backToKw cpos (keywordEach [] X.env)).all (fun x=>x.1.isSome)
 &&decide (([e,f]:List Expr).length+([]:List Keyword).length+(if([]:List Keyword).isEmpty then 0 else 1)<30))=true
 line:(apos.endLine==cpos.line)=true
 trees:Ae cpos (AC [e,f] X.env)=[(false,eval e X.env),(false,eval f X.env)]
end L2
namespace Att
open PySem PySem.W PySem.Calls PyProof.Rows
theorem vD{P:Params}{h:BL}:∀ (ns:List Int) (vs:List BH),WellAll P h vs (ns.map WData.int)->IntsAre vs ns:=by
 intro ns
 induction ns with
 |nil=>intro vs w;rw[eA] at w;cases w;exact .nil
 |cons n ns ih=>
  intro vs w;rw[aV] at w;cases w with
  |cons a b=>cases a;exact .cons _ _<|ih _ b
theorem aGJ{l:OpenLaw}{n:Nat}(hn:l.most=some n){P:Params}{h:BL}{args:List WData}{vals:List BH}
  (hpre:l.row.toRowW.claim.pre args=true) (hwl:WellAll P h vals args):
  ∃a vs ns,vals=[Value.ref a]/\args=[WData.list<|ns.map WData.int]/\h.get? a=some {cls:=.type "list",data:=.seq vs.toArray}/\IntsAre vs ns/\ns.length<=n:=by
 have hsh:WShape.hasAll [] args [.list .int]=true:=(pre_splitW hpre).1;have hc:l.pre.holds [] {args:=args}=true:=(pre_splitW hpre).2;obtain⟨d,r,rfl,h1,h2⟩:=hasAllW_cons hsh;obtain rfl:=hasAllW_nil h2;obtain⟨xs,rfl,h3⟩:=hasW_list h1;obtain⟨ns,rfl⟩:=items_int h3
 have hlen:ns.length<=n:=by
  unfold OpenLaw.pre at hc
  have h4:(WTm.not<|.lt (.lit<|.int (n:Int)) (.len<|.arg 0)).holds [] {args:=[.list<|ns.map .int]}=true:=by have h4:=(holds_andW hc).1;rw[hn] at h4;exact h4
  have h5:=condW_of h4 (w_not<|w_lt w_lit (w_len_list<|w_arg rfl));rw[aB] at h5;refine aNF λq=> ?_
  have q':(n:Int)<((ns.length:Nat):Int):=by omega
  first
   |(rw[decide_eq_true q'] at h5;exact absurd h5<|by decide)
   |(simp at h5;omega)
 cases hwl with
 |cons w1 w2=>
  cases w2;cases w1 with
  |list ho hall=>exact⟨_,_,ns,rfl,rfl,ho,vD ns _ hall,hlen⟩
theorem aHb(l:OpenLaw)(args:List WData):l.row.toRowW.claim.post args (.bool true) args=true:=
 postW_of (r:=l.row.toRowW) (X:=(true==true))
  (show WShape.has [] (.bool true) .bool=true by first|rfl|decide|simp[WShape.has,WShape.arms,WShape.armsAll])
  (show(WTm.eq .res (.lit<|.bool true)).value [] {args:=args,res:=some<|.bool true,after:=args}=some (.bool<|true==true) from w_eq_bool (w_res rfl) w_lit) rfl
theorem attach_call{l:OpenLaw}{n:Nat}{q:AD}{loose:List Str}{XP:(Str->Option BH)->BL->Prop}{YP:AI->BL->Prop}{d:DefRec}
  (hn:l.most=some n) (hdf:d.params.defaults=[])
  (call:∀ (w:AI) (s₀ s₁:BI) (mg mb:Str→Option BH) (fa:BJ) (o:BM) (pm cd doc:BH) (a:BJ) (vs:List BH) (ns:List Int),
   Ground q loose [] XP w s₀ mg mb s₁.heap->YP w s₁.heap->
   s₁.heap.get? fa=some o->o.data=.func (docDef d.name d.params d.body d.scope pm cd doc)->s₁.heap.CodeRec cd d.name->mg d.name=some (.ref fa)->
   s₁.heap.get? a=some {cls:=.type "list",data:=.seq vs.toArray}->IntsAre vs ns->ns.length<=n->s₁.gens= #[]->
   At (AF l.prog w) callerA (.call (.ref fa) ⟨[.ref a],[]⟩) (λr s'=>r=.ok (.ret (.bool true))/\OldK s₁.heap s'.heap/\s'.os=s₁.os/\AllBare s'.gens) s₁):
  WalkO q loose XP YP l.row.toRowW d [] (λf vs=>PySem.call f vs):=by
 intro w s₀ s₁ mg mb G Y fa o pm cd doc dV kV ho hd hcd hD hmg hg args vals as hpre hlay hrd hwl hlo;obtain rfl:dV=.none:=Dflts.none hD hdf;obtain rfl:kV=.none:=Dflts.noKw hD;obtain⟨a,vs,ns,rfl,rfl,hobj,hints,hlen⟩:=aGJ hn hpre hwl;refine enter_call<|Ah (call w s₀ s₁ mg mb fa o pm cd doc a vs ns G Y ho (fd_plain hd) hcd hmg hobj hints hlen hg) λr s' hq=> ?_;obtain⟨rfl,h2,h3,h4⟩:=hq;exact⟨.inl ⟨.bool true,.bool true,[],rfl,λ_=>rfl,.bool true,aHb l _,λ_=>⟨List.Pairwise.nil,λ_ hm=>(nomatch hm)⟩⟩,h2,h3,h4⟩
end Att
namespace L2
open PySem PySem.Spec PyProof.Rows
theorem aAs:∀ {vs:List BH}{ns:List Int},IntsAre vs ns->Vals (ns.map V.int) vs
 |_,_,.nil=>.nil
 |_,_,.cons n t h=>.cons ⟨t,rfl⟩<|aAs h
def aQb(H:Hp):Prop:=∀b,H b=none\/∃o xs,H b=some (.frz o<|.lst xs)
theorem aHT{P:AD}{w:AI}{K:aA}{mg mb:Str->Option BH}{CX:CXT}{k:Nat}{fa a:BJ}{fd:AL}{x:Str}{sp:Sp}{s₁:BI}{vs:List BH}{ns:List Int}
  (KX:K.In s₁.heap) (hns:s₁.heap.Ns AN mg) (hb:s₁.heap.Ns builtinsNs mb) (hbb:∀x:Str,x≠"__name__"->mb x=An x) (hlim:s₁.heap.NoLimit) (hg:s₁.gens= #[])
  (ha:s₁.heap.get? a=some {cls:=.type "list",data:=.seq vs.toArray}) (hi:IntsAre vs ns) (hl:ns.length<=AH) (hr:Room k callerA)
  (F:∀base:BL,K.In base->base.Ns AN mg->FnOk P w K mg base CX k fa fd [x] sp) (hbind:∀ (s:BI) (u:BH),BindsTo s fd ⟨[u],[]⟩ [(x,u)])
  (hsp:∀H:Hp,aQb H->SqL K H a (ns.map V.int)->sp [.ref a] H (λv _=>v=.bl true) λ_ _ _=>False)
  (hCX:∀H e s',CX [] H s₁ (λ_ _ _=>False) e s'->False):
  At (AF P w) callerA (.call (.ref fa) ⟨[.ref a],[]⟩) (λr s'=>r=.ok (.ret<|.bool true)/\OldK s₁.heap s'.heap/\s'.os=s₁.os/\AllBare s'.gens) s₁:=by
 have rv:=aAs hi;have lenV:=hi.length
 have core:∀H:Hp,aQb H->SqL K H a (ns.map V.int)->HOk P w H s₁.heap->(∀b,H b≠none->b=a)->(H a≠none->K.lookup a=none)->
   At (AF P w) callerA (.call (.ref fa) ⟨[.ref a],[]⟩) (λr s'=>r=.ok (.ret<|.bool true)/\OldK s₁.heap s'.heap/\s'.os=s₁.os/\AllBare s'.gens) s₁:=by
  intro H hO hS hok hA hK;have base_of:∀ {b:BJ}{o:BM},s₁.heap.get? b=some o->H b=none->(aHq s₁.heap H).get? b=some o:=λe n=>aIG e n
  have noA:∀ {b:BJ}{o:BM}{es:Array DictEntry}{ep:Nat},s₁.heap.get? b=some o->o.data=.dict es ep->H b=none:=λ{b o es ep} e d=>by
   cases q:H b with
   |none=>rfl
   |some u=>have e':b=a:=hA b (by rw[q];simp);subst e';rw[ha] at e;cases e;have d':Data.seq vs.toArray _=Data.dict es ep:=d;cases d'
  have nsK:∀ {b:BJ}{m:Str->Option BH},s₁.heap.Ns b m->(aHq s₁.heap H).Ns b m:=λ{b m} ⟨o,es,ep,e,d,r⟩=>⟨o,es,ep,base_of e<|noA e d,d,r⟩
  have hKb:K.In (aHq s₁.heap H):=fun b o e=>base_of (KX b o e) (by
   cases q:H b with
   |none=>rfl
   |some u=>
    have e':b=a:=hA b (by rw[q];simp);subst e'
    rw[hK (by rw[q];simp)] at e;cases e)
  have hM:Mod K mg (aHq s₁.heap H):=⟨hKb,nsK hns,⟨mb,nsK hb,hbb⟩,let ⟨mc,h1,h2⟩:=hlim;⟨mc,nsK h1,h2⟩⟩;have e0:Env0 P w K mg (aHq s₁.heap H) callerA [] s₁ H:=⟨rfl,hM,λb o e=>aMW e,pG<|aGG _ _,trivial,λb hb=>absurd (show b∈([]:List BJ) from hb)<|by simp,hok,.of_eq hg⟩;refine Ah ((F _ hKb<|nsK hns).run callerA [] s₁ H ⟨[.ref a],[]⟩ [.ref a] [.ref a] _ _ hr e0 (hbind s₁<|.ref a) (.cons rfl .nil)<|hsp H hO hS) λr s' h=> ?_
  cases r with
  |error e=>exact(hCX H e s' h).elim
  |ok fl=>
   cases fl with
   |next=>exact False.elim h
   |brk=>exact False.elim h
   |cont=>exact False.elim h
   |ret u=>
    obtain⟨v,H',os,bare,un,hok',r',q⟩:=h;have q':v=.bl true:=q;subst q';obtain rfl:u=Value.bool true:=r';refine⟨rfl,OldK.of_keep λb o e=> ?_,os,bare⟩;cases q:H b with
    |none=>exact un.keep b o e q (by intro z;exact absurd (show b∈([]:List BJ) from z)<|by simp)<|by simp
    |some u=>
     rcases hO b with z|⟨ob,xs,z⟩
     ·rw[q] at z;cases z
     ·have z2:=un.frzs b ob _ z;obtain⟨e1,_⟩:=hok b _ z;obtain⟨e2,_⟩:=hok' b _ z2;rw[e] at e1;cases e1;exact e2
 cases hk:K.lookup a with
 |some o=>
  have e:=KX a o hk;rw[ha] at e;cases e;refine core (λ_=>none) (λ_=>.inl rfl) (.inr ⟨_,vs.toArray,_,hk,rfl,rfl,rfl,by rw[aK,lenV];exact hl,by simpa using rv⟩) (λb u z=>by have z':(none:Option HO)=some u:=z;cases z') (λb z=>absurd rfl z) λz=>absurd rfl z
 |none=>
  refine core (λb=>if b=a then some (.frz {cls:=.type "list",data:=.seq vs.toArray} (.lst<|ns.map V.int)) else none) (λb=> ?_) (.inl<|.inr ⟨{cls:=.type "list",data:=.seq vs.toArray},if_pos rfl⟩) (λb u z=> ?_) (λb z=> ?_) λ_=>hk
  ·by_cases hb:b=a
   ·exact .inr ⟨_,_,if_pos hb⟩
   ·exact .inl<|if_neg hb
  ·by_cases hb:b=a
   ·have z':=(if_pos hb).symm.trans z;cases z';subst hb;exact⟨ha,by rw[aB];exact hl,vs,_,rv,ha⟩
   ·have z':=(if_neg hb).symm.trans z;cases z'
  ·by_cases hb:b=a
   ·exact hb
   ·exact absurd (if_neg hb) z
noncomputable abbrev KOf{K:aA}{h:BL}(_:K.In h):aA:=K
theorem walk_of{l:PySem.W.OpenLaw}{n k:Nat}{q:AD}{loose:List Str}{XP:(Str->Option BH)->BL->Prop}{YP:AI->BL->Prop}{d:DefRec}{K:Params->aA}{CX:AI->CXT}{sp:AI->Sp}{x:Str}
  (hn:l.most=some n) (hn2:n<=AH) (hdf:d.params.defaults=[]) (hr:Room k callerA)
  (hY:∀ (w:AI) (h:BL),YP w h->(K w.params).In h)
  (F:∀ (w:AI) (mg:Str→Option BH) (fa:BJ) (h:BL),(K w.params).In h→h.Ns AN mg→mg d.name=some (.ref fa)→
   ∃fd:AL,(∀ (s:BI) (u:BH),BindsTo s fd ⟨[u],[]⟩ [(x,u)])/\
    ∀base:BL,(K w.params).In base->base.Ns AN mg->FnOk l.prog w (K w.params) mg base (CX w) k fa fd [x] (sp w))
  (hsp:∀ (w:AI) (H:Hp) (a:BJ) (ns:List Int),ns.length<=n->aQb H->SqL (K w.params) H a (ns.map V.int)->sp w [.ref a] H (λv _=>v=.bl true) λ_ _ _=>False)
  (hCX:∀ (w:AI) (H:Hp) (s:BI) (e:BH) (s':BI),CX w [] H s (λ_ _ _=>False) e s'->False):
  PySem.W.WalkO q loose XP YP l.row.toRowW d [] (λf vs=>PySem.call f vs):=by
 refine Att.attach_call hn hdf λw s₀ s₁ mg mb fa o pm cd doc a vs ns G Y ho hd hcd hmg hobj hints hlen hg=> ?_
 have KX:=hY w _ Y;obtain⟨fd,hb,hF⟩:=F w mg fa _ KX G.T.g hmg;exact aHT KX G.T.g G.T.b G.T.builtins G.T.nolimit hg hobj hints (bZ hlen hn2) hr hF hb (λH hO hS=>hsp w H a ns hlen hO hS) λH e s'=>hCX w H s₁ e s'
noncomputable def aER(s:BN)(j:Nat):BN:=match s with
 |.ClassDef _ _ _ body _ _ _ _ _ _ _=>body.getD j<|.Pass ⟨0,0,0,0⟩
 |_=> .Pass ⟨0,0,0,0⟩
noncomputable def fT(s:BN):Arguments:=match s with
 |.FunctionDef _ a _ _ _ _ _ _ _ _=>a
 |_=>{posonlyargs:=[],args:=[],vararg:=none,kwonlyargs:=[],kw_defaults:=[],kwarg:=none,defaults:=[]}
noncomputable def dY(s:BN):List BN:=match s with
 |.FunctionDef _ _ b _ _ _ _ _ _ _=>b
 |_=>[]
noncomputable def bK(s:BN):Scope:=match s with
 |.FunctionDef _ _ _ _ _ _ sc _ _ _=>sc
 |_=>{kind:=.function,names:=[],isGenerator:=false,isCoroutine:=false}
noncomputable abbrev CX0:CXT:=λ_ _ _ _ _ _=>False
noncomputable abbrev E0:XK:=λ_ _ _=>False
theorem zZ{X:Cx}:xQ CX0 X E0:=λ_ _ _ _ _ _ _ h=>h.elim
structure Fun(K:aA)(x qual:Str)(st:BN)(f:BJ)(fd:AL):Prop where
 ex:∃ (oc:BH) (od:Option BJ) (kV doc pm:BH) (an:Option BJ) (cdv ct:BH) (osl:Array (Option BH)),
  fd=cV x qual (fT st) (dY st) (bK st) .none kV doc pm an cdv ct/\K.lookup f=some ⟨oc,od,.func fd,osl⟩/\fE K cdv qual=true
 kp:cU K (.ref f)=true
variable {P:AD}{w:AI}{K:aA}{mg:Str->Option BH}{base:BL}
theorem Fun.ok{x qual:Str}{st:BN}{f:BJ}{fd:AL}{N ps:List Str}{k:Nat}{sp:Sp}(F:Fun K x qual st f fd)(S:kR N ps (bK st))(len:∀vs H Q E,sp vs H Q E->vs.length=ps.length)
  (hbody:∀ (cdv:BH) (A:BK) (outer:List Env) (s:BI) (H:Hp) (vs:List V) (Q:VK) (E:XK),Room k (A.deeper (envOfC qual (bK st) s.heap.objs.size f cdv))→sp vs H Q E→
   ∃t,PSs (qG CX0 P w K mg base N qual (bK st) f cdv A outer s H E).nox (dY st) t/\t {nx:=λ_ H'=>Q .non H',rt:=Q} (start N vs) H):FnOk P w K mg base CX0 (k+1) f fd ps sp:=by
 obtain⟨oc,od,kV,doc,pm,an,cdv,ct,osl,rfl,lk,hcd⟩:=F.ex;refine aOf lk hcd S len λA outer s H vs Q E hr hsp=> ?_
 obtain⟨t,h,q⟩:=hbody cdv A outer s H vs Q E hr hsp;exact⟨t,h.nox,q⟩
theorem Fun.binds{x qual:Str}{st:BN}{f:BJ}{fd:AL}{ps:List Str}(F:Fun K x qual st f fd)
  (h:∀ (kV doc pm:BH) (an:Option BJ) (cdv ct:BH) (us:List BH),us.length=ps.length->bindArgs (cV x qual (fT st) (dY st) (bK st) .none kV doc pm an cdv ct) ⟨us,[]⟩=pure (ps.zip us)):Binds K fd ps []:=by
 obtain⟨oc,od,kV,doc,pm,an,cdv,ct,osl,rfl,lk,hcd⟩:=F.ex;exact .all<|h kV doc pm an cdv ct
theorem aBI{x qual:Str}{st:BN}{f:BJ}{oc:BH}{od an:Option BJ}{osl:Array (Option BH)}{kV doc pm cdv ct:BH}(l:K.lookup f=some ⟨oc,od,.func<|cV x qual (fT st) (dY st) (bK st) .none kV doc pm an cdv ct,osl⟩)
  (c:fE K cdv qual=true) (k:cU K (.ref f)=true):Fun K x qual st f (cV x qual (fT st) (dY st) (bK st) .none kV doc pm an cdv ct):=⟨⟨oc,od,kV,doc,pm,an,cdv,ct,osl,rfl,l,c⟩,k⟩
theorem eG{n:Nat}(h:n<=1000):n<AH:=eD h<|by decide
variable {X:Cx}
theorem pv(i:Nat){x:Str}{pos:Pos}(hN:X.N[i]? =some x:=by rfl)(hv:Vis X.env.scope x:=by first|exact Or.inl rfl|exact Or.inr (Or.inl rfl)|exact Or.inr (Or.inr rfl))(hd:(x==("__debug__":Str))=false:=by decide)
  (hcd:(x==("__classdict__":Str))=false:=by decide):PE X (.Name x pos) (iQ i):=aPf hN hv hd hcd
theorem aLd{A B:Prop}(h:B):if false=true then A else B:=by rw[if_neg bO];exact h
theorem aLa{A B:Prop}(h:A):if true=true then A else B:=by rw[if_pos rfl];exact h
def Same(H H':Hp):Prop:=∀b o,H b=some o->H' b=some o
theorem Same.refl(H:Hp):Same H H:=λ_ _ h=>h
theorem Same.trans{H H1 H2:Hp}(a:Same H H1)(b:Same H1 H2):Same H H2:=λc o h=>b c o<|a c o h
theorem Same.free{H H':Hp}(e:Same H H'){l:BJ}(h:H' l=aQk):H l=aQk:=by
 cases q:H l with
 |none=>rfl
 |some o=>rw[e l o q] at h;cases h
theorem Same.seq{H H':Hp}{a:BJ}{xs:List V}(e:Same H H')(h:SqL K H a xs):SqL K H' a xs:=by
 rcases h with(h|⟨o,h⟩)|h
 ·exact .inl (.inl<|e _ _ h)
 ·exact .inl<|.inr ⟨o,e _ _ h⟩
 ·exact .inr h
noncomputable def wE(X:Cx)(e:Expr):TE:=λσ H Q=>∀ (pins:List (BJ×BM)) (s:BI),Inv X pins σ H s->AE (AF X.prog X.w) X.A (eval e X.env) (EP X pins σ Q) X.xe s
noncomputable def wT(X:Cx)(e:Expr):TT:=λσ H Q=>∀ (pins:List (BJ×BM)) (s:BI),Inv X pins σ H s->AE (AF X.prog X.w) X.A (isTrue e X.env<|eval e X.env) (TP X pins σ Q) X.xe s
noncomputable def wW(X:Cx)(e:Expr):TT:=λσ H Q=>∀ (whole:Sem BH) (pins:List (BJ×BM)) (s:BI),Inv X pins σ H s->AE (AF X.prog X.w) X.A (isTrue e X.env whole) (TP X pins σ Q) X.xe s
noncomputable def wA(X:Cx)(es:List Expr):TA:=λσ H Q=>∀ (pos:Pos) (pins:List (BJ×BM)) (s:BI),Inv X pins σ H s->AE (AF X.prog X.w) X.A (spliced (Ae pos<|AC es X.env)) (AP X pins σ Q) X.xe s
noncomputable def wS(X:Cx)(st:BN):TS:=λD σ H=>∀ (pins:List (BJ×BM)) (s:BI),Inv X pins σ H s->AE (AF X.prog X.w) X.A (exec st X.env) (SP X pins D) X.xe s
noncomputable def wSs(X:Cx)(sts:List BN):TS:=λD σ H=>∀ (pins:List (BJ×BM)) (s:BI),Inv X pins σ H s->AE (AF X.prog X.w) X.A (execs sts X.env) (SP X pins D) X.xe s
noncomputable def wG(X:Cx)(tg:Expr):TG:=λv σ H Q=>∀ (pins:List (BJ×BM)) (s:BI) (u:BH),Inv X pins σ H s->RelV v u->
  AE (AF X.prog X.w) X.A (assign tg X.env u) (λ_ s'=>∃σ' H',Inv X pins σ' H' s'/\Q σ' H') X.xe s
noncomputable def wI(X:Cx)(tg iter:Expr):TI:=λσ H R=>∀ (pins:List (BJ×BM)) (s:BI),Inv X pins σ H s->
  AE (AF X.prog X.w) X.A (eval iter X.env) (λv s1=>AE (AF X.prog X.w) X.A (pyIter v) (PIE X pins σ tg R) X.xe s1) X.xe s
variable {e:Expr}{es:List Expr}{st:BN}{sts:List BN}{tg iter:Expr}{σ:St}{H:Hp}
theorem eV:PE X e (wE X e):=λpins s _ _ _ I h=>h pins s I
theorem aJF:PT X e (wT X e):=λpins s _ _ _ I h=>h pins s I
theorem aQI:PW X e (wW X e):=λw pins s _ _ _ I h=>h w pins s I
theorem rC:PA X es (wA X es):=λpos pins s _ _ _ I h=>h pos pins s I
theorem aRV:PS X st (wS X st):=λpins s _ _ _ I h=>h pins s I
theorem pss_w:PSs X sts (wSs X sts):=λpins s _ _ _ I h=>h pins s I
theorem aQo:PG X tg (wG X tg):=λpins s _ _ _ u _ I r h=>h pins s u I r
theorem aRW:PI X tg iter (wI X tg iter):=λpins s _ _ _ I h=>h pins s I
theorem PE.to{t:TE}{Q:VK}(h:PE X e t)(q:t σ H Q):wE X e σ H Q:=λpins s I=>h pins s σ H Q I q
theorem PT.to{t:TT}{Q:Bool->Hp->Prop}(h:PT X e t)(q:t σ H Q):wT X e σ H Q:=λpins s I=>h pins s σ H Q I q
theorem PW.to{t:TT}{Q:Bool->Hp->Prop}(h:PW X e t)(q:t σ H Q):wW X e σ H Q:=λw pins s I=>h w pins s σ H Q I q
theorem PA.to{t:TA}{Q:List V->Hp->Prop}(h:PA X es t)(q:t σ H Q):wA X es σ H Q:=λpos pins s I=>h pos pins s σ H Q I q
theorem PS.to{t:TS}{D:vB}(h:PS X st t)(q:t D σ H):wS X st D σ H:=λpins s I=>h pins s σ H D I q
theorem PSs.to{t:TS}{D:vB}(h:PSs X sts t)(q:t D σ H):wSs X sts D σ H:=λpins s I=>h pins s σ H D I q
theorem wE.imp{Q Q':VK}(h:wE X e σ H Q)(k:∀v H',Q v H'->Q' v H'):wE X e σ H Q':=λpins s I=>thn (h pins s I) λu s' ⟨v,H',I',r,q⟩=>⟨v,H',I',r,k v H' q⟩
theorem wT.imp{Q Q':Bool->Hp->Prop}(h:wT X e σ H Q)(k:∀v H',Q v H'->Q' v H'):wT X e σ H Q':=λpins s I=>thn (h pins s I) λu s' ⟨H',I',q⟩=>⟨H',I',k u H' q⟩
theorem wW.imp{Q Q':Bool->Hp->Prop}(h:wW X e σ H Q)(k:∀v H',Q v H'->Q' v H'):wW X e σ H Q':=λw pins s I=>thn (h w pins s I) λu s' ⟨H',I',q⟩=>⟨H',I',k u H' q⟩
theorem wA.imp{Q Q':List V->Hp->Prop}(h:wA X es σ H Q)(k:∀v H',Q v H'->Q' v H'):wA X es σ H Q':=λpos pins s I=>thn (h pos pins s I) λu s' ⟨v,H',I',r,q⟩=>⟨v,H',I',r,k v H' q⟩
theorem SP.imp{pins:List (BJ×BM)}{D D':vB}{f:Flow}{s:BI}(h:SP X pins D f s)(k1:∀σ H,D.nx σ H->D'.nx σ H)(k2:∀v H,D.rt v H->D'.rt v H)(k3:∀σ H,D.bk σ H->D'.bk σ H)(k4:∀σ H,D.ct σ H->D'.ct σ H):SP X pins D' f s:=by
 cases f with
 |next=>obtain⟨σ',H',I,q⟩:=h;exact⟨σ',H',I,k1 _ _ q⟩
 |brk=>obtain⟨σ',H',I,q⟩:=h;exact⟨σ',H',I,k3 _ _ q⟩
 |cont=>obtain⟨σ',H',I,q⟩:=h;exact⟨σ',H',I,k4 _ _ q⟩
 |ret u=>obtain⟨v,σ',H',I,r,q⟩:=h;exact⟨v,σ',H',I,r,k2 _ _ q⟩
theorem wSs.imp{D D':vB}(h:wSs X sts D σ H)(k1:∀σ H,D.nx σ H->D'.nx σ H)(k2:∀v H,D.rt v H->D'.rt v H)(k3:∀σ H,D.bk σ H->D'.bk σ H)(k4:∀σ H,D.ct σ H->D'.ct σ H):wSs X sts D' σ H:=
 λpins s I=>thn (h pins s I) λf s' q=>q.imp k1 k2 k3 k4
theorem wG.imp{v:V}{Q Q':St->Hp->Prop}(h:wG X tg v σ H Q)(k:∀σ' H',Q σ' H'->Q' σ' H'):wG X tg v σ H Q':=λpins s u I r=>thn (h pins s u I r) λ_ s' ⟨σ',H',I',q⟩=>⟨σ',H',I',k _ _ q⟩
variable {pins:List (BJ×BM)}{F:Hp}{s:BI}
theorem HOk.track{h:BL}{a:BJ}{o:HO}(ok:HOk P w H h)(hn:H a=none)(new:ObjOk P w (upd H a o) h a o):HOk P w (upd H a o) h:=λb u e=>by
 by_cases hb:b=a
 ·subst hb;rw[bL] at e;cases e;exact new
 ·rw[bD hb] at e;exact(ok b u e).stay (λ_ _ _ q=>q) (λc q=>by rw[bD<|cE q hn];exact q) λc xs q=>by rw[bD<|cE q hn];exact q
theorem Inv.track{a:BJ}{o:HO}(I:Inv X pins σ H s)(hn:H a=none)(h0:X.s₀.heap.objs.size<=a)(hL:a≠X.env.locals)(hc:∀x c,X.env.cells.lookup x=some c->c≠a)
  (hp:∀p∈X.pn++pins,p.1≠a) (new:ObjOk X.prog X.w (upd H a o) s.heap a o):Inv X pins σ (upd H a o) s:=by
 refine⟨I.ok,I.os,I.bare,⟨I.base.keep,I.base.slot,λb u e n hx=> ?_,I.base.there,λb xs e=> ?_,λb u xs e=> ?_,λb ps e=> ?_⟩,I.loc,I.cell, ?_,λx c e=> ?_,λp hp'=> ?_,I.hok.track hn new,I.len⟩
 ·rw[bD (bM<|cB (aO e) h0)];exact I.base.free b u e n hx
 ·have q:=I.base.tups b xs e;rw[bD<|cE q hn];exact q
 ·have q:=I.base.frzs b u xs e;rw[bD<|cE q hn];exact q
 ·obtain⟨m,q⟩:=I.base.tbls b ps e;exact⟨m,by rw[bD<|cE q hn];exact q⟩
 ·rw[bD<|Ne.symm hL];exact I.free
 ·rw[bD<|hc x c e];exact I.freeC x c e
 ·obtain⟨e,n,r⟩:=I.pin p hp';exact⟨e,by rw[bD<|hp p hp'];exact n,r⟩
noncomputable def aPY:HO->Prop
 |.lst _=>True
 |.tup _=>True
 |.dK _=>True
 |.frz _ (.lst _)=>True
 |.frz _ (.dK _)=>True
 |.ext _=>True
 |_=>False
def Smp(H:Hp):Prop:=∀b o,H b=some o->aPY o
theorem ObjOk.smp{h:BL}{a:BJ}{o:HO}(z:aPY o)(x:ObjOk P w H h a o):ObjOk P w F h a o:=by
 cases o with
 |lst xs=>exact x
 |tup xs=>exact x
 |dK kvs=>exact x
 |frz ob u=>cases u with
  |lst xs=>exact x
  |dK kvs=>exact x
  |_=>exact absurd z λq=>q
 |ext φ=>exact x
 |_=>exact absurd z λq=>q
theorem Smp.sub(h:Smp H)(s:Same F H):Smp F:=λb o e=>h b o<|s b o e
theorem Inv.less(I:Inv X pins σ H s)(hF:Same F H)(h0:Same X.B₀ F)(hs:Smp F):Inv X pins σ F s:=by
 refine⟨I.ok,I.os,I.bare,⟨I.base.keep,I.base.slot,λb u e n hx=>hF.free<|I.base.free b u e n hx,I.base.there,λb xs e=>h0 _ _<|X.hB _ _ e trivial,λb u xs e=>h0 _ _<|X.hB _ _ e trivial,λb ps e=>⟨#[], ?_⟩⟩,I.loc,I.cell,hF.free I.free,λx c e=>hF.free<|I.freeC x c e,λp hp=> ?_,λb o e=>(I.hok b o<|hF b o e).smp<|hs b o e,I.len⟩
 ·have q:=h0 _ _<|X.hB _ _ e trivial;rw[q];simp
 ·obtain⟨e,n,r⟩:=I.pin p hp;exact⟨e,hF.free n,r⟩
noncomputable def clo(cells:List (Str×BJ)):List (Str×NameKind)->List (Str×BJ)->List (Str×BJ)
 |[],cs=>cs
 |(n,k)::r,cs=>clo cells r (if(k==NameKind.free)=true then(n,(cells.lookup n).getD 0)::cs else cs)
theorem qS{env:Env}:∀ (names:List (Str×NameKind)) (cs:List (Str×BJ)),(∀y∈names,y.2=.free->∃c,env.cells.lookup y.1=some c)->
  (forIn names cs (λ(x:Str×NameKind) (r:List (Str×BJ))=>if(x.2==NameKind.free)=true then(do let c <-cellOf env x.1;pure (ForInStep.yield ((x.1,c)::r))) else pure (ForInStep.yield r)):Sem (List<|Str×BJ))=pure (clo env.cells names cs)
 |[],cs,_=>rfl
 |(n,k)::r,cs,h=>by
  rw[List.forIn_cons]
  by_cases hk:(k==NameKind.free)=true
  ·obtain⟨c,hc⟩:=h (n,k) aH (by simpa using hk)
   have e:cellOf env n=pure c:=by unfold cellOf;have hc':env.cells.lookup n=some c:=hc;rw[hc']
   simp only[hk,if_true,e,pure_bind,clo];have hc':env.cells.lookup n=some c:=hc;rw[hc'];exact qS r _ λy hy=>h y<|aE _ hy
  ·simp only[hk,cJ,if_false,pure_bind,clo];exact qS r _ λy hy=>h y<|aE _ hy
theorem aDq{env:Env}{scope:Scope}(h:∀y∈scope.names,y.2=.free->∃c,env.cells.lookup y.1=some c):closureFor scope env=pure (clo env.cells scope.names []):=by simp only[closureFor];have e:=qS (env:=env) scope.names [] h;simp only[bind_pure] ;exact e
theorem aCc(cells:List (Str×BJ)):∀ (names:List (Str×NameKind)) (cs:List (Str×BJ)) (x:Str) (c:BJ),(clo cells names cs).lookup x=some c->cs.lookup x=some c\/((x,NameKind.free)∈names/\c=(cells.lookup x).getD 0)
 |[],cs,x,c,h=>.inl h
 |(n,k)::r,cs,x,c,h=>by
  rcases aCc cells r _ x c h with q|⟨q1,q2⟩
  ·by_cases hk:(k==NameKind.free)=true
   ·rw[if_pos hk,eF] at q;have ek:k=.free:=by simpa using hk
    by_cases hx:(x==n)=true
    ·simp only[hx] at q;have e:x=n:=by simpa using hx
     subst e;exact .inr ⟨by rw[ek];exact aH,(bY.inj q).symm⟩
    ·have hx':(x==n)=false:=by simpa using hx
     simp only[hx'] at q;exact .inl q
   ·rw[if_neg hk] at q;exact .inl q
  ·exact .inr ⟨aE _ q1,q2⟩
theorem aFq(cells:List (Str×BJ)):∀ (names:List (Str×NameKind)) (cs:List (Str×BJ)) (x:Str),(x,NameKind.free)∈names\/(∃c,cs.lookup x=some c)->∃c,(clo cells names cs).lookup x=some c
 |[],cs,x,h=>h.elim (λz=>nomatch z) λz=>z
 |(n,k)::r,cs,x,h=>by
  refine aFq cells r _ x ?_
  by_cases hk:(k==NameKind.free)=true
  ·rw[if_pos hk]
   by_cases hx:(x==n)=true
   ·exact .inr ⟨(cells.lookup n).getD 0,by rw[eF];simp only[hx]⟩
   ·have hx':(x==n)=false:=by simpa using hx
    rcases h with q|⟨c,q⟩
    ·rcases aU.mp q with z|z
     ·cases z;exact absurd (by simp) hx
     ·exact .inl z
    ·exact .inr ⟨c,by rw[eF];simp only[hx'];exact q⟩
  ·rw[if_neg hk]
   rcases h with q|q
   ·rcases aU.mp q with z|z
    ·cases z;exact absurd rfl hk
    ·exact .inl z
   ·exact .inr q
theorem sI{env:Env}:∀ {names:List (Str × NameKind)} {x:Str},((names.map fun (n,k)=>if (k==NameKind.free && env.scope.kind== .function && env.kindOf n==some .cell) then (n,NameKind.cell) else (n,k)).lookup x=some .cell∨
   (names.map λ(n,k)=>if(k==NameKind.free&&env.scope.kind==.function&&env.kindOf n==some .cell) then(n,NameKind.cell) else(n,k)).lookup x=some .free)->names.lookup x=some .cell\/names.lookup x=some .free
 |[],x,h=>by simp at h
 |(n,k)::r,x,h=>by
  have ih:= @sI env r x;rw[aV] at h;rw[eF]
  by_cases hc:(k==NameKind.free&&env.scope.kind==.function&&env.kindOf n==some .cell)=true
  ·simp only[hc,if_true,eF] at h;cases hx:x==n with
   |true=>
    have hk:k=.free:=by have:=hc;simp only[bR,beq_iff_eq] at this;exact this.1.1
    exact .inr (by rw[hk])
   |false=>simp only[hx] at h ⊢;exact ih h
  ·have hc':(k==NameKind.free&&env.scope.kind==.function&&env.kindOf n==some .cell)=false:=by simpa using hc
   simp only[hc',cJ,if_false,eF] at h;cases hx:x==n with
   |true=>simp only[hx] at h ⊢;exact h
   |false=>simp only[hx] at h ⊢;exact ih h
theorem aFZ{prog:AD}{A:BK}{R:Result->BI->Prop}{elt target:Expr}{ifs:List Expr}{scope:Scope}{pos:Pos}{it acc:BH}{env:Env}(Ξ:BH->BI->Prop)(hΞ:∀e s,Ξ e s->notedBy (AF prog w) A env (λe s'=>R (.error e) s') e s)(J:Nat->BI->Prop)
  (turn:∀n s,J n s→AE (AF prog w) A (pyNext it) (fun r s₁=>match r with
   |none=>R (.ok .next) s₁
   | some v=>AE (AF prog w) A (letOwnedTupleGo target it v) (fun _ s₂=>AE (AF prog w) A (assign target env v) (fun _ s₃=>
     AE (AF prog w) A (forIn ifs true fun c r=>if r=true then do let ok ← isTrue c env (eval c env); pure (ForInStep.yield ok) else pure (ForInStep.yield r)) (fun ok s₄=>
      if ok=true then AE (AF prog w) A (eval elt env) (λx s₅=>AE (AF prog w) A (call (.builtin "list.append") [acc,x]) (λ_ s₆=>∃m,m<n/\J m s₆) Ξ s₅) Ξ s₄
      else ∃m,m<n/\J m s₄) Ξ s₃) Ξ s₂) Ξ s₁) Ξ s)
  (n:Nat) (h:J n s):At (AF prog w) A (.compLoop (.ListComp elt [⟨target,iter,ifs,0⟩] scope pos) 0 it acc env) R s:=by
 refine codeAny_loop rfl J (λn s hI=> ?_) n h;show AE _ A ((compTurn (.ListComp elt [⟨target,iter,ifs,0⟩] scope pos) 0 it acc env).onRaise λx=>do noteFrame x env;theTreesLotGoes x) _ _ s;refine wpAny_noted ?_;rw[compTurn_list];refine AA<|wpAny_standAt (AA<|Af (turn n s hI) (λr s₁ h₁=> ?_) λe s z=>hΞ e s z);cases r with
 |none=>exact AB h₁
 |some v=>
  refine AA<|Af h₁ (λ_ s₂ h₂=> ?_) λe s z=>hΞ e s z;refine AA<|Af h₂ (λ_ s₃ h₃=> ?_) λe s z=>hΞ e s z;refine AA<|Af h₃ (λok s₄ h₄=> ?_) λe s z=>hΞ e s z;cases ok with
  |false=>exact AB ⟨rfl,h₄⟩
  |true=>exact AA (AA<|Af h₄ (λx s₅ h₅=>AA<|Af h₅ (λ_ s₆ h₆=>AB<|AB ⟨rfl,h₆⟩) λe s z=>hΞ e s z) λe s z=>hΞ e s z)
noncomputable def aQm(X:Cx)(ifs:List Expr):TT:=λσ H Q=>∀ (pins:List (BJ×BM)) (s:BI),Inv X pins σ H s->
 AE (AF X.prog X.w) X.A (forIn ifs true λc r=>if r=true then do let ok <-isTrue c X.env (eval c X.env);pure (ForInStep.yield ok) else pure (ForInStep.yield r)) (TP X pins σ Q) X.xe s
theorem aId{Q:Bool->Hp->Prop}(h:Q true H):aQm X [] σ H Q:=λ_ _ I=>wpAny_tests_nil ⟨H,I,h⟩
theorem aJb{c:Expr}{Q:Bool->Hp->Prop}(h:wT X c σ H Q):aQm X [c] σ H Q:=λpins s I=>wpAny_tests_one<|h pins s I
noncomputable def cxB(X:Cx)(N:List Str)(scope:Scope)(cl:List (Str×BJ))(C:BJ)(ex:List BJ)(s:BI)(H:Hp):Cx:=
 {prog:=X.prog,w:=X.w,K:=X.K,mg:=X.mg,base:=X.base,A:=X.A,N:=N,s₀:=s,H₀:=H,env:=compEnvC scope cl C X.env,outer:=X.stack,stack:=X.stack,ex:=ex,fn:=λ_=>false,calm:=true,pn:=[],xe:=λ_ _=>False}
noncomputable def qE(X:Cx)(N:List Str)(scope:Scope)(cl:List (Str×BJ))(C:BJ)(ex:List BJ)(s:BI)(H:Hp)(ξ:BH->BI->Prop):Cx:={cxB X N scope cl C ex s H with xe:=ξ}
noncomputable def zI(cap:List (Option Nat))(σ:St):St:=cap.map λo=>o.bind λk=>(σ[k]?).join
noncomputable def pX(scope sc:Scope):Bool:=scope.names.all λy=>(!(y.2==NameKind.free)||sc.names.lookup y.1==some NameKind.cell)&&!(y.2==NameKind.cell)&&(!(y.2==NameKind.local)||scope.names.lookup y.1==some NameKind.local)
noncomputable def nE(N M:List Str)(scope sc:Scope)(cap:List (Option Nat)):Bool:=cap.length==N.length&&(cap.zip N).all λy=>match y.1 with
 |none=>true
 |some k=>M[k]? ==some y.2&&sc.names.lookup y.2==some NameKind.cell&&scope.names.lookup y.2==some NameKind.free
theorem iZ{env:Env}(hf:env.scope.kind=.function):∀ {names:List (Str×NameKind)}{x:Str},names.lookup x=some .free->env.kindOf x=some .cell->
  (names.map λ(n,k)=>if(k==NameKind.free&&env.scope.kind==.function&&env.kindOf n==some .cell) then(n,NameKind.cell) else(n,k)).lookup x=some .cell
 |[],x,h,_=>by simp at h
 |(n,k)::r,x,h,hc=>by
  rw[aV];cases hx:x==n with
  |true=>
   have e:x=n:=by simpa using hx
   subst e;rw[eF] at h;simp only[beq_self_eq_true] at h;have ek:k=.free:=bY.inj h;subst ek;have hb:(NameKind.free==NameKind.free&&env.scope.kind==.function&&env.kindOf x==some .cell)=true:=by rw[hf,hc];rfl
   show iW x ((if(NameKind.free==NameKind.free&&env.scope.kind==.function&&env.kindOf x==some .cell)=true then(x,NameKind.cell) else(x,NameKind.free))::_)=_;rw[if_pos hb,eF];simp only[beq_self_eq_true]
  |false=>
   rw[eF] at h;simp only[hx] at h;have ih:=iZ hf (names:=r) h hc
   by_cases hb:(k==NameKind.free&&env.scope.kind==.function&&env.kindOf n==some .cell)=true
   ·simp only[hb,if_true,eF,hx];exact ih
   ·have hb':(k==NameKind.free&&env.scope.kind==.function&&env.kindOf n==some .cell)=false:=by simpa using hb
    simp only[hb',cJ,if_false,eF,hx];exact ih
theorem Inv.low(I:Inv X pins σ H s):∀b∈frs X.stack,b<s.heap.objs.size:=λb hb=>by obtain⟨_,o,ho,_⟩:=I.stack.mem hb;exact aO ho
theorem aGX{elt:Expr}{ifs:List Expr}{scope:Scope}{pos:Pos}{N:List Str}{cap:List (Option Nat)}{g:TG}{tt:TT}{te:TE}{J:It}{fp:List BJ}{it:BJ}{tn:Nat->BL->Prop}{E:BH->BI->Prop}{sc:Scope}(ξ:List (Str×BJ)->BJ->BH->BI->Prop)(ξ':List (Str×BJ)->BJ->BH->Hp->BI->Prop)
  (hc:X.calm=true) (hsc:X.env.scope=sc) (hcn:pX scope sc=true) (hcap:nE N X.N scope sc cap=true) (hk:scope.kind=.function)
  (I:Inv X pins σ H s) (T:aJH X.prog X.w X.K tg J fp it tn) (st:tn 0 s.heap) (hfp:∀b∈fp,xW X pins H b)
  (hg:∀cl C,PG (qE X N scope cl C fp s H<|ξ cl C) tg g) (ht:∀cl C pi s2 σ2 H2 Q,Inv (qE X N scope cl C fp s H<|ξ cl C) pi σ2 H2 s2->tt σ2 H2 Q->AE (AF X.prog X.w) X.A (forIn ifs true λc r=>if r=true then do let ok <-isTrue c (compEnvC scope cl C X.env) (eval c<|compEnvC scope cl C X.env);pure (ForInStep.yield ok) else pure (ForInStep.yield r)) (TP (qE X N scope cl C fp s H<|ξ cl C) pi σ2 Q) (ξ cl C) s2)
  (he:∀cl C,PE (qE X N scope cl C fp s H<|ξ cl C) elt te) (W:Nat->Nat->List V->St->Hp->Prop) (m0:Nat) (w0:W 0 m0 [] (zI cap σ) H)
  (RR:BH->BJ->Result->BI->Prop)
  (hξ:∀cl C e s',ξ cl C e s'->∃pi σb H',Inv (qE X N scope cl C fp s H<|ξ cl C) pi σb H' s'/\ξ' cl C e H' s')
  (hx:∀cl D C e H' s',ξ' cl C e H' s'->H' C=none->X.s₀.heap.objs.size<=C->C≠X.env.locals->(∀x c,X.env.cells.lookup x=some c->c≠C)->(∀p∈X.pn++pins,p.1≠C)->C∉frs X.stack->(∃m,s'.heap.Ns C m)->Inv X pins σ H' s'->notedBy (AF X.prog X.w) X.A (compEnvC scope cl C X.env) (λe s''=>RR (.ref D) C (.error e) s'') e s')
  (turn:∀i m ys σb H2,W i m ys σb H2→
   (J.stop i H2/\∀D C s',H2 D=none->H2 C=none->D≠C->X.s₀.heap.objs.size<=C->C≠X.env.locals->(∀x c,X.env.cells.lookup x=some c->c≠C)->(∀p∈X.pn++pins,p.1≠C)->C∉frs X.stack->(∃m,s'.heap.Ns C m)->Inv X pins σ (upd H2 D<|.lst ys) s'->RR (.ref D) C (.ok .next) s')\/
   (J.go i H2∧ys.length<AH∧∃Nx:List V→St→Hp→Prop,(∀ys' σ' H',Nx ys' σ' H'→∃m',m'<m∧W (i+1) m' ys' σ' H')∧
    ∀x H',J.yld i H2 x H'->g x σb H' λσ2 H3=>tt σ2 H3 λb H4=>if b=true then te σ2 H4 λv H5=>Nx (ys++[v]) σ2 H5 else Nx ys σ2 H4)):
  AE (AF X.prog X.w) X.A (newList []) (fun acc s₃=>AE (AF X.prog X.w) X.A (newFunctionEnv scope X.env.globals (clo X.env.cells scope.names []) [] X.env.qual none .none (some X.env)) (fun cenv s₄=>
   At (AF X.prog X.w) X.A (.compStart (.ListComp elt [⟨tg,iter,ifs,0⟩] scope pos) 0 (.ref it) acc {cenv with scope:=relabel scope X.env}) (RR acc cenv.locals) s₄) E s₃) E s:=by
 have nm:∀y∈scope.names,(y.2=NameKind.free->sc.names.lookup y.1=some NameKind.cell)/\y.2≠NameKind.cell/\(y.2=NameKind.local->scope.names.lookup y.1=some NameKind.local):=λy hy=>by have q:=cW.mp hcn y hy;simp only[bR,yX,uZ,beq_eq_false_iff_ne,ne_eq,beq_iff_eq] at q;exact⟨λe=>q.1.1.resolve_left λz=>z e,q.1.2,λe=>q.2.resolve_left λz=>z e⟩
 have fre:∀y∈scope.names,y.2=.free->∃c,X.env.cells.lookup y.1=some c:=λy hy e=>I.ok.has y.1 (.inl<|by show X.env.scope.names.lookup y.1=_;rw[hsc];exact(nm y hy).1 e)
 generalize hcl:clo X.env.cells scope.names []=cl
 have csub:∀x c,cl.lookup x=some c->X.env.cells.lookup x=some c:=λx c e=>by
  rw[<-hcl] at e
  rcases aCc _ _ _ _ _ e with z|⟨z1,z2⟩
  ·simp at z
  ·obtain⟨c',q⟩:=fre _ z1 rfl;rw[q] at z2;rw[q,z2];rfl
 have chas:∀x,((relabel scope X.env).names.lookup x=some .cell\/(relabel scope X.env).names.lookup x=some .free)->∃c,cl.lookup x=some c:=λx e=>by
  rcases sI e with z|z
  ·exact absurd rfl (nm _<|PySem.mem_of_lookup z).2.1
  ·rw[<-hcl];exact aFq _ _ _ _ (.inl<|PySem.mem_of_lookup z)
 have cexi:∀x c,cl.lookup x=some c->c<s.heap.objs.size:=λx c e=>by obtain⟨v,o,ho,_⟩:=I.cell x c<|csub x c e;exact aO ho
 have cexX:∀x c,X.env.cells.lookup x=some c->c<s.heap.objs.size:=λx c e=>by obtain⟨v,o,ho,_⟩:=I.cell x c e;exact aO ho
 have pexX:∀p∈X.pn++pins,p.1<s.heap.objs.size:=λp hp=>aO (I.pin p hp).1
 have flow:∀b∈fp,b<s.heap.objs.size:=λb hb=>by obtain⟨o,ho,_⟩:=T.obj 0 _ st b hb;exact aO ho
 have fstk:∀b∈fp,b∉frs X.stack:=λb hb z=>by
  obtain⟨_,f1,f2,_⟩:=hfp b hb
  rcases aU.mp (I.stkSub b z) with q|q
  ·exact f1 q
  ·exact f2 q
 have hkr:(relabel scope X.env).kind=.function:=hk;refine AK<|wpAny_newFunctionEnv (λy hy=>(nm y hy).2.1) (by intro y hy;simp at hy) (λh₁ hns₁ hsb₁=> ?_) hk;dsimp only at hns₁ hsb₁ ⊢;generalize hH2:s.heap.push {cls:=.type "list",dict:=none,data:=.seq ([]:List BH).toArray}=G2 at hns₁ hsb₁ ⊢;have hC:G2.objs.size=s.heap.objs.size+1:=by rw[<-hH2,mM]
 have hDC:s.heap.objs.size≠G2.objs.size:=by rw[hC];exact bM<|jG _
 have hCle:s.heap.objs.size<=G2.objs.size:=by rw[hC];exact fK _
 have neC:∀b,b<s.heap.objs.size->b≠G2.objs.size:=λb hb=>by rw[hC];exact bM<|nJ hb
 have old:∀b o,s.heap.get? b=some o->h₁.get? b=some o:=λb o e=>hsb₁.extBut b o (neC b<|aO e) (aD _<|hH2▸aD _ e)
 have hacc:h₁.get? s.heap.objs.size=some {cls:=.type "list",dict:=none,data:=.seq ([]:List BH).toArray}:=hsb₁.extBut _ _ hDC (aD _<|hH2▸aS _ rfl);have env_eq:({newEnv scope G2.objs.size X.env.globals cl X.env.qual none .none (some X.env) 0 with scope:=relabel scope X.env}:Env)=compEnvC scope cl G2.objs.size X.env:=rfl;generalize hDD:s.heap.objs.size=D at *;generalize hCC:G2.objs.size=C at *
 have okX:(qE X N scope cl C fp s H<|ξ cl C).Ok:=by
  refine⟨I.mod,hkr,I.ok.glob,I.ok.blt, ?_,λx y c a b=>I.ok.inj x y c (csub x c a)<|csub y c b,chas,(λx c z=>nomatch z),λ_=>I.ok.hd hc,I.ok.frames,.inl rfl,λb hb=>⟨neC b<|flow b hb,λx c e=>(hfp b hb).2.2.2.2.1 x c<|csub x c e⟩,I.bs, ?_,λb o e hb=> ?_,fstk,I.stack,I.stkFree⟩
  ·show s.heap.objs.size<=C;rw[hDD];exact hCle
  ·exact bZ I.ok.bsz I.sz
  ·rcases(hfp b hb).2.2.2.1 with z|z
   ·exact I.ok.noex b o e z
   ·exact absurd (cB (aO e)<|bZ I.ok.bsz z)<|dZ _
 have capE:∀ (i:Nat) (x:Str) (v:V),N[i]? =some x->(zI cap σ)[i]? =some (some v)->∃k:Nat,X.N[k]? =some x/\σ[k]? =some (some v)/\sc.names.lookup x=some .cell/\scope.names.lookup x=some .free:=λi x v e1 e2=>by
  unfold nE at hcap;rw[bR] at hcap;unfold zI at e2;rw[aY] at e2;cases q:cap[i]? with
  |none=>rw[q] at e2;cases e2
  |some o=>
   rw[q] at e2;have e2:(o.bind λk=>(σ[k]?).join)=some v:=bY.inj e2;cases o with
   |none=>cases e2
   |some k=>
    have e2:(σ[k]?).join=some v:=e2
    have mz:(some k,x)∈cap.zip N:=by refine bH (i:=i) ?_;rw[aAG];exact⟨q,e1⟩
    have z:=cW.mp hcap.2 _ mz;simp only[bR,beq_iff_eq] at z;refine⟨k,z.1.1, ?_,z.1.2,z.2⟩;cases w:σ[k]? with
    |none=>rw[w] at e2;cases e2
    |some o'=>rw[w] at e2;have e2:o'=some v:=e2;rw[e2]
 have I0:Inv (qE X N scope cl C fp s H<|ξ cl C) [(D,{cls:=.type "list",dict:=none,data:=.seq ([]:List BH).toArray})] (zI cap σ) H {s with heap:=h₁,toks:=s.toks+([]:List (Str×BH)).length}:=by
  have dfree:H D=none:=I.hok.fresh<|pG hDD;refine⟨okX,rfl,I.bare,Un.kept old,⟨_,hns₁,λi x v e1 e2 e3=> ?_⟩,λx c e=> ?_,I.hok.fresh (by rw[hDD];exact hCle),λx c e=>I.freeC x c<|csub x c e,λp hp=> ?_,I.hok.kept old, ?_⟩
  ·obtain⟨k,q1,q2,q3,q4⟩:=capE i x v e1 e2;have q3':X.env.scope.names.lookup x=some .cell:=by rw[hsc];exact q3
   obtain⟨m,_,hl⟩:=I.loc;obtain⟨u,ru,lk⟩:=hl k x v q1 q2 (.inr<|.inl q3');refine⟨u,ru,.inr ⟨.inl<|iZ I.ok.kind q4 q3', ?_⟩⟩
   rcases lk with⟨z,_⟩|⟨_,c,z,ic⟩
   ·have z':X.env.scope.names.lookup x=some .local:=z;rw[q3'] at z';cases z'
   ·obtain⟨c',hc'⟩:=chas x (.inl<|iZ I.ok.kind q4 q3');have:=csub x c' hc';rw[z] at this;have ec:c=c':=bY.inj this;subst ec;obtain⟨o,ho,hd⟩:=ic;exact⟨c,hc',o,old c o ho,hd⟩
  ·obtain⟨v,o,ho,hd⟩:=I.cell x c<|csub x c e;exact⟨v,o,old c o ho,hd⟩
  ·have hp':p=(D,{cls:=.type "list",dict:=none,data:=.seq ([]:List BH).toArray}):=by simpa[qE,cxB] using hp
   subst hp';refine⟨hacc,dfree,hDC,λz=> ?_,λv z=>by cases z⟩;have:=I.low D z;rw[hDD] at this;exact dZ _ this
  ·show(zI cap σ).length=N.length;unfold nE at hcap;rw[bR] at hcap;unfold zI;rw[aB];simpa using hcap.1
 have dlow:∀b,b<D->b≠D:=λb hb=>bM hb
 have loop:∀s₃:BI,s₃={s with heap:=h₁,toks:=s.toks+([]:List (Str×BH)).length}->
   At (AF X.prog X.w) X.A (.compLoop (.ListComp elt [⟨tg,iter,ifs,0⟩] scope pos) 0 (.ref it) (.ref D)<|compEnvC scope cl C X.env) (RR (.ref D) C) s₃:=by
  rintro s₃ rfl
  refine aFZ (ξ cl C) (λe s' z=> ?_) (λn s'=>∃ (i:Nat) (ys:List V) (σb:St) (H2:Hp) (its:List BH) (nn:Nat),Inv (qE X N scope cl C fp s H<|ξ cl C) [(D,{cls:=.type "list",dict:=none,data:=.seq its.toArray nn})] σb H2 s'/\tn i s'.heap/\(∀b∈fp,H2 b=none)/\Vals ys its/\ys.length<=AH/\W i n ys σb H2) ?_ m0
   ⟨0,[],zI cap σ,H,[],0,I0,T.keep 0 _ _ st λb hb o e=>old b o e,λb hb=>(hfp b hb).1,.nil,cD _,w0⟩
  ·obtain⟨pi,σb,H',I',z'⟩:=hξ cl C e s' z;obtain⟨m4,ns4,_⟩:=id I'.loc;have J0:Inv X pins σ H' s':=I.call' (ch:=fp) I'.os I'.base I'.hok I'.bare λb hb=>⟨(hfp b hb).2.2.2.1,(hfp b hb).2.1,(hfp b hb).2.2.2.2.1,(hfp b hb).2.2.2.2.2⟩
   have hLD:X.env.locals<D:=by rw[<-hDD];exact I.lt
   exact hx cl D C e H' s' z' I'.free (bZ I.sz<|by rw[hDD];exact hCle) (iE<|cB hLD hCle) (λx c e=>neC c<|cexX x c e) (λp hp=>neC _<|pexX p hp) (λz=>absurd (I.low C z)<|by rw[hDD];exact aCP.mpr hCle) ⟨m4,ns4⟩ J0
  rintro n s3 ⟨i,ys,σ3,H3,its,nn,I3,st3,fr3,rv3,hlen,w3⟩
  have fpX:∀ {H':Hp}{its':List BH}{nn':Nat},(∀b∈fp,H' b=none)->∀b∈fp,xW (qE X N scope cl C fp s H<|ξ cl C) [(D,{cls:=.type "list",dict:=none,data:=.seq its'.toArray nn'})] H' b:=λ{H' its' nn'} hn b hb=>by
   refine⟨hn b hb,neC b<|flow b hb,fstk b hb,.inl hb,λx c e=>(hfp b hb).2.2.2.2.1 x c<|csub x c e,λp hp=> ?_⟩
   have hp':p.1=D:=by have q:p∈([]:List (BJ×BM))++[(D,{cls:=.type "list",dict:=none,data:=.seq its'.toArray nn'})]:=hp;rw[aNB,aF] at q;rw[q]
   rw[hp'];exact Ne.symm (dlow b<|flow b hb)
  rcases turn i n ys σ3 H3 w3 with⟨stop,fin⟩|⟨go,hsz,Nx,hN,step⟩
  ·refine thn (T.done (qE X N scope cl C fp s H<|ξ cl C) rfl rfl rfl rfl i _ s3 σ3 H3 (ξ cl C) I3 (fpX fr3) st3 stop) λr s4 ⟨hr,I4⟩=> ?_
   subst hr;obtain⟨m4,ns4,_⟩:=id I4.loc;have J0:Inv X pins σ H3 s4:=I.call' (ch:=fp) I4.os I4.base I4.hok I4.bare λb hb=>⟨(hfp b hb).2.2.2.1,(hfp b hb).2.1,(hfp b hb).2.2.2.2.1,(hfp b hb).2.2.2.2.2⟩
   obtain⟨pd,pn,_⟩:=I4.pin (D,_)<|aX _ aH;have hLD:X.env.locals<D:=by rw[<-hDD];exact I.lt
   refine fin D C s4 pn I4.free hDC (bZ I.sz<|by rw[hDD];exact hCle) (iE<|cB hLD hCle) (λx c e=>neC c<|cexX x c e) (λp hp=>neC _<|pexX p hp) (λz=>absurd (I.low C z)<|by rw[hDD];exact aCP.mpr hCle) ⟨m4,ns4⟩ ?_;refine J0.track pn (by rw[<-hDD];exact I.sz) (iE hLD) (λx c e=>dlow c<|cexX x c e) (λp hp=>dlow _<|pexX p hp) ?_;exact⟨hlen,its,nn,rv3,pd⟩
  ·refine thn (T.item (qE X N scope cl C fp s H<|ξ cl C) rfl rfl rfl rfl i _ s3 σ3 H3 (ξ cl C) I3 (fpX fr3) st3 go) λr s4 ⟨u,hr,h4⟩=> ?_
   subst hr;refine thn h4 λ_ s5 ⟨x,H5,I5,r5,y5,st5,fr5⟩=> ?_
   have I5':=I5.pinned (fpX fr5)<|T.obj _ _ st5;refine thn (hg cl C _ s5 σ3 H5 x u _ I5' r5<|step x H5 y5) λ_ s6 ⟨σ6,H6,I6,q6⟩=> ?_
   refine thn (ht cl C _ s6 σ6 H6 _ I6 q6) λb s7 ⟨H7,I7,q7⟩=> ?_
   have tnK:∀ {σ7:St}{H7:Hp}{s7:BI},Inv (qE X N scope cl C fp s H<|ξ cl C) ([(D,{cls:=.type "list",dict:=none,data:=.seq its.toArray nn})]++oC fp s5.heap) σ7 H7 s7->tn (i+1) s7.heap/\∀b∈fp,H7 b=none:=λ{σ7 H7 s7} I7=>by refine⟨T.keep _ _ _ st5 λb hb o e=>(I7.pin (b,o)<|aX _ (aX _<|jL hb e)).1,λb hb=> ?_⟩;obtain⟨o,e,d⟩:=T.obj _ _ st5 b hb;exact(I7.pin (b,o)<|aX _ (aX _<|jL hb e)).2.1
   cases b with
   |false=>have q7':Nx ys σ6 H7:=q7;obtain⟨m',hm,w7⟩:=hN _ _ _ q7';obtain⟨t7,f7⟩:=tnK I7;exact⟨m',hm,i+1,ys,σ6,H7,its,nn,I7.unpinned,t7,f7,rv3,hlen,w7⟩
   |true=>
    have q7':te σ6 H7 λv H5=>Nx (ys++[v]) σ6 H5:=q7
    refine thn (he cl C _ s7 σ6 H7 _ I7 q7') λy s8 ⟨v,H8,I8,r8,q8⟩=> ?_
    obtain⟨m',hm,w8⟩:=hN _ _ _ q8;obtain⟨pd,pn,pL,pf,pc⟩:=I8.pin (D,{cls:=.type "list",dict:=none,data:=.seq its.toArray nn}) (aX _<|cA _ aH);have hits:its.length=ys.length:=rv3.length.symm;refine wpAny_list_append_plain (items:=its.toArray) ⟨nn,pd⟩ (λh9 pl9 sb9=> ?_) (by rw[aK,hits];exact dL hsz);obtain⟨n9,e9⟩:=pl9
    have e9':h9.get? D=some {cls:=.type "list",dict:=none,data:=.seq (its++[y]).toArray n9}:=by rw[e9];simp
    have I8':Inv (qE X N scope cl C fp s H<|ξ cl C) (oC fp s5.heap) σ6 H8 s8:=I8.pins_of λp hp=>I8.pin p (aX _<|aX _ hp)
    have I9:Inv (qE X N scope cl C fp s H<|ξ cl C) (oC fp s5.heap) σ6 H8 {s8 with heap:=h9,toks:=s8.toks}:=I8'.turned (it:=D) (λb o hb e=>sb9.extBut b o hb e) pn hDC (.inr<|by rw[<-hDD];exact aR _) (λx c e=>dlow c<|cexi x c e) λp hp=>by
     have hp':p∈oC fp s5.heap:=by simpa[qE,cxB] using hp
     exact dlow _<|flow _ (uE hp').1
    have tn9:tn (i+1) h9:=T.keep _ _ _ st5 λb hb o e=>(I9.pin (b,o) (aX _<|jL hb e)).1
    have fr9:∀b∈fp,H8 b=none:=λb hb=>by obtain⟨o,e,d⟩:=T.obj _ _ st5 b hb;exact(I9.pin (b,o) (aX _<|jL hb e)).2.1
    refine⟨m',hm,i+1,ys++[v],σ6,H8,its++[y],n9,I9.pins_of λp hp=> ?_,tn9,fr9,Vals.append rv3<|.cons r8 .nil,by rw[aP];exact hsz,w8⟩;have hp':p=(D,{cls:=.type "list",dict:=none,data:=.seq (its++[y]).toArray n9}):=aF.mp hp;subst hp';exact⟨e9',pn,pL,pf,λv z=>by cases z⟩
 exact codeAny_compStart_list (loop _ rfl) (T.self _ 0 _ _ _ (T.keep 0 _ _ st λb hb o e=>old b o e)<|loop _ rfl)
theorem aJn{elt:Expr}{ifs:List Expr}{scope:Scope}{pos:Pos}{N:List Str}{cap:List (Option Nat)}{g:TG}{tt:TT}{te:TE}{J:It}{fp:List BJ}{it:BJ}{tn:Nat->BL->Prop}{E:BH->BI->Prop}{sc:Scope}
  (hc:X.calm=true) (hsc:X.env.scope=sc) (hcn:pX scope sc=true) (hcap:nE N X.N scope sc cap=true) (hk:scope.kind=.function)
  (I:Inv X pins σ H s) (T:aJH X.prog X.w X.K tg J fp it tn) (st:tn 0 s.heap) (hfp:∀b∈fp,xW X pins H b)
  (hg:∀cl C,PG (cxB X N scope cl C fp s H) tg g) (ht:∀cl C pi s2 σ2 H2 Q,Inv (cxB X N scope cl C fp s H) pi σ2 H2 s2->tt σ2 H2 Q->AE (AF X.prog X.w) X.A (forIn ifs true λc r=>if r=true then do let ok <-isTrue c (compEnvC scope cl C X.env) (eval c<|compEnvC scope cl C X.env);pure (ForInStep.yield ok) else pure (ForInStep.yield r)) (TP (cxB X N scope cl C fp s H) pi σ2 Q) (λ_ _=>False) s2)
  (he:∀cl C,PE (cxB X N scope cl C fp s H) elt te) (W:Nat->Nat->List V->St->Hp->Prop) (m0:Nat) (w0:W 0 m0 [] (zI cap σ) H)
  (RR:BH->BJ->Result->BI->Prop)
  (turn:∀i m ys σb H2,W i m ys σb H2→
   (J.stop i H2/\∀D C s',H2 D=none->H2 C=none->D≠C->X.s₀.heap.objs.size<=C->C≠X.env.locals->(∀x c,X.env.cells.lookup x=some c->c≠C)->(∀p∈X.pn++pins,p.1≠C)->C∉frs X.stack->(∃m,s'.heap.Ns C m)->Inv X pins σ (upd H2 D<|.lst ys) s'->RR (.ref D) C (.ok .next) s')\/
   (J.go i H2∧ys.length<AH∧∃Nx:List V→St→Hp→Prop,(∀ys' σ' H',Nx ys' σ' H'→∃m',m'<m∧W (i+1) m' ys' σ' H')∧
    ∀x H',J.yld i H2 x H'->g x σb H' λσ2 H3=>tt σ2 H3 λb H4=>if b=true then te σ2 H4 λv H5=>Nx (ys++[v]) σ2 H5 else Nx ys σ2 H4)):
  AE (AF X.prog X.w) X.A (newList []) (fun acc s₃=>AE (AF X.prog X.w) X.A (newFunctionEnv scope X.env.globals (clo X.env.cells scope.names []) [] X.env.qual none .none (some X.env)) (fun cenv s₄=>
   At (AF X.prog X.w) X.A (.compStart (.ListComp elt [⟨tg,iter,ifs,0⟩] scope pos) 0 (.ref it) acc {cenv with scope:=relabel scope X.env}) (RR acc cenv.locals) s₄) E s₃) E s:=
 aGX (λ_ _ _ _=>False) (λ_ _ _ _ _=>False) hc hsc hcn hcap hk I T st hfp hg ht he W m0 w0 RR (λ_ _ _ _ z=>z.elim) (λ_ _ _ _ _ _ z=>z.elim) turn
end L2
namespace DL
open PySem PySem.Spec PyProof.Rows L2
noncomputable abbrev St:=L2.St
inductive D where
 |non|bl (b:Bool)|int (i:Int)|str (x:Str)|tup (ds:List D)|lst (ds:List D)|dic|scr (ns:List Int)|dki (ks:List Key) (ds:List D)|any (G:V->Hp->Prop)
mutual
noncomputable def Rep(K:aA)(H:Hp):D->V->Prop
 |.non,v=>v=.non
 |.bl b,v=>v=.bl b
 |.int i,v=>v=.int i
 |.str x,v=>v=.str x
 |.tup ds,v=>∃a xs,v=.ref a/\H a=some (.tup xs)/\RepL K H ds xs
 |.lst ds,v=>∃a xs,v=.ref a/\H a=some (.lst xs)/\RepL K H ds xs
 |.dic,v=>∃a,v=.ref a/\H a=some (.dK [])
 |.dki ks ds,v=>∃a xs,v=.ref a/\(∃ob,H a=some (.frz ob (.dK<|ks.zip xs)))/\ks.length=ds.length/\RepL K H ds xs
 |.scr ns,v=>∃a,v=.ref a/\SqL K H a (ns.map V.int)
 |.any G,v=>(∃a,v=.ref a)/\∀H',Same H H'->G v H'
noncomputable def RepL(K:aA)(H:Hp):List D->List V->Prop
 |[],xs=>xs=[]
 |d::ds,xs=>∃y ys,xs=y::ys/\Rep K H d y/\RepL K H ds ys
end
mutual
theorem Rep.mono{K:aA}{H H':Hp}(h:Same H H'):∀ {d:D}{v:V},Rep K H d v->Rep K H' d v
 |.non,_,r=>by simpa only[Rep] using r
 |.bl _,_,r=>by simpa only[Rep] using r
 |.int _,_,r=>by simpa only[Rep] using r
 |.str _,_,r=>by simpa only[Rep] using r
 |.tup ds,v,r=>by simp only[Rep] at r ⊢;obtain⟨a,xs,e,q,rl⟩:=r;exact⟨a,xs,e,h _ _ q,RepL.mono h rl⟩
 |.lst ds,v,r=>by simp only[Rep] at r ⊢;obtain⟨a,xs,e,q,rl⟩:=r;exact⟨a,xs,e,h _ _ q,RepL.mono h rl⟩
 |.dki ks ds,v,r=>by simp only[Rep] at r ⊢;obtain⟨a,xs,e,⟨ob,q⟩,l,rl⟩:=r;exact⟨a,xs,e,⟨ob,h _ _ q⟩,l,RepL.mono h rl⟩
 |.dic,v,r=>by simp only[Rep] at r ⊢;obtain⟨a,e,q⟩:=r;exact⟨a,e,h _ _ q⟩
 |.any G,v,r=>by simp only[Rep] at r ⊢;exact⟨r.1,λH2 s=>r.2 H2<|h.trans s⟩
 |.scr ns,v,r=>by simp only[Rep] at r ⊢;obtain⟨a,e,q⟩:=r;exact⟨a,e,h.seq q⟩
theorem RepL.mono{K:aA}{H H':Hp}(h:Same H H'):∀ {ds:List D}{xs:List V},RepL K H ds xs->RepL K H' ds xs
 |[],_,r=>by simpa only[RepL] using r
 |d::ds,xs,r=>by simp only[RepL] at r ⊢;obtain⟨y,ys,e,q,rl⟩:=r;exact⟨y,ys,e,Rep.mono h q,RepL.mono h rl⟩
end
theorem RepL.len{K:aA}{H:Hp}:∀ {ds:List D}{xs:List V},RepL K H ds xs->xs.length=ds.length
 |[],_,r=>by simp only[RepL] at r;rw[r];rfl
 |d::ds,xs,r=>by simp only[RepL] at r;obtain⟨y,ys,rfl,_,q⟩:=r;simp only[bP,RepL.len q]
theorem RepL.get{K:aA}{H:Hp}:∀ {ds:List D}{xs:List V}{i:Nat}{d:D},RepL K H ds xs->ds[i]? =some d->∃v,xs[i]? =some v/\Rep K H d v
 |[],_,i,d,r,e=>by simp at e
 |d'::ds,xs,i,d,r,e=>by
  simp only[RepL] at r;obtain⟨y,ys,rfl,q,rl⟩:=r;cases i with
  |zero=>simp at e;subst e;exact⟨y,rfl,q⟩
  |succ i=>
   have e':ds[i]? =some d:=by simpa using e
   obtain⟨v,h1,h2⟩:=RepL.get rl e';exact⟨v,by simpa using h1,h2⟩
theorem RepL.app{K:aA}{H:Hp}:∀ {ds es:List D}{xs ys:List V},RepL K H ds xs->RepL K H es ys->RepL K H (ds++es) (xs++ys)
 |[],es,xs,ys,r,q=>by simp only[RepL] at r;subst r;exact q
 |d::ds,es,xs,ys,r,q=>by simp only[RepL] at r;obtain⟨y,zs,rfl,a,rl⟩:=r;show RepL K H (d::(ds++es)) (y::(zs++ys));simp only[RepL];exact⟨y,_,rfl,a,RepL.app rl q⟩
theorem RepL.nil{K:aA}{H:Hp}:RepL K H [] []:=by simp only[RepL]
theorem RepL.cons{K:aA}{H:Hp}{d:D}{ds:List D}{x:V}{xs:List V}(a:Rep K H d x)(b:RepL K H ds xs):RepL K H (d::ds) (x::xs):=by simp only[RepL];exact⟨x,xs,rfl,a,b⟩
theorem RepL.one{K:aA}{H:Hp}{d:D}{x:V}(a:Rep K H d x):RepL K H [d] [x]:=.cons a .nil
theorem RepL.uncons{K:aA}{H:Hp}{d:D}{ds:List D}{xs:List V}(r:RepL K H (d::ds) xs):∃y ys,xs=y::ys/\Rep K H d y/\RepL K H ds ys:=by simpa only[RepL] using r
theorem RepL.take{K:aA}{H:Hp}:∀ {ds:List D}{xs:List V} (n:Nat),RepL K H ds xs->RepL K H (ds.take n) (xs.take n)
 |_,_,0,_=>by simp only[aAH];exact .nil
 |[],xs,n+1,r=>by simp only[RepL] at r;subst r;exact .nil
 |d::ds,xs,n+1,r=>by obtain⟨y,ys,rfl,a,rl⟩:=r.uncons;simp only[aHj];exact .cons a<|RepL.take n rl
theorem RepL.drop{K:aA}{H:Hp}:∀ {ds:List D}{xs:List V} (n:Nat),RepL K H ds xs->RepL K H (ds.drop n) (xs.drop n)
 |_,_,0,r=>by simpa only[List.drop_zero] using r
 |[],xs,n+1,r=>by simp only[RepL] at r;subst r;exact .nil
 |d::ds,xs,n+1,r=>by obtain⟨y,ys,rfl,a,rl⟩:=r.uncons;simp only[List.drop_succ_cons];exact RepL.drop n rl
theorem RepL.ints{K:aA}{H:Hp}:∀ {ns:List Int}{xs:List V},RepL K H (ns.map D.int) xs->xs=ns.map V.int
 |[],xs,r=>by simpa only[eA,RepL] using r
 |n::ns,xs,r=>by rw[aV] at r;obtain⟨y,ys,rfl,a,rl⟩:=r.uncons;simp only[Rep] at a;rw[a,RepL.ints rl];rfl
inductive Slot where
 |un|val (d:D)|own (l:BJ) (ds:List D)|gh (d:D) (G:V->Hp->Prop)|od (l:BJ) (ks:List Key) (ds:List D)|ox (ls:List BJ) (G:V->Hp->Hp->Prop)
noncomputable def Wr(l:BJ):HO->Prop
 |.lst _=>True
 |.dK _=>True
 |.ext φ=>∃o:BM,φ=(λh=>h.get? l=some o)/\∀v,o.data≠ .cell v
 |_=>False
noncomputable def eW(K:aA)(F H:Hp):Slot->Option V->Prop
 |.un,_=>True
 |.val d,o=>∃v,o=some v/\Rep K F d v
 |.own l ds,o=>o=some (.ref l)/\F l=none/\∃xs,H l=some (.lst xs)/\RepL K F ds xs
 |.od l ks ds,o=>o=some (.ref l)/\F l=none/\∃xs,H l=some (.dK<|ks.zip xs)/\ks.length=ds.length/\RepL K F ds xs
 |.gh d G,o=>∃v,o=some v/\Rep K F d v/\∀F',Same F F'->G v F'
 |.ox ls G,o=>∃v,o=some v/\(∀l∈ls,F l=none/\∃ob,H l=some ob/\Wr l ob)/\∀F' H',Same F F'->(∀l∈ls,∀ob,H l=some ob->H' l=some ob)->G v F' H'
noncomputable def SlotsOk(K:aA)(F H:Hp):List Slot->St->Prop
 |[],σ=>σ=[]
 |z::zs,σ=>∃o r,σ=o::r/\eW K F H z o/\SlotsOk K F H zs r
noncomputable def fS:Slot->List BJ
 |.own l _=>[l]
 |.od l _ _=>[l]
 |.ox ls _=>ls
 |_=>[]
noncomputable def cC(sd:List Slot):List BJ:=sd.flatMap fS
theorem nX(z:Slot)(zs:List Slot):cC (z::zs)=fS z++cC zs:=rfl
structure StF(K:aA)(H₀ F H:Hp)(σ:St)(sd:List Slot):Prop where
 base:Same H₀ F
 sub:Same F H
 smp:Smp H
 slots:SlotsOk K F H sd σ
 nd:(cC sd).Nodup
variable {K:aA}{H₀ F F' H H':Hp}{σ:St}{sd:List Slot}
theorem SlotsOk.get:∀ {sd:List Slot}{σ:St}{i:Nat}{z:Slot},SlotsOk K F H sd σ->sd[i]? =some z->∃o,σ[i]? =some o/\eW K F H z o
 |[],_,_,_,_,e=>by simp at e
 |z'::zs,σ,i,z,h,e=>by
  obtain⟨o,r,rfl,a,b⟩:=h;cases i with
  |zero=>simp at e;subst e;exact⟨o,rfl,a⟩
  |succ i=>obtain⟨o',h1,h2⟩:=SlotsOk.get (i:=i) b (by simpa using e);exact⟨o',by simpa using h1,h2⟩
theorem SlotsOk.set{z:Slot}{o:Option V}(q:eW K F H z o):∀ {sd:List Slot}{σ:St} (i:Nat),SlotsOk K F H sd σ->SlotsOk K F H (sd.set i z) (σ.set i o)
 |[],_,_,h=>by have h:_=_:=h;subst h;rfl
 |z'::zs,σ,i,h=>by
  obtain⟨o',r,rfl,a,b⟩:=h;cases i with
  |zero=>exact⟨o,r,rfl,q,b⟩
  |succ i=>exact⟨o',_,rfl,a,SlotsOk.set q i b⟩
theorem SlotsOk.mono(hF:Same F F'):∀ {sd:List Slot}{σ:St},(∀l∈cC sd,F' l=none/\∀xs,H l=some xs->H' l=some xs)->SlotsOk K F H sd σ->SlotsOk K F' H' sd σ
 |[],_,_,h=>h
 |z::zs,σ,ho,h=>by
  obtain⟨o,r,rfl,a,b⟩:=h;refine⟨o,r,rfl, ?_,SlotsOk.mono hF (λl hl=>ho l ?_) b⟩
  ·cases z with
   |un=>trivial
   |val d=>obtain⟨v,e,q⟩:=a;exact⟨v,e,q.mono hF⟩
   |gh d G=>obtain⟨v,e,q,g⟩:=a;exact⟨v,e,q.mono hF,λF2 s2=>g F2<|hF.trans s2⟩
   |own l ds=>obtain⟨e,n,xs,q,rl⟩:=a;have:=ho l (by simp[nX,fS]);exact⟨e,this.1,xs,this.2 _ q,rl.mono hF⟩
   |od l ks ds=>obtain⟨e,n,xs,q,ln,rl⟩:=a;have:=ho l (by simp[nX,fS]);exact⟨e,this.1,xs,this.2 _ q,ln,rl.mono hF⟩
   |ox ls G=>
    obtain⟨v,e,h,g⟩:=a;have ho':∀l∈ls,F' l=none/\∀xs,H l=some xs->H' l=some xs:=λl hl=>ho l<|cA _ hl
    exact⟨v,e,λl hl=>⟨(ho' l hl).1,let ⟨ob,q,w⟩:=(h l hl).2;⟨ob,(ho' l hl).2 _ q,w⟩⟩,λF2 H2 s2 k=>g F2 H2 (hF.trans s2) λl hl ob q=>k l hl ob<|(ho' l hl).2 _ q⟩
  ·exact aX _ hl
theorem SlotsOk.owns:∀ {sd:List Slot}{σ:St}{l:BJ},SlotsOk K F H sd σ->l∈cC sd->F l=none/\∃ob,H l=some ob/\Wr l ob
 |[],_,_,_,e=>by simp[cC] at e
 |z::zs,σ,l,h,e=>by
  obtain⟨o,r,rfl,a,b⟩:=h
  rcases bC.mp (show l∈fS z++cC zs from e) with e|e
  ·cases z with
   |un=>cases e
   |val d=>cases e
   |gh d G=>cases e
   |own l' ds=>rw[aF.mp e];obtain⟨_,n,xs,q,_⟩:=a;exact⟨n,_,q,trivial⟩
   |od l' ks ds=>rw[aF.mp e];obtain⟨_,n,xs,q,_⟩:=a;exact⟨n,_,q,trivial⟩
   |ox ls G=>obtain⟨v,_,h,_⟩:=a;exact h l e
  ·exact SlotsOk.owns b e
theorem StF.lay{p:BJ}{o:HO}(S:StF K H₀ F H σ sd)(hp:H p=none)(ho:aPY o):StF K H₀ (upd F p o) (upd H p o) σ sd/\Same F (upd F p o):=by
 have fp:F p=none:=S.sub.free hp;have s1:Same F (upd F p o):=λb u e=>by rw[bD<|cE e fp];exact e
 refine⟨⟨λb u e=>s1 _ _<|S.base _ _ e,λb u e=> ?_,λb u e=> ?_,S.slots.mono s1 λl hl=> ?_,S.nd⟩,s1⟩
 ·by_cases h:b=p
  ·subst h;rw[bL] at e ⊢;exact e
  ·rw[bD h] at e ⊢;exact S.sub _ _ e
 ·by_cases h:b=p
  ·subst h;rw[bL] at e;cases e;exact ho
  ·rw[bD h] at e;exact S.smp _ _ e
 ·obtain⟨n,xs,q,_⟩:=S.slots.owns hl;have hne:l≠p:=cE q hp;exact⟨by rw[bD hne];exact n,λys e=>by rw[bD hne];exact e⟩
theorem StF.layO{p:BJ}{xs:List V}(S:StF K H₀ F H σ sd)(hp:H p=none):StF K H₀ F (upd H p<|.lst xs) σ sd/\F p=none/\p∉cC sd:=by
 have fp:F p=none:=S.sub.free hp;refine⟨⟨S.base,λb u e=> ?_,λb u e=> ?_,S.slots.mono (Same.refl _) λl hl=> ?_,S.nd⟩,fp,λhl=> ?_⟩
 ·rw[bD<|cE e fp];exact S.sub _ _ e
 ·by_cases h:b=p
  ·subst h;rw[bL] at e;cases e;trivial
  ·rw[bD h] at e;exact S.smp _ _ e
 ·obtain⟨n,ys,q,_⟩:=S.slots.owns hl;have hne:l≠p:=cE q hp;exact⟨n,λys e=>by rw[bD hne];exact e⟩
 ·obtain⟨n,ys,q,_⟩:=S.slots.owns hl;rw[hp] at q;cases q
theorem StF.freeze{p:BJ}{xs:List V}(S:StF K H₀ F H σ sd)(hp:H p=some (.lst xs))(fp:F p=none)(ho:p∉cC sd):StF K H₀ (upd F p<|.lst xs) H σ sd/\Same F (upd F p<|.lst xs):=by
 have s1:Same F (upd F p<|.lst xs):=λb u e=>by rw[bD<|cE e fp];exact e
 refine⟨⟨λb u e=>s1 _ _<|S.base _ _ e,λb u e=> ?_,S.smp,S.slots.mono s1 λl hl=> ?_,S.nd⟩,s1⟩
 ·by_cases h:b=p
  ·subst h;rw[bL] at e;rw[hp];exact e
  ·rw[bD h] at e;exact S.sub _ _ e
 ·obtain⟨n,ys,q,_⟩:=S.slots.owns hl;have hne:l≠p:=λz=>ho (z▸hl)
  exact⟨by rw[bD hne];exact n,λys e=>e⟩
theorem SlotsOk.len:∀ {sd:List Slot}{σ:St},SlotsOk K F H sd σ->σ.length=sd.length
 |[],_,h=>by have h:_=_:=h;rw[h];rfl
 |z::zs,σ,h=>by obtain⟨o,r,rfl,_,b⟩:=h;simp[SlotsOk.len b]
inductive R where
 |val (d:D)|own (ds:List D)|bor (ds:List D)|pr (d:D) (ls:List D)|ox (G:V->List BJ->Hp->Hp->Prop)
def LOk(K:aA)(F H:Hp)(sd:List Slot)(v:V)(ds:List D):Prop:=
 ∃l xs,v=.ref l/\H l=some (.lst xs)/\RepL K F ds xs/\(F l=some (.lst xs)\/Slot.own l ds∈sd)
noncomputable def ResOk(K:aA)(F H:Hp)(sd:List Slot):R->V->Prop
 |.val d,v=>Rep K F d v
 |.own ds,v=>∃l xs,v=.ref l/\F l=none/\H l=some (.lst xs)/\RepL K F ds xs/\l∉cC sd
 |.bor ds,v=>LOk K F H sd v ds
 |.pr d ls,v=>∃t l xs y,v=.ref t/\F t=some (.tup [y,.ref l])/\Rep K F d y/\F l=none/\H l=some (.lst xs)/\RepL K F ls xs/\l∉cC sd
 |.ox G,v=>∃ls:List BJ,ls.Nodup/\(∀l∈ls,F l=none/\(∃ob,H l=some ob/\Wr l ob)/\l∉cC sd)/\∀F' H',Same F F'->(∀l∈ls,∀ob,H l=some ob->H' l=some ob)->G v ls F' H'
noncomputable def R.keeps:R->Prop
 |.own _=>False
 |.pr _ _=>False
 |.ox _=>False
 |_=>True
variable {r:R}{v:V}
theorem ResOk.keep(hr:r.keeps)(h:ResOk K F H sd r v)(S':StF K H₀ F' H' σ sd)(s:Same F F'):ResOk K F' H' sd r v:=by
 cases r with
 |val d=>exact Rep.mono s h
 |own ds=>exact hr.elim
 |pr d ls=>exact hr.elim
 |ox G=>exact hr.elim
 |bor ds=>
  obtain⟨l,xs,e,hl,rl,q⟩:=h
  rcases q with q|q
  ·exact⟨l,xs,e,S'.sub _ _<|s _ _ q,rl.mono s,.inl<|s _ _ q⟩
  ·obtain⟨i,hi⟩:=eY q;obtain⟨o,_,e2,_,ys,h1,h2⟩:=S'.slots.get hi;exact⟨l,ys,e,h1,h2,.inr q⟩
structure PEd(X:Cx)(sd:List Slot)(e:Expr)(r:R):Prop where
 run:∀ (σ:St) (F H:Hp),StF X.K X.B₀ F H σ sd->
 wE X e σ H λv H'=>∃F',StF X.K X.B₀ F' H' σ sd/\Same F F'/\ResOk X.K F' H' sd r v
instance {X:Cx}{sd:List Slot}{e:Expr}{r:R}:CoeFun (PEd X sd e r) (fun _=>∀ (σ:St) (F H:Hp),StF X.K X.B₀ F H σ sd→
 wE X e σ H λv H'=>∃F',StF X.K X.B₀ F' H' σ sd/\Same F F'/\ResOk X.K F' H' sd r v):=⟨PEd.run⟩
structure PTd(X:Cx)(sd:List Slot)(e:Expr)(b:Bool):Prop where
 run:∀ (σ:St) (F H:Hp),StF X.K X.B₀ F H σ sd->
 wT X e σ H λc H'=>c=b/\∃F',StF X.K X.B₀ F' H' σ sd/\Same F F'
instance {X:Cx}{sd:List Slot}{e:Expr}{b:Bool}:CoeFun (PTd X sd e b) (fun _=>∀ (σ:St) (F H:Hp),StF X.K X.B₀ F H σ sd→
 wT X e σ H λc H'=>c=b/\∃F',StF X.K X.B₀ F' H' σ sd/\Same F F'):=⟨PTd.run⟩
structure PWd(X:Cx)(sd:List Slot)(e:Expr)(b:Bool):Prop where
 run:∀ (σ:St) (F H:Hp),StF X.K X.B₀ F H σ sd->
 wW X e σ H λc H'=>c=b/\∃F',StF X.K X.B₀ F' H' σ sd/\Same F F'
instance {X:Cx}{sd:List Slot}{e:Expr}{b:Bool}:CoeFun (PWd X sd e b) (fun _=>∀ (σ:St) (F H:Hp),StF X.K X.B₀ F H σ sd→
 wW X e σ H λc H'=>c=b/\∃F',StF X.K X.B₀ F' H' σ sd/\Same F F'):=⟨PWd.run⟩
inductive RsOk(K:aA)(F H:Hp)(sd:List Slot):List R->List V->Prop
 |nil:RsOk K F H sd [] []
 |cons {r v rs vs}:ResOk K F H sd r v->RsOk K F H sd rs vs->RsOk K F H sd (r::rs) (v::vs)
structure PAd(X:Cx)(sd:List Slot)(es:List Expr)(rs:List R):Prop where
 run:∀ (σ:St) (F H:Hp),StF X.K X.B₀ F H σ sd->
 wA X es σ H λvs H'=>∃F',StF X.K X.B₀ F' H' σ sd/\Same F F'/\RsOk X.K F' H' sd rs vs
instance {X:Cx}{sd:List Slot}{es:List Expr}{rs:List R}:CoeFun (PAd X sd es rs) (fun _=>∀ (σ:St) (F H:Hp),StF X.K X.B₀ F H σ sd→
 wA X es σ H λvs H'=>∃F',StF X.K X.B₀ F' H' σ sd/\Same F F'/\RsOk X.K F' H' sd rs vs):=⟨PAd.run⟩
structure iT where
 nx:List Slot->Prop
 rt:R->Prop
 bk:List Slot->Prop:=λ_=>False
 ct:List Slot->Prop:=λ_=>False
def aHy(K:aA)(H₀ H:Hp)(r:R)(v:V):Prop:=∃F,Same H₀ F/\Same F H/\Smp H/\ResOk K F H [] r v
noncomputable def lft(X:Cx)(F₀:Hp)(E:iT):vB where
 nx:=λσ H=>∃sd F,StF X.K X.B₀ F H σ sd/\Same F₀ F/\E.nx sd
 rt:=λv H=>∃r,aHy X.K X.B₀ H r v/\E.rt r
 bk:=λσ H=>∃sd F,StF X.K X.B₀ F H σ sd/\Same F₀ F/\E.bk sd
 ct:=λσ H=>∃sd F,StF X.K X.B₀ F H σ sd/\Same F₀ F/\E.ct sd
structure PSd(X:Cx)(sd:List Slot)(sts:List BN)(E:iT):Prop where
 run:∀ (σ:St) (F H:Hp),StF X.K X.B₀ F H σ sd->wSs X sts (lft X F E) σ H
instance {X:Cx}{sd:List Slot}{sts:List BN}{E:iT}:CoeFun (PSd X sd sts E) (λ_=>∀ (σ:St) (F H:Hp),StF X.K X.B₀ F H σ sd->wSs X sts (lft X F E) σ H):=⟨PSd.run⟩
structure PSd1(X:Cx)(sd:List Slot)(st:BN)(E:iT):Prop where
 run:∀ (σ:St) (F H:Hp),StF X.K X.B₀ F H σ sd->wS X st (lft X F E) σ H
instance {X:Cx}{sd:List Slot}{st:BN}{E:iT}:CoeFun (PSd1 X sd st E) (λ_=>∀ (σ:St) (F H:Hp),StF X.K X.B₀ F H σ sd->wS X st (lft X F E) σ H):=⟨PSd1.run⟩
section
variable {X:Cx}{sd:List Slot}{e a b c:Expr}{es:List Expr}{pos:Pos}{r ra rb:R}{d:D}{ds:List D}
theorem PEd.val(h:PEd X sd e (.own ds)):PEd X sd e (.val<|.lst ds):=.mk λσ F H S=>(h σ F H S).imp λv H' ⟨F',S',s,l,xs,e,n,q,rl,no⟩=>by obtain⟨S2,s2⟩:=S'.freeze q n no;refine⟨_,S2,s.trans s2, ?_⟩;show Rep _ _ _ _;simp only[Rep];exact⟨l,xs,e,bL,rl.mono s2⟩
theorem PEd.bor(h:PEd X sd e (.val<|.lst ds)):PEd X sd e (.bor ds):=.mk λσ F H S=>(h σ F H S).imp λv H' ⟨F',S',s,q⟩=>by have q:Rep _ _ _ _:=q;simp only[Rep] at q;obtain⟨l,xs,e,q,rl⟩:=q;exact⟨F',S',s,l,xs,e,S'.sub _ _ q,rl,.inl q⟩
theorem aEo(i:Nat){x:Str}(hs:sd[i]? =some (.val d))(h:PE X (.Name x pos) (iQ i)):PEd X sd (.Name x pos) (.val d):= .mk fun σ F H S=>h.to (by
 obtain⟨o,h1,v,h2,q⟩:=S.slots.get hs
 exact⟨v,by rw[h1,h2],F,S,Same.refl _,q⟩)
theorem mF(i:Nat){x:Str}{l:BJ}(hs:sd[i]? =some (.own l ds))(h:PE X (.Name x pos) (iQ i)):PEd X sd (.Name x pos) (.bor ds):= .mk fun σ F H S=>h.to (by
 obtain⟨o,h1,h2,n,xs,q,rl⟩:=S.slots.get hs
 exact⟨.ref l,by rw[h1,h2],F,S,Same.refl _,l,xs,rfl,q,rl,.inr (bH hs)⟩)
theorem bV{i j}:PEd X sd (.Constant (.int i) j pos) (.val<|.int i):=.mk λσ F H S=>pe_int.to ⟨F,S,Same.refl _,by simp only[ResOk,Rep]⟩
theorem aHE{i j}:PEd X sd (.Constant (.bool i) j pos) (.val<|.bl i):=.mk λσ F H S=>pe_bl.to ⟨F,S,Same.refl _,by simp only[ResOk,Rep]⟩
theorem iO{j}:PEd X sd (.Constant .none j pos) (.val .non):=.mk λσ F H S=>pe_non.to ⟨F,S,Same.refl _,by simp only[ResOk,Rep]⟩
theorem dI{i j}:PEd X sd (.Constant (.str i) j pos) (.val<|.str i):=.mk λσ F H S=>pe_str.to ⟨F,S,Same.refl _,by simp only[ResOk,Rep]⟩
theorem aIf{x:Str}{i:Int}{u:BH}(hg:Gl X x)(hm:X.mg x=some u)(ru:RelV (.int i) u)(hd:(x==("__debug__":Str))=false:=by decide):PEd X sd (.Name x pos) (.val<|.int i):=.mk λσ F H S=>(aFy hg hm ru hd).to ⟨F,S,Same.refl _,by simp only[ResOk,Rep]⟩
theorem aM:PAd X sd [] []:=.mk λσ F H S=>pa_nil.to ⟨F,S,Same.refl _,.nil⟩
theorem aC{rs:List R}(h1:PEd X sd e r)(h2:PAd X sd es rs)(hk:r.keeps:=by trivial)(hs:AC (e::es) X.env=(false,eval e X.env)::AC es X.env:=by rfl):PAd X sd (e::es) (r::rs):=.mk λσ F H S=>(dP eV rC hs).to<|(h1 σ F H S).imp λv H1 ⟨F1,S1,s1,q1⟩=>(h2 σ F1 H1 S1).imp λvs H2 ⟨F2,S2,s2,q2⟩=>⟨F2,S2,s1.trans s2,.cons (q1.keep hk S2 s2) q2⟩
theorem RsOk.vals{K:aA}{F H:Hp}:∀ {ds:List D}{vs:List V},RsOk K F H sd (ds.map R.val) vs->RepL K F ds vs
 |[],_,.nil=>.nil
 |_::_,_,.cons q t=>.cons q<|RsOk.vals t
theorem aBH{x1}(h:PAd X sd es (ds.map R.val))(hl:ds.length<=1000):PEd X sd (.Tuple es x1 pos) (.val<|.tup ds):=.mk λσ F H S=>
 (aEw rC).to ((h σ F H S).imp fun vs H1 ⟨F1,S1,s1,q1⟩=>by
  have rl:=q1.vals;refine⟨by rw[rl.len];exact dL<|eG hl,λp hp=> ?_⟩;obtain⟨S2,s2⟩:=S1.lay (o:=.tup vs) hp trivial;refine⟨_,S2,s1.trans s2, ?_⟩;simp only[ResOk,Rep]
  exact⟨p,vs,rfl,bL,rl.mono s2⟩)
theorem pA(h:PAd X sd es (ds.map R.val))(hl:ds.length<=1000):PEd X sd (.List es pos) (.own ds):=.mk λσ F H S=>
 (aOQ rC).to ((h σ F H S).imp fun vs H1 ⟨F1,S1,s1,q1⟩=>by
  have rl:=q1.vals;refine⟨by rw[rl.len];exact dL<|eG hl,λp hp=> ?_⟩;obtain⟨S2,fp,no⟩:=S1.layO (xs:=vs) hp
  exact⟨_,S2,s1,p,vs,rfl,fp,bL,rl,no⟩)
theorem aBR{op:Operator}{r2:R2}(ho:OpR X (Ag op) r2)(ha:PEd X sd a ra)(hb:PEd X sd b rb)(hk:ra.keeps)
  (h:∀ (σ:St) (F H:Hp) (v u:V) (Q:VK),StF X.K X.B₀ F H σ sd->ResOk X.K F H sd ra v->ResOk X.K F H sd rb u->(∀w F' H',StF X.K X.B₀ F' H' σ sd->Same F F'->ResOk X.K F' H' sd r w->Q w H')->r2 v u H Q):
  PEd X sd (.BinOp a op b pos) r:=.mk λσ F H S=>
 (aQM ho eV eV).to ((ha σ F H S).imp λv H1 ⟨F1,S1,s1,q1⟩=>(hb σ F1 H1 S1).imp λu H2 ⟨F2,S2,s2,q2⟩=>h σ F2 H2 v u _ S2 (q1.keep hk S2 s2) q2 λw F' H' S' s' q'=>⟨F',S',(s1.trans s2).trans s',q'⟩)
theorem vW{op:CmpOp}{r2:R2}(ho:OpR X (AO op) r2)(ha:PEd X sd a ra)(hb:PEd X sd b rb)(hk:ra.keeps)(hm:AR op b=false){k:Bool}
  (h:∀ (σ:St) (F H:Hp) (v u:V) (Q:VK),StF X.K X.B₀ F H σ sd->ResOk X.K F H sd ra v->ResOk X.K F H sd rb u->(∀F' H',StF X.K X.B₀ F' H' σ sd->Same F F'->Q (.bl k) H')->r2 v u H Q):
  PEd X sd (.Compare a [op] [b] pos) (.val<|.bl k):=.mk λσ F H S=>
 (aLR ho eV eV hm).to ((ha σ F H S).imp λv H1 ⟨F1,S1,s1,q1⟩=>(hb σ F1 H1 S1).imp λu H2 ⟨F2,S2,s2,q2⟩=>h σ F2 H2 v u _ S2 (q1.keep hk S2 s2) q2 λF' H' S' s'=>⟨F',S',(s1.trans s2).trans s',by simp only[ResOk,Rep]⟩)
theorem pK{k:Bool}(h:PEd X sd e (.val<|.bl k))(he:∀whole,isTrue e X.env whole=(do let v <-whole;standAt e.pos;holding [v] (truthy v)):=by intro _;rfl):PTd X sd e k:=.mk λσ F H S=>
 (aOS eV he).to ((h σ F H S).imp fun v H1 ⟨F1,S1,s1,q1⟩=>by
  simp only[ResOk,Rep] at q1
  exact⟨k,q1,rfl,F1,S1,s1⟩)
theorem jW{op:CmpOp}{r2:R2}(ho:OpR X (AO op) r2)(ha:PEd X sd a ra)(hb:PEd X sd b rb)(hk:ra.keeps)(hm:AR op b=false){k:Bool}
  (h:∀ (σ:St) (F H:Hp) (v u:V) (Q:VK),StF X.K X.B₀ F H σ sd->ResOk X.K F H sd ra v->ResOk X.K F H sd rb u->(∀F' H',StF X.K X.B₀ F' H' σ sd->Same F F'->Q (.bl k) H')->r2 v u H Q):
  PTd X sd (.Compare a [op] [b] pos) k:=.mk λσ F H S=>
 (aBb ho eV eV hm).to ((ha σ F H S).imp λv H1 ⟨F1,S1,s1,q1⟩=>(hb σ F1 H1 S1).imp λu H2 ⟨F2,S2,s2,q2⟩=>h σ F2 H2 v u _ S2 (q1.keep hk S2 s2) q2 λF' H' S' s'=>⟨k,rfl,rfl,F',S',(s1.trans s2).trans s'⟩)
end
section
variable {X:Cx}{sd:List Slot}{e a b c:Expr}{es:List Expr}{pos:Pos}{r ra rb:R}{d:D}{ds:List D}{st:BN}{rest:List BN}{E:iT}
theorem wS.imp{D D':vB}{σ:St}{H:Hp}(h:wS X st D σ H)(k1:∀σ H,D.nx σ H->D'.nx σ H)(k2:∀v H,D.rt v H->D'.rt v H)(k3:∀σ H,D.bk σ H->D'.bk σ H)(k4:∀σ H,D.ct σ H->D'.ct σ H):wS X st D' σ H:=
 λpins s I=>thn (h pins s I) λf s' q=>q.imp k1 k2 k3 k4
theorem rX{k:Bool}(h:PTd X sd e k):PTd X sd (.UnaryOp .Not e pos) (!k):=.mk λσ F H S=>(aPs aJF).to<|(h σ F H S).imp λc H' ⟨e,q⟩=>⟨by rw[e],q⟩
theorem aHJ{k:Bool}(h:PTd X sd a k):PWd X sd (.BoolOp .And [a] pos) k:=.mk λσ F H S=>(aNh aJF).to<|h σ F H S
theorem aEN{k:Bool}(h:PTd X sd a k):PWd X sd (.BoolOp .Or [a] pos) k:=.mk λσ F H S=>(aOR aJF).to<|h σ F H S
theorem aEY{k j:Bool}(h:PTd X sd a k)(h2:k=true->PWd X sd (.BoolOp .And (b::es) pos) j):PWd X sd (.BoolOp .And (a::b::es) pos) (k&&j):=.mk λσ F H S=>
 (aOA aJF aQI).to ((h σ F H S).imp fun c H' ⟨e,F',S',s'⟩=>by
  subst e;cases c with
  |false=>exact aLd ⟨rfl,F',S',s'⟩
  |true=>exact aLa ((h2 rfl σ F' H' S').imp λc2 H2 ⟨e2,F2,S2,s2⟩=>⟨by rw[e2];rfl,F2,S2,s'.trans s2⟩))
theorem aKJ{k j:Bool}(h:PTd X sd a k)(h2:k=false->PWd X sd (.BoolOp .Or (b::es) pos) j):PWd X sd (.BoolOp .Or (a::b::es) pos) (k||j):=.mk λσ F H S=>
 (aRm aJF aQI).to ((h σ F H S).imp fun c H' ⟨e,F',S',s'⟩=>by
  subst e;cases c with
  |true=>exact aLa ⟨rfl,F',S',s'⟩
  |false=>exact aLd ((h2 rfl σ F' H' S').imp λc2 H2 ⟨e2,F2,S2,s2⟩=>⟨by rw[e2];rfl,F2,S2,s'.trans s2⟩))
theorem PWd.pt{k:Bool}(h:PWd X sd e k):PTd X sd e k:=.mk λσ F H S=>(aQI).pt.to<|h σ F H S
theorem aPM{op}{r:R}(h:PEd X sd a r):PEd X sd (.BoolOp op [a] pos) r:=.mk λσ F H S=>(aPd eV).to<|h σ F H S
theorem aKA{k j:Bool}(h:PEd X sd a (.val<|.bl k))(h2:k=true->PEd X sd (.BoolOp .And (b::es) pos) (.val<|.bl j)):PEd X sd (.BoolOp .And (a::b::es) pos) (.val (.bl<|k&&j)):=.mk λσ F H S=>
 (aPP eV eV).to ((h σ F H S).imp fun v H' ⟨F',S',s',q⟩=>by
  simp only[ResOk,Rep] at q;subst q;refine⟨k,rfl, ?_⟩;cases k with
  |false=>exact aLd ⟨F',S',s',by simp only[ResOk,Rep,aAK]⟩
  |true=>exact aLa ((h2 rfl σ F' H' S').imp λv2 H2 ⟨F2,S2,s2,q2⟩=>⟨F2,S2,s'.trans s2,by simpa only[tF] using q2⟩))
theorem aEe{k:Bool}(h:PTd X sd c k)(h1:k=true->PEd X sd a r)(h2:k=false->PEd X sd b r):PEd X sd (.IfExp c a b pos) r:=.mk λσ F H S=>
 (aIb aJF eV eV).to ((h σ F H S).imp fun k' H' ⟨e,F',S',s'⟩=>by
  subst e;cases k' with
  |true=>exact aLa<|(h1 rfl σ F' H' S').imp λv2 H2 ⟨F2,S2,s2,q2⟩=>⟨F2,S2,s'.trans s2,q2⟩
  |false=>exact aLd ((h2 rfl σ F' H' S').imp λv2 H2 ⟨F2,S2,s2,q2⟩=>⟨F2,S2,s'.trans s2,q2⟩))
theorem eR{op:Operator}{g:Int->Int->Int}{i j:Int}(ho:OpR X (Ag op) (rI0 λi j=>.int<|g i j))(ha:PEd X sd a (.val<|.int i))(hb:PEd X sd b (.val<|.int j)):PEd X sd (.BinOp a op b pos) (.val (.int<|g i j)):=
 aBR ho ha hb trivial λσ F H v u Q S q1 q2 k=>by simp only[ResOk,Rep] at q1 q2;exact⟨i,j,q1,q2,k _ F H S (Same.refl _)<|by simp only[ResOk,Rep]⟩
theorem dM{op:Operator}{g:Int->Int->Int}{C:Int->Int->Prop}{i j:Int}(ho:OpR X (Ag op) (rI C λi j=>.int<|g i j))(ha:PEd X sd a (.val<|.int i))(hb:PEd X sd b (.val<|.int j))(hc:C i j):PEd X sd (.BinOp a op b pos) (.val (.int<|g i j)):=
 aBR ho ha hb trivial λσ F H v u Q S q1 q2 k=>by simp only[ResOk,Rep] at q1 q2;exact⟨i,j,q1,q2,hc,k _ F H S (Same.refl _)<|by simp only[ResOk,Rep]⟩
theorem lF:OpR X (Ag .Mult) (rI IntMulOk λi j=>.int<|i*j):=opI λ_ _ _ _ _ _ _ hc q=>mul_int q hc
theorem iP:OpR X (Ag .FloorDiv) (rI (λ_ j=>0<j/\j.natAbs.log2<9000) λi j=>.int<|i / j):=opI λi j _ _ _ _ _ hc q=>by have h1:(0:Int)<j:=hc.1;exact floordiv_int (by omega) (by rw[aAJ i<|by omega];exact q) (.inl<|PyProof.noPylong_of_log2 hc.2)
theorem aHA{op:CmpOp}{g:Int->Int->Bool}{i j:Int}(ho:OpR X (AO op) (rI0 λi j=>.bl<|g i j))(ha:PEd X sd a (.val<|.int i))(hb:PEd X sd b (.val<|.int j))(hm:AR op b=false):PEd X sd (.Compare a [op] [b] pos) (.val (.bl<|g i j)):=
 vW ho ha hb trivial hm λσ F H v u Q S q1 q2 k=>by simp only[ResOk,Rep] at q1 q2;exact⟨i,j,q1,q2,k F H S<|Same.refl _⟩
theorem qY{op:CmpOp}{g:Int->Int->Bool}{i j:Int}(ho:OpR X (AO op) (rI0 λi j=>.bl<|g i j))(ha:PEd X sd a (.val<|.int i))(hb:PEd X sd b (.val<|.int j))(hm:AR op b=false):PTd X sd (.Compare a [op] [b] pos) (g i j):=
 jW ho ha hb trivial hm λσ F H v u Q S q1 q2 k=>by simp only[ResOk,Rep] at q1 q2;exact⟨i,j,q1,q2,k F H S<|Same.refl _⟩
noncomputable def flt:D->Option V
 |.non=>some .non
 |.bl b=>some<|.bl b
 |.int i=>some<|.int i
 |.str x=>some<|.str x
 |_=>none
theorem sM{K:aA}{H:Hp}{x v:V}(h:flt d=some x)(q:Rep K H d v):v=x:=by
 cases d with
 |non=>simp only[Rep] at q;simp only[flt] at h;rw[q];exact bY.inj h
 |bl=>simp only[Rep] at q;simp only[flt] at h;rw[q];exact bY.inj h
 |int=>simp only[Rep] at q;simp only[flt] at h;rw[q];exact bY.inj h
 |str=>simp only[Rep] at q;simp only[flt] at h;rw[q];exact bY.inj h
 |tup=>simp only[flt] at h;cases h
 |lst=>simp only[flt] at h;cases h
 |dic=>simp only[flt] at h;cases h
 |dki=>simp only[flt] at h;cases h
 |any=>simp only[flt] at h;cases h
 |scr=>simp only[flt] at h;cases h
theorem cR{d1 d2:D}{x y:V}{k:Bool}(ha:PEd X sd a (.val d1))(hb:PEd X sd b (.val d2))(h1:flt d1=some x)(h2:flt d2=some y)(hs:aPU x y=true)(hk:decide (x=y)=k):PTd X sd (.Compare a [.Eq] [b] pos) k:=
 jW aQX ha hb trivial (iM _) λσ F H v u Q S q1 q2 kk=>by have e1:=sM h1 q1;have e2:=sM h2 q2;subst e1 e2;exact⟨hs,by rw[hk];exact kk F H S<|Same.refl _⟩
theorem aFt{d1 d2:D}{x y:V}{k:Bool}(ha:PEd X sd a (.val d1))(hb:PEd X sd b (.val d2))(h1:flt d1=some x)(h2:flt d2=some y)(hs:aPU x y=true)(hk:(!decide (x=y))=k):PTd X sd (.Compare a [.NotEq] [b] pos) k:=
 jW aRh ha hb trivial (iM _) λσ F H v u Q S q1 q2 kk=>by have e1:=sM h1 q1;have e2:=sM h2 q2;subst e1 e2;exact⟨hs,by rw[hk];exact kk F H S<|Same.refl _⟩
theorem vP{i j:Int}(ha:PEd X sd a (.val<|.int i))(hb:PEd X sd b (.val<|.int j)):PTd X sd (.Compare a [.Eq] [b] pos) (decide<|i=j):=cR ha hb rfl rfl rfl (by rw[vQ,qC])
theorem aLK{i j:Int}(ha:PEd X sd a (.val<|.int i))(hb:PEd X sd b (.val<|.int j)):PTd X sd (.Compare a [.NotEq] [b] pos) (!decide (i=j)):=aFt ha hb rfl rfl rfl (by rw[vQ,qC])
theorem aLM{p q:Bool}(ha:PEd X sd a (.val<|.bl p))(hb:PEd X sd b (.val<|.bl q)):PTd X sd (.Compare a [.NotEq] [b] pos) (!decide (p=q)):=aFt ha hb rfl rfl rfl (by rw[aEq,qC])
theorem oZ{n:Nat}(ha:PEd X sd a (.val<|.tup ds))(hb:PEd X sd b (.val<|.int (n:Int)))(hd:ds[n]? =some d)(hs:nQ b):PEd X sd (.Subscript a b pos) (.val d):=.mk λσ F H S=>
 (aHD aOH eV eV hs).to ((ha σ F H S).imp fun v H1 ⟨F1,S1,s1,q1⟩=>(hb σ F1 H1 S1).imp fun u H2 ⟨F2,S2,s2,q2⟩=>by
  have q1:=Rep.mono s2 q1;simp only[ResOk,Rep] at q1 q2;obtain⟨p,xs,e1,hp,rl⟩:=q1;obtain⟨w,hw,rw'⟩:=rl.get hd
  exact⟨p,xs,(n:Int),w,e1,q2,.of (S2.sub _ _ hp),aAS hw,F2,S2,s1.trans s2,rw'⟩)
theorem jK{n:Nat}(ha:PEd X sd a (.bor ds))(hb:PEd X sd b (.val<|.int (n:Int)))(hd:ds[n]? =some d)(hs:nQ b):PEd X sd (.Subscript a b pos) (.val d):=.mk λσ F H S=>
 (aHD aBi eV eV hs).to ((ha σ F H S).imp fun v H1 ⟨F1,S1,s1,q1⟩=>(hb σ F1 H1 S1).imp fun u H2 ⟨F2,S2,s2,q2⟩=>by
  obtain⟨p,xs,e1,hp,rl,_⟩:=ResOk.keep (r:=.bor ds) trivial q1 S2 s2;simp only[ResOk,Rep] at q2;obtain⟨w,hw,rw'⟩:=rl.get hd
  exact⟨p,xs,(n:Int),w,e1,q2,.of hp,aAS hw,F2,S2,s1.trans s2,rw'⟩)
theorem aOW{ns:List Int}{n:Nat}{z:Int}(ha:PEd X sd a (.val<|.scr ns))(hb:PEd X sd b (.val<|.int (n:Int)))(hd:ns[n]? =some z)(hs:nQ b):PEd X sd (.Subscript a b pos) (.val<|.int z):=.mk λσ F H S=>
 (aHD aBi eV eV hs).to ((ha σ F H S).imp fun v H1 ⟨F1,S1,s1,q1⟩=>(hb σ F1 H1 S1).imp fun u H2 ⟨F2,S2,s2,q2⟩=>by
  have q1:=Rep.mono (s2.trans S2.sub) q1;simp only[ResOk,Rep] at q1 q2;obtain⟨p,e1,hp⟩:=q1
  exact⟨p,_,(n:Int),.int z,e1,q2,hp,aAS (by rw[aY,hd];rfl),F2,S2,s1.trans s2,by simp only[ResOk,Rep]⟩)
theorem mZ{x:Str}{p:Pos}{id:String}{rr:List V->Hp->VK->Prop}{rs:List R}(hc:mG X (.builtin id) rr)(hg:Gl X x)(hm:X.mg x=none)(hv:An x=some (.builtin id))(ha:PAd X sd (e::es) rs)
  (h:∀ (σ:St) (F H:Hp) (vs:List V) (Q:VK),StF X.K X.B₀ F H σ sd->RsOk X.K F H sd rs vs->(∀w F' H',StF X.K X.B₀ F' H' σ sd->Same F F'->ResOk X.K F' H' sd r w->Q w H')->rr vs H Q)
  (hn:x≠"__name__":=by decide) (hdb:(x==("__debug__":Str))=false:=by decide) (he:AC (e::es) X.env=(false,eval e X.env)::AC es X.env:=by rfl) (hpl:(Ae pos<|AC es X.env).any (·.1)=false:=by rfl):
  PEd X sd (.Call (.Name x p) (e::es) [] pos) r:=.mk λσ F H S=>
 (tE hc hg hm hv rC hn hdb he hpl).to ((ha σ F H S).imp λvs H1 ⟨F1,S1,s1,q1⟩=>h σ F1 H1 vs _ S1 q1 λw F' H' S' s' q'=>⟨F',S',s1.trans s',q'⟩)
theorem aAa{x:Str}{p:Pos}{T:String}{rr:List V->Hp->VK->Prop}{rs:List R}(hc:mG X (.type T) rr)(hg:Gl X x)(hm:X.mg x=none)(hv:An x=some (.type T))(ha:PAd X sd (e::es) rs)
  (h:∀ (σ:St) (F H:Hp) (vs:List V) (Q:VK),StF X.K X.B₀ F H σ sd->RsOk X.K F H sd rs vs->(∀w F' H',StF X.K X.B₀ F' H' σ sd->Same F F'->ResOk X.K F' H' sd r w->Q w H')->rr vs H Q)
  (hn:x≠"__name__":=by decide) (hdb:(x==("__debug__":Str))=false:=by decide) (he:AC (e::es) X.env=(false,eval e X.env)::AC es X.env:=by rfl) (hpl:(Ae pos<|AC es X.env).any (·.1)=false:=by rfl):
  PEd X sd (.Call (.Name x p) (e::es) [] pos) r:=.mk λσ F H S=>
 (aGN hc hg hm hv rC hn hdb he hpl).to ((ha σ F H S).imp λvs H1 ⟨F1,S1,s1,q1⟩=>h σ F1 H1 vs _ S1 q1 λw F' H' S' s' q'=>⟨F',S',s1.trans s',q'⟩)
theorem vX{p:Pos}(hg:Gl X "len")(hm:X.mg "len"=none)(ha:PEd X sd e (.val<|.tup ds))(hst:AC [e] X.env=(false,eval e X.env)::AC [] X.env:=by rfl):PEd X sd (.Call (.Name "len" p) [e] [] pos) (.val<|.int ds.length):=
 mZ (he:=hst) oE hg hm PySem.boot_len (aC ha aM trivial hst) λσ F H vs Q S q k=>by
  cases q with
  |cons q1 q2=>cases q2;simp only[ResOk,Rep] at q1;obtain⟨p,xs,rfl,hp,rl⟩:=q1;refine⟨p,xs,rfl,.inr (.of<|S.sub _ _ hp),k _ F H S (Same.refl _) ?_⟩;simp only[ResOk,Rep,rl.len]
theorem pU{p:Pos}(hg:Gl X "len")(hm:X.mg "len"=none)(ha:PEd X sd e (.bor ds))(hst:AC [e] X.env=(false,eval e X.env)::AC [] X.env:=by rfl):PEd X sd (.Call (.Name "len" p) [e] [] pos) (.val<|.int ds.length):=
 mZ (he:=hst) oE hg hm PySem.boot_len (aC ha aM trivial hst) λσ F H vs Q S q k=>by
  cases q with
  |cons q1 q2=>cases q2;obtain⟨p,xs,rfl,hp,rl,_⟩:=q1;refine⟨p,xs,rfl,.inl<|.of hp,k _ F H S (Same.refl _) ?_⟩;simp only[ResOk,Rep,rl.len]
theorem aMs{p:Pos}{ns:List Int}(hg:Gl X "len")(hm:X.mg "len"=none)(ha:PEd X sd e (.val<|.scr ns))(hst:AC [e] X.env=(false,eval e X.env)::AC [] X.env:=by rfl):PEd X sd (.Call (.Name "len" p) [e] [] pos) (.val<|.int ns.length):=
 mZ (he:=hst) oE hg hm PySem.boot_len (aC ha aM trivial hst) λσ F H vs Q S q k=>by
  cases q with
  |cons q1 q2=>cases q2;have q1:=Rep.mono S.sub q1;simp only[Rep] at q1;obtain⟨p,rfl,hp⟩:=q1;refine⟨p,_,rfl,.inl hp,k _ F H S (Same.refl _) ?_⟩;simp only[ResOk,Rep,aB]
noncomputable def tyD:D->BH
 |.non=>.type "NoneType"
 |.bl _=>.type "bool"
 |.int _=>.type "int"
 |.str _=>.type "str"
 |.tup _=>.type "tuple"
 |.lst _=>.type "list"
 |.dic=>.type "dict"
 |.dki _ _=>.type "dict"
 |.any _=>.type "dict"
 |.scr _=>.type "list"
theorem aRa{K:aA}{H:Hp}{v:V}(h:∀ns,d≠ .scr ns)(hA:∀G,d≠ .any G)(q:Rep K H d v):sO K H v (tyD d):=by
 cases d with
 |non=>simp only[Rep] at q;subst q;exact .non
 |bl b=>simp only[Rep] at q;subst q;exact .bl b
 |int b=>simp only[Rep] at q;subst q;exact .int b
 |str b=>simp only[Rep] at q;subst q;exact .str b
 |tup ds=>simp only[Rep] at q;obtain⟨a,xs,rfl,h,_⟩:=q;exact .tup h
 |lst ds=>simp only[Rep] at q;obtain⟨a,xs,rfl,h,_⟩:=q;exact .lst h
 |dic=>simp only[Rep] at q;obtain⟨a,rfl,h⟩:=q;exact .dK<|.of h
 |dki ks ds=>simp only[Rep] at q;obtain⟨a,xs,rfl,h,_⟩:=q;exact .dK<|.inr h
 |scr ns=>exact absurd rfl<|h ns
 |any G=>exact absurd rfl<|hA G
theorem aGs:mG X (.builtin "isinstance") (λxs H Q=>∃x t n k,xs=[x,.ty n]/\sO X.K H x t/\lY X.K t (.type n)=some k/\Q (.bl k) H):=by intro pins s σ H xs us Q I r h;obtain⟨x,t,n,k,rfl,ty,e,q⟩:=h;obtain⟨u,u',rfl,ru,ru'⟩:=aOt r;cases(show u'=Value.type n from ru');exact aGD I ru ty e λtk=>⟨.bl k,H,I.tok tk,rfl,q⟩
theorem aMU{x:Str}{n:String}(hg:Gl X x)(hm:X.mg x=none)(hv:An x=some (.type n))(hn:x≠"__name__":=by decide)(hd:(x==("__debug__":Str))=false:=by decide):PE X (.Name x pos) (tC<|.ty n):=aNb hg hm hv rfl hn hd
theorem aFI{x:Str}{n:String}{p p2:Pos}{k:Bool}(hg:Gl X "isinstance")(hm:X.mg "isinstance"=none)(hgx:Gl X x)(hmx:X.mg x=none)(hv:An x=some (.type n))(ha:PEd X sd e (.val d))(hd:∀ns,d≠ .scr ns)
  (hk:lY X.K (tyD d) (.type n)=some k) (hA:∀G,d≠ .any G:=by(intro _ h;cases h)) (hn:x≠"__name__":=by decide) (hdb:(x==("__debug__":Str))=false:=by decide)
  (he:AC (e::[.Name x p2]) X.env=(false,eval e X.env)::AC [.Name x p2] X.env:=by rfl) (hpl:(Ae pos<|AC [.Name x p2] X.env).any (·.1)=false:=by rfl) (hs2:AC [.Name x p2] X.env=(false,eval (.Name x p2) X.env)::AC [] X.env:=by rfl):
  PEd X sd (.Call (.Name "isinstance" p) [e, .Name x p2] [] pos) (.val<|.bl k):=.mk λσ F H S=>
 (tE aGs hg hm boot_isinstance (dP eV (dP (aMU hgx hmx hv hn hdb) pa_nil hs2) he) (by decide) (by decide) he hpl).to ((ha σ F H S).imp λv H1 ⟨F1,S1,s1,q1⟩=>by exact⟨v,tyD d,n,k,rfl,aRa hd hA<|Rep.mono S1.sub q1,hk,F1,S1,s1,by simp only[ResOk,Rep]⟩)
theorem cI(h:E.nx sd):PSd X sd [] E:=.mk λσ F H S=>pss_nil.to ⟨sd,F,S,Same.refl _,h⟩
theorem aG(h:PSd1 X sd st {E with nx:=λsd'=>PSd X sd' rest E}):PSd X sd (st::rest) E:=.mk λσ F H S=>
 (yG aRV pss_w).to (wS.imp (h σ F H S) (fun σ' H' ⟨sd',F',S',s',q⟩=>(q σ' F' H' S').imp (fun σ2 H2 ⟨sd2,F2,S2,s2,q2⟩=>⟨sd2,F2,S2,s'.trans s2,q2⟩) (fun v H2 q2=>q2)
  (λσ2 H2 ⟨sd2,F2,S2,s2,q2⟩=>⟨sd2,F2,S2,s'.trans s2,q2⟩) λσ2 H2 ⟨sd2,F2,S2,s2,q2⟩=>⟨sd2,F2,S2,s'.trans s2,q2⟩) (λv H q=>q) (λσ H q=>q) λσ H q=>q)
theorem aQ(h:PSd1 X sd st E):PSd X sd [st] E:=.mk λσ F H S=>(aEO aRV).to<|h σ F H S
theorem cO(h:PEd X sd e r)(hr:match r with | .bor _=>False|_=>True)(hE:E.rt r):PSd1 X sd (.Return (some e) pos) E:=.mk λσ F H S=>
 (tY eV).to ((h σ F H S).imp fun v H' ⟨F',S',s',q⟩=>⟨r,⟨F',S'.base,S'.sub,S'.smp,by
  cases r with
  |val d=>exact q
  |own ds=>obtain⟨l,xs,a,b,c,d,_⟩:=q;exact⟨l,xs,a,b,c,d,by simp[cC]⟩
  |pr d ls=>obtain⟨t,l,xs,y,a,b,c,d,e,f,_⟩:=q;exact⟨t,l,xs,y,a,b,c,d,e,f,by simp[cC]⟩
  |ox G=>obtain⟨ls,nd,h,g⟩:=q;exact⟨ls,nd,λl hl=>⟨(h l hl).1,(h l hl).2.1,by simp[cC]⟩,g⟩
  |bor ds=>exact hr.elim⟩,hE⟩)
theorem oY(i:Nat){x:Str}{p:Pos}{l:BJ}(hs:sd[i]? =some (.own l ds))(h:PE X (.Name x p) (iQ i))(hE:E.rt (.own ds)):PSd1 X sd (.Return (some<|.Name x p) pos) E:=.mk λσ F H S=>
 (tY h).to (by
  obtain⟨o,h1,h2,n,xs,q,rl⟩:=S.slots.get hs
  exact⟨.ref l,by rw[h1,h2],.own ds,⟨F,S.base,S.sub,S.smp,l,xs,rfl,n,q,rl,by simp[cC]⟩,hE⟩)
theorem fY{k:Bool}{a o:List BN}(h:PTd X sd c k)(h1:k=true->PSd X sd a E)(h2:k=false->PSd X sd o E):PSd1 X sd (.If c a o pos) E:=.mk λσ F H S=>
 (aQS aJF pss_w pss_w).to ((h σ F H S).imp fun k' H' ⟨e,F',S',s'⟩=>by
  have up:∀ {sts:List BN},PSd X sd sts E->wSs X sts (lft X F E) σ H':=λh=>(h σ F' H' S').imp (λσ2 H2 ⟨sd2,F2,S2,s2,q2⟩=>⟨sd2,F2,S2,s'.trans s2,q2⟩) (λv H2 q2=>q2)
   (λσ2 H2 ⟨sd2,F2,S2,s2,q2⟩=>⟨sd2,F2,S2,s'.trans s2,q2⟩) λσ2 H2 ⟨sd2,F2,S2,s2,q2⟩=>⟨sd2,F2,S2,s'.trans s2,q2⟩
  subst e;cases k' with
  |true=>exact aLa (up<|h1 rfl)
  |false=>exact aLd (up (h2 rfl)))
theorem jO:∀ {sd:List Slot}{z:Slot} (i:Nat),(cC sd).Nodup->(∀l,l∈fS z->l∉cC sd\/(∃z',sd[i]? =some z'/\l∈fS z'))->(hz:(fS z).Nodup:=by simp[fS])->(cC<|sd.set i z).Nodup/\∀l,l∈cC (sd.set i z)->l∈cC sd\/l∈fS z
 |[],z,i,h,_,_=>⟨h,λl hl=>.inl hl⟩
 |z'::zs,z,0,h,hz,nz=>by
  show(fS z++cC zs).Nodup/\∀l,l∈fS z++cC zs->_;obtain⟨n1,n2,n3⟩:=bJ.mp (show(fS z'++cC zs).Nodup from h);refine⟨bJ.mpr ⟨nz,n2,λa ha b hb e=> ?_⟩,λl hl=> ?_⟩
  ·subst e
   rcases hz a ha with y|⟨z2,e2,y⟩
   ·exact y<|aX _ hb
   ·have:z'=z2:=by simpa using e2
    subst this;exact n3 a y a hb rfl
  ·rcases bC.mp hl with y|y
   ·exact .inr y
   ·exact .inl<|aX _ y
 |z'::zs,z,i+1,h,hz,nz=>by
  show(fS z'++cC (zs.set i z)).Nodup/\∀l,l∈fS z'++cC (zs.set i z)->_;obtain⟨n1,n2,n3⟩:=bJ.mp (show(fS z'++cC zs).Nodup from h)
  obtain ⟨i1,i2⟩:=jO (sd:=zs) (z:=z) i n2 (fun l hl=>by
   rcases hz l hl with y|⟨z2,e2,y⟩
   ·exact .inl λq=>y<|aX _ q
   ·exact .inr ⟨z2,by simpa using e2,y⟩) nz
  refine⟨bJ.mpr ⟨n1,i1,λa ha b hb e=> ?_⟩,λl hl=> ?_⟩
  ·subst e
   rcases i2 a hb with y|y
   ·exact n3 a ha a y rfl
   ·rcases hz a y with y|⟨z2,e2,y⟩
    ·exact y<|cA _ ha
    ·have m:a∈cC zs:=dN.mpr ⟨z2,bH (by simpa using e2),y⟩;exact n3 a ha a m rfl
  ·rcases bC.mp hl with y|y
   ·exact .inl<|cA _ y
   ·rcases i2 l y with y|y
    ·exact .inl<|aX _ y
    ·exact .inr y
theorem StF.set{K:aA}{H₀ F H:Hp}{σ:St}{v:V}(S:StF K H₀ F H σ sd)(i:Nat)(q:Rep K F d v):StF K H₀ F H (σ.set i (some v)) (sd.set i<|.val d):=
 ⟨S.base,S.sub,S.smp,S.slots.set (z:=.val d) ⟨v,rfl,q⟩ i,(jO i S.nd λl e=>by simp[fS] at e).1⟩
theorem StF.setO{K:aA}{H₀ F H:Hp}{σ:St}{l:BJ}{xs:List V}(S:StF K H₀ F H σ sd)(i:Nat)(n:F l=none)(h:H l=some (.lst xs))(q:RepL K F ds xs)(no:l∉cC sd):StF K H₀ F H (σ.set i (some<|.ref l)) (sd.set i<|.own l ds):=
 ⟨S.base,S.sub,S.smp,S.slots.set (z:=.own l ds) ⟨rfl,n,xs,h,q⟩ i,(jO i S.nd λl' e=>by rw[aF.mp e];exact .inl no).1⟩
theorem iH(i:Nat){x:Str}{p:Pos}(hN:X.N.Nodup)(hi:X.N[i]? =some x)(hx:Loc X.env.scope x)(h:PEd X sd e (.val d))(hE:E.nx (sd.set i<|.val d))(hs:AX e (some<|.Name x p) pos.line X.env=pure false:=by rfl)
  (hf:X.fn x=true\/X.env.scope.names.lookup x=some .local:=by first|exact .inl rfl|exact .inr rfl|assumption):PSd1 X sd (.Assign [.Name x p] e pos) E:=.mk λσ F H S=>
 (rB hN hi hx eV hs hf).to ((h σ F H S).imp λv H' ⟨F',S',s',q⟩=>⟨_,F',S'.set i q,s',hE⟩)
theorem rO(i:Nat){x:Str}{p:Pos}(hN:X.N.Nodup)(hi:X.N[i]? =some x)(hx:Loc X.env.scope x)(h:PEd X sd e (.own ds))(hE:∀l,E.nx (sd.set i<|.own l ds))(hs:AX e (some<|.Name x p) pos.line X.env=pure false:=by rfl)
  (hf:X.fn x=true\/X.env.scope.names.lookup x=some .local:=by first|exact .inl rfl|exact .inr rfl|assumption):PSd1 X sd (.Assign [.Name x p] e pos) E:=.mk λσ F H S=>
 (rB hN hi hx eV hs hf).to ((h σ F H S).imp λv H' ⟨F',S',s',l,xs,e,n,q,rl,no⟩=>⟨_,F',by subst e;exact S'.setO i n q rl no,s',hE l⟩)
noncomputable def Le:List Slot->List Slot->Prop
 |[],[]=>True
 |x::xs,y::ys=>(y=.un\/x=y)/\Le xs ys
 |_,_=>False
theorem Le.refl:∀ (sd:List Slot),Le sd sd
 |[]=>trivial
 |_::xs=>⟨.inr rfl,Le.refl xs⟩
theorem Le.own:∀ {sd sd':List Slot},Le sd sd'->(cC sd').Sublist (cC sd)
 |[],[],_=>List.Sublist.refl _
 |[],_::_,h=>h.elim
 |_::_,[],h=>h.elim
 |x::xs,y::ys,h=>by
  obtain⟨h1,h2⟩:=h;have ih:=Le.own h2
  rcases h1 with rfl|rfl
  ·exact ih.trans<|List.sublist_append_right _ _
  ·exact List.Sublist.append (List.Sublist.refl _) ih
theorem Le.slots{K:aA}{F H:Hp}:∀ {sd sd':List Slot}{σ:St},Le sd sd'->SlotsOk K F H sd σ->SlotsOk K F H sd' σ
 |[],[],_,_,h=>h
 |[],_::_,_,h,_=>h.elim
 |_::_,[],_,h,_=>h.elim
 |x::xs,y::ys,σ,h,q=>by
  obtain⟨h1,h2⟩:=h;obtain⟨o,r,rfl,a,b⟩:=q;refine⟨o,r,rfl, ?_,Le.slots h2 b⟩
  rcases h1 with rfl|rfl
  ·trivial
  ·exact a
theorem StF.le{K:aA}{H₀ F H:Hp}{σ:St}{sd':List Slot}(S:StF K H₀ F H σ sd)(h:Le sd sd'):StF K H₀ F H σ sd':=⟨S.base,S.sub,S.smp,h.slots S.slots,S.nd.sublist h.own⟩
theorem aJY{sd':List Slot}{sts:List BN}(h:Le sd sd')(q:PSd X sd' sts E):PSd X sd sts E:=.mk λσ F H S=>q σ F H<|S.le h
theorem aPy{F₀ F:Hp}{σ:St}{H:Hp}{sts:List BN}(s:Same F₀ F)(h:wSs X sts (lft X F E) σ H):wSs X sts (lft X F₀ E) σ H:=
 h.imp (λσ2 H2 ⟨sd2,F2,S2,s2,q2⟩=>⟨sd2,F2,S2,s.trans s2,q2⟩) (λv H2 q2=>q2) (λσ2 H2 ⟨sd2,F2,S2,s2,q2⟩=>⟨sd2,F2,S2,s.trans s2,q2⟩) λσ2 H2 ⟨sd2,F2,S2,s2,q2⟩=>⟨sd2,F2,S2,s.trans s2,q2⟩
theorem gU:∀ (sd:List Slot) (i:Nat),Le sd (sd.set i .un)
 |[],_=>trivial
 |_::xs,0=>⟨.inl rfl,Le.refl xs⟩
 |_::xs,i+1=>⟨.inr rfl,gU xs i⟩
theorem hV:∀ {sd:List Slot}{i:Nat}{l:BJ}{z:Slot},(cC sd).Nodup->sd[i]? =some z->l∈fS z->l∉cC (sd.set i .un)
 |[],_,_,_,_,e,_=>by simp at e
 |y::zs,0,l,z,h,e,hl=>by
  have:y=z:=by simpa using e
  subst this;obtain⟨n1,n2,n3⟩:=bJ.mp (show(fS y++cC zs).Nodup from h);exact λhm=>n3 l hl l hm rfl
 |y::zs,i+1,l,z,h,e,hl=>by
  have e':zs[i]? =some z:=by simpa using e
  obtain⟨n1,n2,n3⟩:=bJ.mp (show(fS y++cC zs).Nodup from h);have ml:l∈cC zs:=dN.mpr ⟨_,bH e',hl⟩;intro hm
  rcases bC.mp (show l∈fS y++cC (zs.set i .un) from hm) with q|q
  ·exact n3 l q l ml rfl
  ·exact hV n2 e' hl q
theorem pS{i:Nat}{l:BJ}(h:(cC sd).Nodup)(e:sd[i]? =some (.own l ds)):l∉cC (sd.set i .un):=hV h e<|cQ l
theorem lW{σ:St}{i:Nat}{o:Option V}(h:σ[i]? =some o):σ.set i o=σ:=by obtain⟨hi,e⟩:=aI.mp h;rw[<-e];exact pZ hi
theorem jY(sd:List Slot)(i:Nat)(x y:Slot):(sd.set i x).set i y=sd.set i y:=by simp
theorem StF.wr{K:aA}{H₀ F H:Hp}{σ:St}{i:Nat}{l:BJ}{ds':List D}{xs':List V}(S:StF K H₀ F H σ sd)(hs:sd[i]? =some (.own l ds))(rl:RepL K F ds' xs'):StF K H₀ F (upd H l<|.lst xs') σ (sd.set i<|.own l ds'):=by
 obtain⟨o,h1,h2,n,xs,q,_⟩:=S.slots.get hs;have no:=pS S.nd hs;have S0:=S.le<|gU sd i;refine⟨S.base,λb u e=> ?_,λb u e=> ?_, ?_, ?_⟩
 ·rw[bD<|cE e n];exact S.sub _ _ e
 ·by_cases h:b=l
  ·subst h;rw[bL] at e;cases e;trivial
  ·rw[bD h] at e;exact S.smp _ _ e
 ·have q1:SlotsOk K F (upd H l<|.lst xs') (sd.set i .un) σ:=S0.slots.mono (Same.refl _) λl' hl=>by
   obtain⟨n',ys,q',_⟩:=S0.slots.owns hl;have hne:l'≠l:=λz=>no<|z▸hl
   exact⟨n',λys e=>by rw[bD hne];exact e⟩
  have q2:=q1.set (z:=.own l ds') (o:=some<|.ref l) ⟨rfl,n,xs',bL,rl⟩ i;rw[jY,lW<|by rw[h1,h2]] at q2;exact q2
 ·have:=jO (z:=Slot.own l ds') i S0.nd λl' e=>by rw[aF.mp e];exact .inl no
  rw[jY] at this;exact this.1
theorem iI(i:Nat){l:BJ}{sts:List BN}(hs:sd[i]? =some (.own l ds))(h:PSd X (sd.set i (.val<|.lst ds)) sts E):PSd X sd sts E:=.mk λσ F H S=>by obtain⟨o,h1,h2,n,xs,q,rl⟩:=S.slots.get hs;have S0:=S.le<|gU sd i;obtain⟨S1,s1⟩:=S0.freeze q n<|pS S.nd hs;have S2:=S1.set (d:=.lst ds) (v:=.ref l) i (by simp only[Rep];exact⟨l,xs,rfl,bL,rl.mono s1⟩);rw[jY,lW<|by rw[h1,h2]] at S2;exact aPy s1<|h σ _ H S2
theorem nV(i:Nat){x:Str}{p ap cp:Pos}{l:BJ}(hs:sd[i]? =some (.own l ds))(hx:PE X (.Name x p) (iQ i))(h:PEd X sd e (.val d))(hl:ds.length<=1000)(hE:E.nx (sd.set i (.own l<|ds++[d])))
  (hst:AC (e::[]) X.env=(false,eval e X.env)::AC [] X.env:=by rfl)
  (hm:PE X (.Call (.Attribute (.Name x p) "append" ap) [e] [] cp) (tBM X.K "list" sA (iQ i)<|nF (wE X e) yH):=by exact aDQ gW mV mW uH (pv _) (dP eV pa_nil))
  (hsw:AX (.Call (.Attribute (.Name x p) "append" ap) [e] [] cp) none pos.line X.env=pure false:=by rfl):
  PSd1 X sd (.Expr (.Call (.Attribute (.Name x p) "append" ap) [e] [] cp) pos) E:=.mk λσ F H S=>
 (sQ hm hsw).to (by
  obtain⟨o,h1,h2,n,xs,q,rl⟩:=S.slots.get hs;refine⟨.ref l,by rw[h1,h2],.inl ⟨rfl,xs,.of q⟩,(h σ F H S).imp λv H1 ⟨F1,S1,s1,q1⟩=> ?_⟩;obtain⟨o',h1',h2',n',xs',q',rl'⟩:=S1.slots.get hs
  exact⟨l,xs',v,rfl,rfl,q',by rw[rl'.len];exact eG hl,_,F1,S1.wr hs (rl'.app (.one q1)),s1,hE⟩)
theorem aDf(i:Nat){x:Str}{p ap cp:Pos}{l:BJ}{ds2:List D}(hs:sd[i]? =some (.own l ds))(hx:PE X (.Name x p) (iQ i))(h:PEd X sd e (.val<|.lst ds2))(hl:ds.length+ds2.length<=1000)(hE:E.nx (sd.set i (.own l<|ds++ds2)))
  (hst:AC (e::[]) X.env=(false,eval e X.env)::AC [] X.env:=by rfl)
  (hm:PE X (.Call (.Attribute (.Name x p) "extend" ap) [e] [] cp) (tBM X.K "list" aEF (iQ i)<|nF (wE X e) yH):=by exact aDQ gW PySem.F.slot_list_extend PySem.F.type_list_extend aGC (pv _) (dP eV pa_nil))
  (hsw:AX (.Call (.Attribute (.Name x p) "extend" ap) [e] [] cp) none pos.line X.env=pure false:=by rfl):
  PSd1 X sd (.Expr (.Call (.Attribute (.Name x p) "extend" ap) [e] [] cp) pos) E:=.mk λσ F H S=>
 (sQ hm hsw).to (by
  obtain⟨o,h1,h2,n,xs,q,rl⟩:=S.slots.get hs;refine⟨.ref l,by rw[h1,h2],.inl ⟨rfl,xs,.of q⟩,(h σ F H S).imp λv H1 ⟨F1,S1,s1,q1⟩=> ?_⟩;obtain⟨o',h1',h2',n',xs',q',rl'⟩:=S1.slots.get hs;simp only[ResOk,Rep] at q1;obtain⟨b,zs,rfl,hb,rb⟩:=q1
  exact⟨l,b,xs',zs,rfl,rfl,q',S1.sub _ _ hb,by rw[rl'.len,rb.len];exact dL (eG hl),_,F1,S1.wr hs (rl'.app rb),s1,hE⟩)
noncomputable def spC(K:aA)(n:Nat)(C:List D->R->Prop):Sp:=λvs H Q _=>vs.length=n/\Smp H/\∃ds r,RepL K H ds vs/\C ds r/\∀v H',aHy K H H' r v->Q v H'
noncomputable def spF(K:aA)(n:Nat)(C:List D->R->Prop):Sp:=λvs H Q _=>vs.length=n/\Smp H/\∃F ds r,Same F H/\RepL K F ds vs/\C ds r/\∀v F2 F3 H',Same F F2->Same F2 F3->Same F3 H'->Same H H'->Smp H'->(∀b o,H b=some o->F b=none->F3 b=none)->ResOk K F2 F3 [] r v->Q v H'
noncomputable def rZ(F H:Hp):Hp:=λb=>match F b with
 |some o=>some o
 |none=>H b
theorem sZ{F H:Hp}:Same F (rZ F H):=λb o e=>by unfold rZ;rw[e]
theorem sT{F H:Hp}{b:BJ}(h:F b=none):rZ F H b=H b:=by unfold rZ;rw[h]
theorem FnOk.framed{P:AD}{w:AI}{K:aA}{mg:Str->Option BH}{base:BL}{k n:Nat}{f:BJ}{fd:AL}{ps:List Str}{C:List D->R->Prop}(G:FnOk P w K mg base CX0 k f fd ps (spC K n C)):FnOk P w K mg base CX0 k f fd ps (spF K n C):=by
 refine⟨λvs H Q E h=> ?_,λA outer s H args us vs Q E hr e0 hb rv h=> ?_⟩
 ·obtain⟨hl,sm,F,ds,r,sF,rl,c,_⟩:=h;exact G.len vs F (λ_ _=>True) E ⟨hl,sm.sub sF,ds,r,rl,c,λ_ _ _=>trivial⟩
 ·obtain⟨hl,sm,F,ds,r,sF,rl,c,q⟩:=h;have e1:Env0 P w K mg base A outer s F:=⟨e0.frames,e0.mod,λb o e=>⟨(e0.bs b o e).1,sF.free (e0.bs b o e).2⟩,e0.bsz,e0.funs,λb hb=>sF.free<|e0.frf b hb,λb o e=>(e0.hok b o<|sF b o e).smp (sm b o<|sF b o e),e0.bare⟩;refine Ah (G.run A outer s F args us vs (λv F3=>aHy K F F3 r v) E hr e1 hb rv ⟨hl,sm.sub sF,ds,r,rl,c,λv H' z=>z⟩) λrr s' hrr=> ?_
  cases rr with
  |error e=>exact hrr
  |ok fl=>
   cases fl with
   |ret u=>
    obtain⟨v,F3,ho,ha,un,hk,ru,F2,s1,s2,sm3,res⟩:=hrr
    have keepF:∀b o,H b=some o->F b=none->F3 b=none:=λb o e n=>by
     have lt:=e0.hok.lt e;cases g:s.heap.get? b with
     |none=>
      exfalso;have ob:=e0.hok b o e;have z:=sm b o e;cases o with
      |lst xs=>obtain⟨_,_,_,_,g'⟩:=ob;rw[g] at g';cases g'
      |tup xs=>obtain⟨_,_,_,oo,g',_⟩:=ob;rw[g] at g';cases g'
      |dK kvs=>obtain⟨_,_,_,_,oo,_,_,g',_⟩:=ob;rw[g] at g';cases g'
      |frz o2 u2=>obtain⟨g',_⟩:=ob;rw[g] at g';cases g'
      |ext φ=>obtain⟨_,⟨oo,g'⟩,_⟩:=ob;rw[g] at g';cases g'
      |_=>exact z
     |some ob=>exact un.free b ob g n<|by simp
    have keepO:∀b o,H b=some o->F b=none->∀ob,s.heap.get? b=some ob->s'.heap.get? b=some ob:=λb o e n ob g=>un.keep b ob g n (λhb=>by have:=e0.frf b hb;rw[e] at this;cases this)<|by simp
    have sH:Same H (rZ F3 H):=λb o e=>by
     cases g:F b with
     |none=>rw[sT<|keepF b o e g];exact e
     |some o'=>have:=sF b o' g;rw[e] at this;cases this;exact sZ _ _ (s2 _ _<|s1 _ _ g)
    have smM:Smp (rZ F3 H):=λb o e=>by
     cases g:F3 b with
     |some o'=>have:=sZ (H:=H) b o' g;rw[e] at this;cases this;exact sm3 b o g
     |none=>rw[sT g] at e;exact sm b o e
    refine⟨v,rZ F3 H,ho,ha,⟨λb o g n hb hx=>un.keep b o g (sF.free n) hb hx,λb o g n hb hx=>un.slot b o g (sF.free n) hb hx,λb o g n hx=> ?_,un.there,λb xs e=>sH _ _ e,λb o u e=>sH _ _ e,λb ps e=>⟨#[],by rw[sH _ _ e];simp⟩⟩,λb o e=> ?_,ru, ?_⟩
    ·rw[sT<|un.free b o g (sF.free n) hx];exact n
    ·have z:=smM b o e;cases g:F3 b with
     |some o'=>have:=sZ (H:=H) b o' g;rw[e] at this;cases this;exact(hk b o g).smp z
     |none=>
      rw[sT g] at e
      have n:F b=none:=by
       cases g2:F b with
       |none=>rfl
       |some o2=>rw[s2 _ _<|s1 _ _ g2] at g;cases g
      have st:=(e0.hok b o e).smp (F:=λ_=>none) z
      have:ObjOk P w (fun _=>none) s'.heap b o:=st.stay (fun b2 u hb2 gg=>by
       rcases hb2 with rfl|hb2
       ·exact keepO _ o e n u gg
       ·cases hb2) (λb2 hb2=>nomatch hb2) λb2 xs hb2=>nomatch hb2
      exact this.smp z
    ·exact q v F2 F3 (rZ F3 H) s1 s2 sZ sH smM keepF res
   |_=>exact hrr
structure bA(P:AD)(w:AI)(K:aA)(mg:Str->Option BH)(base:BL)(x:Str)(k n:Nat)(C:List D->R->Prop):Prop where
 ex:∃ (f:BJ) (fd:AL) (ps:List Str),mg x=some (.ref f)/\cU K (.ref f)=true/\Binds K fd ps []/\FnOk P w K mg base CX0 k f fd ps (spC K n C)
theorem aNj{x:Str}{p:Pos}{k n:Nat}{C:List D->R->Prop}(G:bA X.prog X.w X.K X.mg X.base x k n C)(hr:Room k X.A)(hg:Gl X x)(ha:PAd X sd (e::es) (ds.map R.val))(hc:C ds r)(hb:match r with | .bor _=>False|_=>True)(hn:ds.length=n)
  (hdb:(x==("__debug__":Str))=false:=by decide) (he:AC (e::es) X.env=(false,eval e X.env)::AC es X.env:=by rfl) (hpl:(Ae pos<|AC es X.env).any (·.1)=false:=by rfl):
  PEd X sd (.Call (.Name x p) (e::es) [] pos) r:=.mk λσ F H S=>by
 obtain⟨f,fd,ps,hm,hk,bd,G⟩:=G.ex;refine(vS (FnOk.framed G) hr hg hm hk bd .nil zZ rC hdb he hpl).to<|(ha σ F H S).imp λvs H1 ⟨F1,S1,s1,q1⟩=> ?_;have rl:=q1.vals;refine⟨by rw[cH,rl.len];exact hn,S1.smp,F1,ds,r,S1.sub,by rw[cH];exact rl,hc,λv F2 F3 H' s2 s3 s4 sH sm kp res=> ?_⟩
 have no:∀l,l∈cC sd->F2 l=none/\F3 l=none:=λl hl=>by obtain⟨n1,xs,q,_⟩:=S1.slots.owns hl;have n3:=kp l _ q n1;exact⟨s3.free n3,n3⟩
 refine⟨F2,⟨λb o e=>s2 _ _<|S1.base _ _ e,s3.trans s4,sm,S1.slots.mono s2 λl hl=>⟨(no l hl).1,λys e=>sH _ _ e⟩,S1.nd⟩,s1.trans s2, ?_⟩;cases r with
 |val d=>exact res
 |own ds'=>obtain⟨l,xs,e,n,q,rl',_⟩:=res;exact⟨l,xs,e,n,s4 _ _ q,rl',λhl=>by rw[(no l hl).2] at q;cases q⟩
 |pr d ls=>obtain⟨t,l,xs,y,e,f,g,n,q,rl',_⟩:=res;exact⟨t,l,xs,y,e,f,g,n,s4 _ _ q,rl',λhl=>by rw[(no l hl).2] at q;cases q⟩
 |ox G=>obtain⟨ls,nd,h,g⟩:=res;refine⟨ls,nd,λl hl=> ?_,λF' H'' sF k=>g F' H'' sF λl hl ob q=>k l hl ob<|s4 _ _ q⟩;obtain⟨n,⟨ob,q,w⟩,_⟩:=h l hl;exact⟨n,⟨ob,s4 _ _ q,w⟩,λhm=>by rw[(no l hm).2] at q;cases q⟩
 |bor ds'=>exact hb.elim
noncomputable def R.toD:R->D
 |.val d=>d
 |.own ds=>.lst ds
 |.bor ds=>.lst ds
 |.pr d ls=>.tup [d,.lst ls]
 |.ox _=>.non
noncomputable def init(n:Nat)(ds:List D):List Slot:=ds.map Slot.val++fF (n-ds.length) .un
theorem aCt{K:aA}{F H:Hp}:∀n:Nat,SlotsOk K F H (fF n .un) (fF n none)
 |0=>rfl
 |n+1=>⟨none,fF n none,rfl,trivial,aCt n⟩
theorem lU{K:aA}{F H:Hp}{m n:Nat}:∀ {ds:List D}{vs:List V},RepL K F ds vs->SlotsOk K F H (ds.map Slot.val++fF n .un) (vs.map some++fF n none)
 |[],vs,r=>by simp only[RepL] at r;subst r;exact aCt n
 |d::ds,vs,r=>by obtain⟨y,ys,rfl,a,rl⟩:=r.uncons;exact⟨some y,_,rfl,⟨y,rfl,a⟩,lU (m:=m) rl⟩
theorem lP(n:Nat):∀ds:List D,cC (ds.map Slot.val++fF n .un)=[]
 |[]=>by
  induction n with
  |zero=>rfl
  |succ n ih=>exact ih
 |_::ds=>lP n ds
theorem aKk{P:AD}{w:AI}{K:aA}{mg:Str->Option BH}{base:BL}{x qual:Str}{f:BJ}{fd:AL}{N ps:List Str}{k:Nat}{C:List D->R->Prop}(F:Fun K x qual st f fd)(S:kR N ps (bK st))
  (body:∀ (cdv:BH) (A:BK) (outer:List Env) (s:BI) (H:Hp) (E:XK),Room k (A.deeper (envOfC qual (bK st) s.heap.objs.size f cdv))→∀ds r,ds.length=ps.length→C ds r→
   PSd (qG CX0 P w K mg base N qual (bK st) f cdv A outer s H E).nox (init N.length ds) (dY st) {nx:=λ_=>r=.val .non,rt:=λr'=>r'=r}):FnOk P w K mg base CX0 (k+1) f fd ps (spC K ps.length C):=by
 refine F.ok S (λvs H Q E h=>h.1) λcdv A outer s H vs Q E hr h=> ?_
 obtain⟨hl,sm,ds,r,rl,c,q⟩:=h;have hds:ds.length=ps.length:=by rw[<-rl.len];exact hl
 refine⟨_,pss_w, ?_⟩;have hlen:N.length-vs.length=N.length-ds.length:=by rw[rl.len]
 have S0:StF K H H H (L2.start N vs) (init N.length ds):=by
  refine⟨Same.refl _,Same.refl _,sm, ?_, ?_⟩
  ·unfold L2.start init;rw[hlen];exact lU (m:=0) rl
  ·unfold init;rw[lP];exact dA
 refine(body cdv A outer s H E hr ds r hds c (L2.start N vs) H H S0).imp ?_ ?_ (λ_ _ ⟨_,_,_,_,z⟩=>z) λ_ _ ⟨_,_,_,_,z⟩=>z
 ·rintro σ' H' ⟨sd',F',S',s',e⟩;have e:r=.val .non:=e;subst e;exact q .non H' ⟨F',S'.base,S'.sub,S'.smp,by simp only[ResOk,Rep]⟩
 ·rintro v H' ⟨r',ro,e⟩;have e:r'=r:=e;subst e;exact q v H' ro
theorem aPK{P:AD}{w:AI}{K:aA}{mg:Str->Option BH}{base:BL}{x qual:Str}{f:BJ}{fd:AL}{N ps:List Str}{k:Nat}{C:List D->R->Prop}(F:Fun K x qual st f fd)(S:kR N ps (bK st))
  (hm:mg x=some (.ref f)) (hb:∀ (kV doc pm:BH) (an:Option BJ) (cdv ct:BH) (us:List BH),us.length=ps.length->bindArgs (cV x qual (fT st) (dY st) (bK st) .none kV doc pm an cdv ct) ⟨us,[]⟩=pure (ps.zip us))
  (body:∀ (cdv:BH) (A:BK) (outer:List Env) (s:BI) (H:Hp) (E:XK),Room k (A.deeper (envOfC qual (bK st) s.heap.objs.size f cdv))→∀ds r,ds.length=ps.length→C ds r→
   PSd (qG CX0 P w K mg base N qual (bK st) f cdv A outer s H E).nox (init N.length ds) (dY st) {nx:=λ_=>r=.val .non,rt:=λr'=>r'=r}):bA P w K mg base x (k+1) ps.length C:=
 ⟨f,fd,ps,hm,F.kp,F.binds hb,aKk F S body⟩
end
section
variable {X:Cx}{sd:List Slot}{e a b c tg iter:Expr}{es:List Expr}{pos:Pos}{r ra rb:R}{d:D}{ds:List D}{st:BN}{rest:List BN}{E:iT}
def ItD(K:aA)(F₁:Hp)(P:Hp->Hp->Prop)(J:It)(ds:List D):Prop:=∀ (F H:Hp),Same F₁ F->Same F H->Smp H->P F H->∀i,(i<ds.length->J.go i H)/\(ds.length<=i->J.stop i H)/\
 ∀x H' d,ds[i]? =some d->J.yld i H x H'->∃F',Same F F'/\Rep K F' d x/\∀H₀ σ sd,StF K H₀ F H σ sd->StF K H₀ F' H' σ sd
abbrev PT0:Hp->Hp->Prop:=λ_ _=>True
structure PId(X:Cx)(sd:List Slot)(P:Hp->Hp->Prop)(tg iter:Expr)(ds:List D):Prop where
 run:∀ (σ:St) (F H:Hp),StF X.K X.B₀ F H σ sd->
 wI X tg iter σ H λJ H1=>∃F1,StF X.K X.B₀ F1 H1 σ sd/\Same F F1/\ItD X.K F1 P J ds
instance {X:Cx}{sd:List Slot}{P:Hp→Hp→Prop}{tg iter:Expr}{ds:List D}:CoeFun (PId X sd P tg iter ds) (fun _=>∀ (σ:St) (F H:Hp),StF X.K X.B₀ F H σ sd→
 wI X tg iter σ H λJ H1=>∃F1,StF X.K X.B₀ F1 H1 σ sd/\Same F F1/\ItD X.K F1 P J ds):=⟨PId.run⟩
theorem _root_.L2.PI.to{wi:TI}{σ:St}{H:Hp}{R:It->Hp->Prop}(h:PI X tg iter wi)(q:wi σ H R):wI X tg iter σ H R:=λpins s I=>h pins s σ H R I q
theorem fV(h:PEd X sd iter (.val<|.lst ds)):PId X sd PT0 tg iter ds:=.mk λσ F H S=>
 (aLG eV).to ((h σ F H S).imp fun v H1 ⟨F1,S1,s1,q1⟩=>by
  simp only[ResOk,Rep] at q1;obtain⟨l,xs,rfl,hl,rl⟩:=q1;refine⟨l,rfl,⟨xs,.of<|S1.sub _ _ hl⟩,F1,S1,s1,λF' H' sF sH sm _ i=> ?_⟩;have hl':=sH _ _<|sF _ _ hl;refine⟨λhi=>⟨xs,xs[i]'(by rw[rl.len];exact hi),.of hl',by simp[rl.len,hi]⟩,λhi=>⟨xs,.of hl',by rw[rl.len];exact hi⟩,λx H2 d hd y=> ?_⟩;obtain⟨rfl,y⟩:=y;obtain⟨v,hv,rv⟩:=rl.get hd;have:=y xs<|.of hl';rw[hv] at this;cases this
  exact⟨F',Same.refl _,rv.mono sF,λ_ _ _ S=>S⟩)
theorem lE(h:PEd X sd iter (.val<|.tup ds)):PId X sd PT0 tg iter ds:=.mk λσ F H S=>
 (aOV eV).to ((h σ F H S).imp fun v H1 ⟨F1,S1,s1,q1⟩=>by
  simp only[ResOk,Rep] at q1;obtain⟨l,xs,rfl,hl,rl⟩:=q1;refine⟨l,rfl,⟨xs,.of<|S1.sub _ _ hl⟩,F1,S1,s1,λF' H' sF sH sm _ i=> ?_⟩;have hl':=sH _ _<|sF _ _ hl;refine⟨λhi=>⟨xs,xs[i]'(by rw[rl.len];exact hi),.of hl',by simp[rl.len,hi]⟩,λhi=>⟨xs,.of hl',by rw[rl.len];exact hi⟩,λx H2 d hd y=> ?_⟩;obtain⟨rfl,y⟩:=y;obtain⟨v,hv,rv⟩:=rl.get hd;have:=y xs<|.of hl';rw[hv] at this;cases this
  exact⟨F',Same.refl _,rv.mono sF,λ_ _ _ S=>S⟩)
noncomputable def fC(lo:Int)(n:Nat):List D:=(aW n).map λ(k:Nat)=>D.int<|lo+(k:Int)
theorem eU(lo:Int)(n:Nat):(fC lo n).length=n:=by simp[fC]
theorem fA{lo:Int}{n i:Nat}(h:(fC lo n)[i]? =some d):i<n/\d=.int (lo+(i:Int)):=by
 unfold fC at h;rw[aY] at h
 by_cases hi:i<n
 ·rw[rH hi] at h;exact⟨hi,(bY.inj h).symm⟩
 ·rw[dJ<|by simpa using hi] at h;cases h
theorem tX{K:aA}{F₁:Hp}{lo:Int}{n:Nat}:ItD K F₁ PT0 (Itr lo n) (fC lo n):=λF H _ _ _ _ i=>by refine⟨λhi=>by rw[eU] at hi;exact hi,λhi=>by rw[eU] at hi;exact hi,λx H' d hd y=> ?_⟩;obtain⟨rfl,rfl⟩:=y;obtain⟨_,rfl⟩:=fA hd;exact⟨F,Same.refl _,by simp only[Rep],λ_ _ _ S=>S⟩
theorem gF{p:Pos}{n:Nat}(hg:Gl X "range")(hm:X.mg "range"=none)(h:PEd X sd a (.val<|.int (n:Int)))(hn:(n:Int)<2^62)(hs:AC [a] X.env=[(false,eval a X.env)]:=by rfl):PId X sd PT0 tg (.Call (.Name "range" p) [a] [] pos) (fC 0 n):=.mk λσ F H S=>
 (zT hg hm rC hs).to ((aC h aM trivial hs σ F H S).imp fun vs H1 ⟨F1,S1,s1,q1⟩=>by
  cases q1 with
  |cons q1 q2=>
   cases q2;simp only[ResOk,Rep] at q1;subst q1
   exact⟨(n:Int),rfl,by omega,hn,F1,S1,s1,by rw[cF];exact tX⟩)
theorem xF{p:Pos}{lo:Int}{m:Int}(hg:Gl X "range")(hm:X.mg "range"=none)(ha:PEd X sd a (.val<|.int lo))(hb:PEd X sd b (.val<|.int m))(h1: -(2^62)<=lo/\lo<2^62)(h2: -(2^62)<=m/\m<2^62)(hs:AC [a,b] X.env=[(false,eval a X.env),(false,eval b X.env)]:=by rfl)(hs2:AC [b] X.env=[(false,eval b X.env)]:=by rfl):
  PId X sd PT0 tg (.Call (.Name "range" p) [a,b] [] pos) (fC lo (m-lo).toNat):=.mk λσ F H S=>
 (aGv hg hm rC hs hs2).to ((aC ha (aC hb aM trivial hs2) trivial (by rw [hs,hs2]) σ F H S).imp fun vs H1 ⟨F1,S1,s1,q1⟩=>by
  cases q1 with
  |cons q1 q2=>
   cases q2 with
   |cons q2 q3=>
    cases q3;simp only[ResOk,Rep] at q1 q2;subst q1 q2
    exact⟨lo,m,rfl,⟨h1.1,h1.2,h2.1,h2.2⟩,F1,S1,s1,tX⟩)
structure PGd(X:Cx)(sd:List Slot)(tg:Expr)(d:D)(sd':List Slot):Prop where
 run:∀ (σ:St) (F H:Hp) (v:V),StF X.K X.B₀ F H σ sd->Rep X.K F d v->wG X tg v σ H λσ' H'=>∃F',StF X.K X.B₀ F' H' σ' sd'/\Same F F'
instance {X:Cx}{sd:List Slot}{tg:Expr}{d:D}{sd':List Slot}:CoeFun (PGd X sd tg d sd') (λ_=>∀ (σ:St) (F H:Hp) (v:V),StF X.K X.B₀ F H σ sd->Rep X.K F d v->wG X tg v σ H λσ' H'=>∃F',StF X.K X.B₀ F' H' σ' sd'/\Same F F'):=⟨PGd.run⟩
theorem _root_.L2.PG.to{t:TG}{v:V}{σ:St}{H:Hp}{Q:St->Hp->Prop}(h:PG X tg t)(q:t v σ H Q):wG X tg v σ H Q:=λpins s u I r=>h pins s σ H v u Q I r q
theorem aCv(j:Nat)(h:PG X tg (aDM j)):PGd X sd tg d (sd.set j<|.val d):=.mk λσ F H v S q=>h.to ⟨F,S.set j q,Same.refl _⟩
noncomputable def gNs:List Nat->TGs
 |[]=>aSv
 |j::js=>aOl (aDM j)<|gNs js
noncomputable def aEr:List Slot->List Nat->List D->List Slot
 |sd,j::js,d::ds=>aEr (sd.set j<|.val d) js ds
 |sd,_,_=>sd
theorem aKg{K:aA}{H₀ F H:Hp}{Q:St->Hp->Prop}:∀ {js:List Nat}{ds:List D}{vs:List V}{σ:St}{sd:List Slot},js.length=ds.length->RepL K F ds vs->StF K H₀ F H σ sd->(∀σ',StF K H₀ F H σ' (aEr sd js ds)->Q σ' H)->gNs js vs σ H Q
 |[],[],vs,σ,sd,_,r,S,k=>by simp only[RepL] at r;exact⟨r,k σ S⟩
 |j::js,d::ds,vs,σ,sd,hl,r,S,k=>by obtain⟨y,ys,rfl,q,rl⟩:=r.uncons;exact⟨y,ys,rfl,aKg (by simpa using hl) rl (S.set j q) k⟩
 |[],_::_,_,_,_,hl,_,_,_=>by simp at hl
 |_::_,[],_,_,_,hl,_,_,_=>by simp at hl
theorem kN{k:Nat}{js:List Nat}(hc:X.calm=true)(h:PGs X es (gNs js))(hl:js.length=ds.length)(hn:(BB es X.env).length=ds.length)(hst:(BB es X.env).findIdx? (·.1)=none:=by rfl):PGd X sd (.Tuple es k pos) (.tup ds) (aEr sd js ds):=.mk λσ F H v S q=>
 (aOT hc h hn hst).to (by
  simp only[Rep] at q;obtain⟨a,xs,rfl,ha,rl⟩:=q
  exact⟨a,xs,rfl,.of (S.sub _ _ ha),rl.len,aKg hl rl S λσ' S'=>⟨F,S',Same.refl _⟩⟩)
theorem aLE{sd':List Slot}(h:PEd X sd e (.val d))(hg:PGd X sd tg d sd')(hE:E.nx sd')(hs:swapsWithSole [tg] e pos.line X.env=pure false:=by rfl)(hw:swappedStores [tg] e X.env=pure none:=by rfl)
  (h1:(BB [tg] X.env).map (·.2)=[assign tg X.env]:=by rfl):PSd1 X sd (.Assign [tg] e pos) E:=.mk λσ F H S=>
 (aPE eV aQo hs hw h1).to ((h σ F H S).imp λv H1 ⟨F1,S1,s1,q1⟩=>(hg σ F1 H1 v S1 q1).imp λσ' H' ⟨F',S',s'⟩=>⟨sd',F',S',s1.trans s',hE⟩)
theorem jX{body:List BN}{P:Hp->Hp->Prop}(Sd Td:Nat->List Slot)(hi:PId X sd P tg iter ds)(h0:Le sd (Sd 0))(hg:∀k d,ds[k]? =some d->PGd X (Sd k) tg d (Td k))
  (hb:∀k d,ds[k]? =some d->PSd X (Td k) body {E with nx:=λsd'=>Le sd' (Sd<|k+1),ct:=λsd'=>Le sd' (Sd<|k+1),bk:=E.nx}) (hE:E.nx (Sd ds.length)) (hP:∀k σ F H,StF X.K X.B₀ F H σ (Sd k)->P F H:=by intros;trivial)
  (hc:X.calm=true:=by rfl) (hp:PassesOwn (AF X.prog X.w) X.A X.env X.xe:=by exact PassesOwn.never) (hs:∀x,BA iter X.env x=pure x:=by intro _;rfl):PSd1 X sd (.For tg iter body [] pos) E:=.mk λσ F H S=>
 (aKC hp hc aRW aQo pss_w hs).to (by
  intro pins s I;refine thn (hi σ F H S pins s I) λv s1 h1=>thn h1 λitv s2 h2=> ?_
  obtain⟨it,fp,tn,J,H2,e,I2,T,st2,f2,F1,S1,s1',itd⟩:=h2;refine⟨it,fp,tn,J,H2,e,I2,T,st2,f2, ?_⟩;refine⟨λi m σ' H'=>m=ds.length-i/\i<=ds.length/\∃F',StF X.K X.B₀ F' H' σ' (Sd i)/\Same F1 F',⟨ds.length,by simp,cD _,F1,S1.le h0,Same.refl _⟩, ?_⟩;rintro i m σ' H' ⟨rfl,hil,F',S',s'⟩;obtain⟨g1,g2,g3⟩:=itd F' H' s' S'.sub S'.smp (hP _ _ _ _ S') i
  by_cases hlt:i<ds.length
  ·refine .inr ⟨g1 hlt,λσ2 H2=>∃F2,StF X.K X.B₀ F2 H2 σ2 (Sd<|i+1)/\Same F1 F2,λσ2 H2 ⟨F2,S2,s2⟩=>⟨ds.length-(i+1),by omega,rfl,hlt,F2,S2,s2⟩,λx H2 y=> ?_⟩;have hd:ds[i]? =some ds[i]:=by simp[hlt]
   obtain⟨F2,s2,rp,up⟩:=g3 x H2 ds[i] hd y;refine(hg i _ hd σ' F2 H2 x (up _ _ _ S') rp).imp λσ3 H3 ⟨F3,S3,s3⟩=> ?_
   have base:Same F1 F3:=(s'.trans s2).trans s3;refine(hb i _ hd σ3 F3 H3 S3).imp ?_ ?_ ?_ ?_
   ·rintro σ4 H4 ⟨sd4,F4,S4,s4,le⟩;exact⟨F4,S4.le le,base.trans s4⟩
   ·exact λv H4 q=>q
   ·rintro σ4 H4 ⟨sd4,F4,S4,s4,q⟩;exact⟨sd4,F4,S4,(s1'.trans base).trans s4,q⟩
   ·rintro σ4 H4 ⟨sd4,F4,S4,s4,le⟩;exact⟨F4,S4.le le,base.trans s4⟩
  ·have e:i=ds.length:=by omega
   subst e
   exact .inl ⟨g2 (aR _),Sd ds.length,F',S',s1'.trans s',hE⟩)
theorem Inv.retrack{pins:List (BJ×BM)}{σ:St}{H F:Hp}{s s':BI}(I0:Inv X pins σ H s):∀ (ls:List BJ),ls.Nodup->(∀l∈ls,F l=none/\(∃xs,H l=some xs/\Wr l xs)/\∀o,s.heap.get? l=some o->s'.heap.get? l=some o)->Inv X pins σ F s'->Inv X pins σ (λb=>if b∈ls then H b else F b) s'
 |[],_,_,I=>by simpa using I
 |l::ls,nd,h,I=>by
  obtain⟨nl,nd'⟩:=bX.mp nd;have J:=Inv.retrack I0 ls nd' (λl' hl=>h l'<|aE _ hl) I;obtain⟨n,⟨xs,hx,wx⟩,kp⟩:=h l aH
  have e:(λb=>if b∈l::ls then H b else F b)=upd (λb=>if b∈ls then H b else F b) l xs:=by
   funext b;unfold upd
   by_cases hb:b=l
   ·subst hb;simp[hx]
   ·simp[hb]
  rw[e];have n':(λb=>if b∈ls then H b else F b) l=none:=by simp[nl,n]
  have ob:=I0.hok l _ hx;clear e;generalize (λb=>if b∈ls then H b else F b)=G at J n' ⊢;refine⟨J.ok,J.os,J.bare,⟨J.base.keep,J.base.slot,λb u g n0 hx0=> ?_,J.base.there,λb ys g=> ?_,λb u ys g=> ?_,λb ps g=> ?_⟩,J.loc,J.cell, ?_,λx c g=> ?_,λp hp=> ?_,J.hok.track n' ?_,J.len⟩
  ·have hb:b≠l:=λq=>by subst q;have:=I0.base.free b u g n0 hx0;rw[hx] at this;cases this
   rw[bD hb];exact J.base.free b u g n0 hx0
  ·have q:=J.base.tups b ys g;rw[bD<|cE q n'];exact q
  ·have q:=J.base.frzs b u ys g;rw[bD<|cE q n'];exact q
  ·obtain⟨m,q⟩:=J.base.tbls b ps g;exact⟨m,by rw[bD<|cE q n'];exact q⟩
  ·rw[bD λq=>by have:=I0.free;rw[q,hx] at this;cases this];exact J.free
  ·rw[bD λq=>by have:=I0.freeC x c g;rw[q,hx] at this;cases this];exact J.freeC x c g
  ·obtain⟨g,n0,rr⟩:=J.pin p hp;refine⟨g, ?_,rr⟩;rw[bD λq=>by have:=(I0.pin p hp).2.1;rw[q,hx] at this;cases this];exact n0
  ·cases xs with
   |lst xs=>obtain⟨z,its,nn,rv,ho⟩:=ob;exact⟨z,its,nn,rv,kp _ ho⟩
   |dK kvs=>obtain⟨z,y,vs,r,o,es,ep,e,c⟩:=ob;exact⟨z,y,vs,r,o,es,ep,kp _ e,c⟩
   |ext φ=>obtain⟨h1,⟨o1,h2⟩,h3⟩:=ob;exact⟨h3 _ _ h1 kp,⟨o1,kp _ h2⟩,h3⟩
   |_=>exact wx.elim
theorem aPv{P:AD}{w:AI}{H:Hp}{h:BL}{l:BJ}{xs:HO}(wx:Wr l xs)(q:H l=some xs)(ok:ObjOk P w H h l xs):∃ys o,H l=some ys/\Wr l ys/\h.get? l=some o/\∀v,o.data≠ .cell v:=by
 cases xs with
 |lst xs=>obtain⟨_,its,nn,_,ho⟩:=ok;exact⟨_,_,q,trivial,ho,λv z=>by cases z⟩
 |dK kvs=>obtain⟨_,_,_,_,o,es,ep,e,_,d,_⟩:=ok;exact⟨_,_,q,trivial,e,λv z=>by rw[d] at z;cases z⟩
 |ext φ=>obtain⟨o,e,n⟩:=id wx;subst e;exact⟨_,o,q,wx,ok.1,n⟩
 |_=>exact wx.elim
theorem aJr{σ:St}{F H:Hp}(S:StF X.K X.B₀ F H σ sd)(hr:match r with | .bor _=>False|_=>True)(h:wE X e σ F λv F3=>aHy X.K F F3 r v):wE X e σ H λv H'=>∃F',StF X.K X.B₀ F' H' σ sd/\Same F F'/\ResOk X.K F' H' sd r v:=λpins s I=>by
 have I1:Inv X pins σ F s:=I.less S.sub S.base<|S.smp.sub S.sub
 have ob:∀l∈cC sd,∃xs o,H l=some xs/\Wr l xs/\s.heap.get? l=some o/\∀v,o.data≠ .cell v:=λl hl=>by obtain⟨n,xs,q,wx⟩:=S.slots.owns hl;exact aPv wx q<|I.hok l _ q
 have I2:Inv X (pins++oC (cC sd) s.heap) σ F s:=I1.pins_of λp hp=>(bC.mp hp).elim (λz=>I1.pin p<|aX _ z) λz=>by
  obtain⟨hb,g⟩:=uE z;obtain⟨xs,o,q,_,ho,hc⟩:=ob p.1 hb;rw[g] at ho;cases ho;refine⟨g,(S.slots.owns hb).1,λy=> ?_,λy=> ?_,hc⟩
  ·have:=I.free;rw[<-y,q] at this;cases this
  ·obtain⟨_,o',ho',_⟩:=I.ok.funs.mem y;have:=I.base.free p.1 o' ho' (I.ok.frf p.1 y) λz=>I.ok.exfs p.1 z y
   rw[q] at this;cases this
 refine thn (h _ s I2) λu s' ⟨v,F3,I3,rv,F2,s1,s2,sm3,res⟩=> ?_
 have kp:∀l∈cC sd,F3 l=none/\(∃xs,H l=some xs/\Wr l xs)/\∀o,s.heap.get? l=some o->s'.heap.get? l=some o:=λl hl=>by obtain⟨xs,o,q,wx,ho,_⟩:=ob l hl;have:=I3.pin (l,o)<|aX _ (aX _<|jL hl ho);exact⟨this.2.1,⟨xs,q,wx⟩,λo' g=>by rw[ho] at g;cases g;exact this.1⟩
 have I4:=Inv.retrack I (cC sd) S.nd kp I3.unpinned;refine⟨v,_,I4,rv,F2,⟨λb o g=>s1 _ _<|S.base _ _ g,λb o g=> ?_,λb o g=> ?_,S.slots.mono s1 λl hl=>⟨s2.free (kp l hl).1,λxs g=>by simpa[hl] using g⟩,S.nd⟩,s1, ?_⟩
 ·have g3:=s2 _ _ g;have:b∉cC sd:=λhb=>by rw[(kp b hb).1] at g3;cases g3
  simp[this,g3]
 ·by_cases hb:b∈cC sd
  ·simp[hb] at g;exact S.smp _ _ g
  ·simp[hb] at g;exact sm3 _ _ g
 ·cases r with
  |val d=>exact res
  |own ds'=>
   obtain⟨l,xs,e,n,q,rl',_⟩:=res;have:l∉cC sd:=λhl=>by rw[(kp l hl).1] at q;cases q
   exact⟨l,xs,e,n,by simp[this,q],rl',this⟩
  |pr d ls=>
   obtain⟨t,l,xs,y,e,f,g,n,q,rl',_⟩:=res;have:l∉cC sd:=λhl=>by rw[(kp l hl).1] at q;cases q
   exact⟨t,l,xs,y,e,f,g,n,by simp[this,q],rl',this⟩
  |ox G=>
   obtain⟨ls,nd,h,g⟩:=res
   have no:∀l∈ls,l∉cC sd:=λl hl hm=>by obtain⟨n,⟨ob,q,w⟩,_⟩:=h l hl;rw[(kp l hm).1] at q;cases q
   refine⟨ls,nd,λl hl=> ?_,λF' H' sF k=>g F' H' sF λl hl ob q=>k l hl ob<|by simp[no l hl,q]⟩;obtain⟨n,⟨ob,q,w⟩,_⟩:=h l hl;exact⟨n,⟨ob,by simp[no l hl,q],w⟩,no l hl⟩
  |bor ds'=>exact hr.elim
noncomputable def aNH:Option Slot->Slot
 |some (.val d)=>.val d
 |some (.ox [] G)=>.ox [] G
 |_=>.un
noncomputable def rD(cap:List (Option Nat))(sd:List Slot):List Slot:=cap.map λo=>match o with
 |none=>.un
 |some k=>aNH sd[k]?
theorem aFb{K:aA}{F H F' H':Hp}{σ:St}(h:SlotsOk K F H sd σ)(s:Same F F'):∀cap:List (Option Nat),SlotsOk K F' H' (rD cap sd) (zI cap σ)
 |[]=>rfl
 |o::cap=>by
  refine⟨_,_,rfl, ?_,aFb h s cap⟩;cases o with
  |none=>trivial
  |some k=>
   show eW K F' H' (aNH sd[k]?) _;cases q:sd[k]? with
   |none=>trivial
   |some z=>
    cases z with
    |un=>trivial
    |own l ds=>trivial
    |od l ks ds=>trivial
    |ox ls G=>
     cases ls with
     |cons a ls=>trivial
     |nil=>obtain⟨o,h1,v,h2,h3,h4⟩:=h.get q;subst h2;exact⟨v,by simp[h1],λl hl=>(nomatch hl),λF2 H2 s2 _=>h4 F2 H2 (s.trans s2) λl hl=>(nomatch hl)⟩
    |gh d G=>trivial
    |val d=>obtain⟨o,h1,v,h2,rv⟩:=h.get q;subst h2;exact⟨v,by simp[h1],rv.mono s⟩
theorem yJ:∀ (cap:List (Option Nat)) (sd:List Slot),cC (rD cap sd)=[]
 |[],_=>rfl
 |o::cap,sd=>by
  have ih:=yJ cap sd;cases o with
  |none=>exact ih
  |some k=>
   show cC (aNH sd[k]? ::rD cap sd)=[];cases q:sd[k]? with
   |none=>exact ih
   |some z=>
    cases z with
    |ox ls G=>cases ls<;>exact ih
    |_=>exact ih
noncomputable def unS:Slot->Slot
 |.own _ _=>.un
 |.od _ _ _=>.un
 |.ox [] G=>.ox [] G
 |.ox _ _=>.un
 |z=>z
noncomputable def unO(sd:List Slot):List Slot:=sd.map unS
theorem jN:∀sd:List Slot,cC (unO sd)=[]
 |[]=>rfl
 |.un::r=>jN r
 |.val _::r=>jN r
 |.gh _ _::r=>jN r
 |.own _ _::r=>jN r
 |.od _ _ _::r=>jN r
 |.ox [] _::r=>jN r
 |.ox (_::_) _::r=>jN r
theorem aIi(cap:List (Option Nat))(sd:List Slot):rD cap (unO sd)=rD cap sd:=by
 unfold rD;refine bQ λo _=> ?_
 cases o with
 |none=>rfl
 |some k=>
  show aNH (unO sd)[k]? =aNH sd[k]?;unfold unO;rw[aY];cases q:sd[k]? with
  |none=>rfl
  |some z=>
   cases z with
   |ox ls G=>cases ls<;>rfl
   |_=>rfl
theorem aAr{K:aA}{F H H':Hp}:∀ {sd:List Slot}{σ:St},SlotsOk K F H sd σ->SlotsOk K F H' (unO sd) σ
 |[],_,h=>h
 |z::zs,σ,h=>by
  obtain⟨o,r,rfl,a,b⟩:=h;refine⟨o,r,rfl, ?_,aAr b⟩;cases z with
  |un=>trivial
  |val d=>exact a
  |gh d G=>exact a
  |od l ks ds=>trivial
  |ox ls G=>
   cases ls with
   |cons a ls=>trivial
   |nil=>obtain⟨v,h2,h3,h4⟩:=a;exact⟨v,h2,λl hl=>(nomatch hl),λF2 H2 s2 _=>h4 F2 H2 s2 λl hl=>(nomatch hl)⟩
  |own l ds=>trivial
theorem uJ{i:Nat}(p:D->Bool)(h:ds[i]? =some d):(ds.take<|i+1).filter p=(ds.take i).filter p++(if p d then[d] else[]):=by rw[eK,h,tI];cases hp:p d<;>simp[hp]
theorem kP{elt:Expr}{ifs:List Expr}{scope:Scope}{N M:List Str}{cap:List (Option Nat)}{sc:Scope}{Tb:D->List Slot}(p:D->Bool)(f:D->D)
  (hi:PId X (unO sd) PT0 tg iter ds) (hl:ds.length<=1000)
  (hsc:X.env.scope=sc) (hcn:pX scope sc=true) (hM:X.N=M) (hcap:nE N M scope sc cap=true) (hk:scope.kind=.function)
  (hg:∀cl C fp s H d,d∈ds->PGd (cxB X N scope cl C fp s H) (rD cap sd) tg d (Tb d))
  (hle:∀d,d∈ds->Le (Tb d) (rD cap sd))
  (ht:∀cl C fp s H d,d∈ds->(ifs=[]/\p d=true)\/∃c,ifs=[c]/\PTd (cxB X N scope cl C fp s H) (Tb d) c (p d))
  (he:∀cl C fp s H d,d∈ds->p d=true->PEd (cxB X N scope cl C fp s H) (Tb d) elt (.val<|f d))
  (hc:X.calm=true:=by rfl) (hs:∀x,BA iter X.env x=pure x:=by intro _;rfl):
  PEd X sd (.ListComp elt [⟨tg,iter,ifs,0⟩] scope pos) (.own<|(ds.filter p).map f):=.mk λσ F H S=>by
 refine aJr S trivial ?_;have S0:StF X.K X.B₀ F F σ (unO sd):=⟨S.base,Same.refl _,S.smp.sub S.sub,aAr S.slots,by rw[jN];exact dA⟩;intro pins s I
 have nm:∀y∈scope.names,(y.2=NameKind.free->sc.names.lookup y.1=some NameKind.cell)/\(y.2=NameKind.local->scope.names.lookup y.1=some NameKind.local):=λy hy=>by have q:=cW.mp hcn y hy;simp only[bR,yX,uZ,beq_eq_false_iff_ne,ne_eq,beq_iff_eq] at q;exact⟨λe=>q.1.1.resolve_left λz=>z e,λe=>q.2.resolve_left λz=>z e⟩
 have fre:∀y∈scope.names,y.2=.free->∃c,X.env.cells.lookup y.1=some c:=λy hy e=>I.ok.has y.1 (.inl<|by show X.env.scope.names.lookup y.1=_;rw[hsc];exact(nm y hy).1 e)
 rw[eval_ListComp];refine wpAny_comprehension_free (use:=none) rfl hs (aDq fre) hk (λy hy=>(nm y hy).2) ?_;refine thn (hi σ F F S0 pins s I) λv s1 h1=>thn h1 λitv s2 h2=> ?_
 obtain⟨it,fp,tn,J,H2,e,I2,T,st2,f2,F1,S1,s1',itd⟩:=h2;subst e
 have S1b:StF X.K H2 H2 H2 (zI cap σ) (rD cap sd):=⟨Same.refl _,Same.refl _,S1.smp,by
  have q:=aFb (sd:=unO sd) (H':=H2) S1.slots S1.sub cap;rw[aIi] at q
  exact q,by rw[yJ];exact dA⟩
 refine aJn (N:=N) (cap:=cap) (g:=λv σ2 H3 Q=>∀cl C,wG (cxB X N scope cl C fp s2 H2) tg v σ2 H3 Q) (tt:=λσ2 H3 Q=>∀cl C,aQm (cxB X N scope cl C fp s2 H2) ifs σ2 H3 Q) (te:=λσ2 H3 Q=>∀cl C,wE (cxB X N scope cl C fp s2 H2) elt σ2 H3 Q)
  hc hsc hcn (by rw[hM];exact hcap) hk I2 T st2 f2 (λcl C pi s3 σ3 H3 v u Q I3 ru q=>q cl C pi s3 u I3 ru) (λcl C pi s3 σ3 H3 Q I3 q=>q cl C pi s3 I3) (λcl C pi s3 σ3 H3 Q I3 q=>q cl C pi s3 I3)
  (λi m ys σb H3=>m=ds.length-i/\i<=ds.length/\∃Fb,StF X.K H2 Fb H3 σb (rD cap sd)/\RepL X.K Fb (((ds.take i).filter p).map f) ys) ds.length
  ⟨by simp,cD _,H2,S1b,by simpa using RepL.nil⟩ _ ?_
 rintro i m ys σb H3 ⟨rfl,hil,Fb,Sb,rl⟩;have sF1:Same F1 Fb:=λb o g=>Sb.base _ _<|S1.sub _ _ g
 obtain⟨g1,g2,g3⟩:=itd Fb H3 sF1 Sb.sub Sb.smp trivial i
 by_cases hlt:i<ds.length
 ·have hd:ds[i]? =some ds[i]:=by simp[hlt]
  have hm:ds[i]∈ds:=fP hlt
  have ylen:ys.length<=i:=by rw[rl.len,aB];exact bZ (fO _ _) (by simp;omega)
  refine .inr ⟨g1 hlt,eG<|by omega,λys' σ' H'=>∃Fb',StF X.K H2 Fb' H' σ' (rD cap sd)/\RepL X.K Fb' (((ds.take<|i+1).filter p).map f) ys',λys' σ' H' ⟨Fb',Sb',rl'⟩=>⟨ds.length-(i+1),by omega,rfl,hlt,Fb',Sb',rl'⟩,λx H4 y cl C=> ?_⟩;obtain⟨F4,s4,rp,up⟩:=g3 x H4 ds[i] hd y;refine(hg cl C fp s2 H2 _ hm σb F4 H4 x (up _ _ _ Sb) rp).imp λσ5 H5 ⟨F5,S5,s5⟩ cl2 C2=> ?_
  have rl5:=rl.mono<|s4.trans s5
  have fin:∀ (b:Bool) (H6:Hp) (F6:Hp),b=p ds[i]->StF X.K H2 F6 H6 σ5 (Tb ds[i])->Same F5 F6->if b=true then(∀cl C,wE (cxB X N scope cl C fp s2 H2) elt σ5 H6 λv H5=>∃Fb',StF X.K H2 Fb' H5 σ5 (rD cap sd)/\RepL X.K Fb' (((ds.take<|i+1).filter p).map f) (ys++[v])) else ∃Fb',StF X.K H2 Fb' H6 σ5 (rD cap sd)/\RepL X.K Fb' (((ds.take<|i+1).filter p).map f) ys:=λb H6 F6 eb S6 s6=>by
   rw[uJ p hd,<-eb];cases b with
   |false=>exact aLd ⟨F6,S6.le<|hle _ hm,by simpa using rl5.mono s6⟩
   |true=>
    refine aLa λcl3 C3=>(he cl3 C3 fp s2 H2 _ hm eb.symm σ5 F6 H6 S6).imp λv H7 ⟨F7,S7,s7,q7⟩=>⟨F7,S7.le<|hle _ hm, ?_⟩
    simp only[if_true,aZ,aV,eA];exact((rl5.mono s6).mono s7).app<|.one q7
  rcases ht cl2 C2 fp s2 H2 _ hm with⟨e1,e2⟩|⟨c,e1,q⟩
  ·subst e1;exact aId (fin true H5 F5 e2.symm S5<|Same.refl _)
  ·subst e1;exact aJb<|(q σ5 F5 H5 S5).imp λb H6 ⟨eb,F6,S6,s6⟩=>fin b H6 F6 eb S6 s6
 ·have e:i=ds.length:=by omega
  subst e;refine .inl ⟨g2<|aR _,λD C s' hD hC hDC h0 hL hcc hpp hst ⟨m',ns'⟩ J'=>⟨m',ns',λh' sb=> ?_⟩⟩;have J2:Inv X pins σ (upd H3 D<|.lst ys) {s' with heap:=h',toks:=s'.toks}:=J'.turned (it:=C) (λb o hb g=>sb.extBut b o hb g) (by rw[bD<|Ne.symm hDC];exact hC) hL (.inr h0) hcc hpp;refine⟨.ref D,_,J2,rfl,Fb,λb o g=>Sb.base _ _ (S1.sub _ _<|s1' _ _ g),λb o g=> ?_,λb o g=> ?_,D,ys,rfl,Sb.sub.free hD,bL, ?_,by simp[cC]⟩
  ·have g3:=Sb.sub _ _ g;rw[bD<|cE g3 hD];exact g3
  ·by_cases hb:b=D
   ·subst hb;rw[bL] at g;cases g;trivial
   ·rw[bD hb] at g;exact Sb.smp _ _ g
  ·simpa using rl
end
noncomputable def isT:D->Bool
 |.tup _=>true
 |_=>false
noncomputable def isL:D->Bool
 |.lst _=>true
 |.scr _=>true
 |_=>false
theorem aGm(K:aA)(d:D):lY K (tyD d) (.type "tuple")=some (isT d):=by cases d<;>with_unfolding_all rfl
theorem aIz(K:aA)(d:D):lY K (tyD d) (.type "list")=some (isL d):=by cases d<;>with_unfolding_all rfl
section
variable {X:Cx}{sd:List Slot}{e a b c:Expr}{es:List Expr}{pos:Pos}{r ra rb:R}{d:D}{ds:List D}{st:BN}{rest:List BN}{E:iT}
theorem PEd.cast{r':R}(h:PEd X sd e r)(q:r=r'):PEd X sd e r':=q▸h
theorem dX{k:Bool}{x o:List BN}(h:PTd X sd c k)(hk:k=false)(h2:PSd X sd o E):PSd1 X sd (.If c x o pos) E:=fY h (λe=>by rw[hk] at e;cases e) λ_=>h2
theorem gS{k:Bool}{x o:List BN}(h:PTd X sd c k)(hk:k=true)(h2:PSd X sd x E):PSd1 X sd (.If c x o pos) E:=fY h (λ_=>h2) λe=>by rw[hk] at e;cases e
theorem aFj{d1 d2:List D}(ha:PEd X sd a (.bor d1))(hb:PEd X sd b (.bor d2))(hl:d1.length+d2.length<=1000):PEd X sd (.BinOp a .Add b pos) (.own<|d1++d2):=
 aBR aPH ha hb trivial λσ F H v u Q S q1 q2 k=>by obtain⟨l,xs,e1,h1,r1,_⟩:=q1;obtain⟨m,ys,e2,h2,r2,_⟩:=q2;refine⟨l,m,xs,ys,e1,e2,h1,h2,by rw[r1.len,r2.len];exact dL<|eG hl,λp hp=> ?_⟩;obtain⟨S2,fp,no⟩:=S.layO (xs:=xs++ys) hp;exact k _ F _ S2 (Same.refl _) ⟨p,_,rfl,fp,bL,r1.app r2,no⟩
theorem aAY{i:Int}(ha:PEd X sd a (.bor ds))(hb:PEd X sd b (.val<|.int i))(h0:0<=i)(hd:ds[i.toNat]? =some d)(hs:nQ b):PEd X sd (.Subscript a b pos) (.val d):=by
 have e:i=(i.toNat:Int):=by omega
 rw[e] at hb;exact jK ha hb hd hs
theorem lG{i:Int}(ha:PEd X sd a (.val<|.tup ds))(hb:PEd X sd b (.val<|.int i))(h0:0<=i)(hd:ds[i.toNat]? =some d)(hs:nQ b):PEd X sd (.Subscript a b pos) (.val d):=by
 have e:i=(i.toNat:Int):=by omega
 rw[e] at hb;exact oZ ha hb hd hs
end
theorem wH{i:Int}(h:i.natAbs<2^250):Builtin.Int.intBits i<=2^20:=by
 unfold Builtin.Int.intBits
 split
 ·exact cD _
 ·rename_i hz
  have hne:i.natAbs≠0:=by
   intro z;apply hz;have:i=0:=by omega
   subst this;rfl
  have:=(Nat.log2_lt hne).mpr h;have e:(250:Nat)+1<=2^20:=by decide
  omega
theorem lJ{i j:Int}(h1:i.natAbs<2^250)(h2:j.natAbs<2^250):IntMulOk i j:=.of_bits (wH h1)<|wH h2
noncomputable def most:Int:=1000*10^64
noncomputable def bU:List (Int×Int):=[(2,2),(1,1),(1,2),(2,1),(1,3),(3,1),(2,3),(3,2),(1,4),(4,1),(1,5),(5,1),(1,6),(6,1)]
noncomputable def bW(p:Int×Int):D:=.tup [.int p.1,.int p.2]
def aQg:List D->R->Prop:=λds r=>∃ns:List Int,ds=[.scr ns]/\ns.length<=63/\r=.val (.bl true)
theorem sE{ns:List Int}{k:Nat}{d:D}(h:(ns.map D.int)[k]? =some d):k<ns.length/\d=.int (ns.getD k 0):=by
 rw[aY] at h;cases e:ns[k]? with
 |none=>rw[e] at h;cases h
 |some z=>rw[e] at h;refine⟨(aI.mp e).1, ?_⟩;rw[<-bY.inj h,bF,e];rfl
theorem aPa{X:Cx}{i j:Int}{a1 a2 b1:Nat}{p1 p2 p3:Pos}(h1:AC [Expr.Constant (.int i) a1 p1,Expr.Constant (.int j) a2 p2] X.env=(false,eval (Expr.Constant (.int i) a1 p1) X.env)::AC [Expr.Constant (.int j) a2 p2] X.env)
  (h2:AC [Expr.Constant (.int j) a2 p2] X.env=(false,eval (Expr.Constant (.int j) a2 p2) X.env)::AC [] X.env):PEd X sd (.Tuple [.Constant (.int i) a1 p1, .Constant (.int j) a2 p2] b1 p3) (.val<|bW (i,j)):=
 aBH (ds:=[.int i,.int j]) (aC bV (aC bV aM trivial h2) trivial h1) (iS rfl)
theorem getD_mem{α:Type}{l:List α}{i:Nat}{d:α}(h:i<l.length):l.getD i d∈l:=by
 have e:l.getD i d=l[i]:=by simp[bF,h]
 rw[e];exact fP h
theorem aHQ(h:aQb H):Smp H:=λb o e=>by
 rcases h b with z|⟨o',xs,z⟩
 ·rw[z] at e;cases e
 ·rw[z] at e;cases e;trivial
theorem walkD{l:PySem.W.OpenLaw}{k:Nat}{x:Str}{q:AD}{loose:List Str}{XP:(Str->Option BH)->BL->Prop}{YP:AI->BL->Prop}{d:DefRec}{K:Params->aA}(hn:l.most=some 63)(hdf:d.params.defaults=[])
  (hr:Room k callerA) (hY:∀ (w:AI) (h:BL),YP w h->(K w.params).In h)
  (F:∀ (w:AI) (mg:Str→Option BH) (fa:BJ) (h:BL),(K w.params).In h→h.Ns AN mg→mg d.name=some (.ref fa)→
   ∃fd:AL,(∀ (s:BI) (u:BH),BindsTo s fd ⟨[u],[]⟩ [(x,u)])/\∀base:BL,(K w.params).In base->base.Ns AN mg->FnOk l.prog w (K w.params) mg base CX0 k fa fd [x] (spC (K w.params) 1 aQg)):
  PySem.W.WalkO q loose XP YP l.row.toRowW d [] (λf vs=>PySem.call f vs):=
 L2.walk_of (n:=63) (k:=k) (x:=x) (CX:=λ_=>CX0) (sp:=λw=>spC (K w.params) 1 aQg) hn (by decide) hdf hr hY F
  (λw H a ns hl ho hS=>⟨rfl,aHQ ho,[.scr ns],.val<|.bl true,.one (by simp only[Rep];exact⟨a,rfl,hS⟩),⟨ns,rfl,hl,rfl⟩,λv H' ⟨F,_,_,_,res⟩=>by simpa only[ResOk,Rep] using res⟩) λ_ _ _ _ _ z=>z
variable {X:Cx}{pins:List (BJ×BM)}{s:BI}{sts:List BN}
noncomputable abbrev reB(X:Cx)(B:Hp)(h:∀b o,X.H₀ b=some o->rA o->B b=some o):Cx:={X with B₀:=B,hB:=h}
theorem aMR{B:Hp}{hb:∀b o,X.H₀ b=some o->rA o->B b=some o}(I:Inv X pins σ H s):Inv (reB X B hb) pins σ H s:=
 ⟨⟨I.ok.mod,I.ok.kind,I.ok.glob,I.ok.blt,I.ok.above,I.ok.inj,I.ok.has,I.ok.cab,I.ok.hd,I.ok.frames,I.ok.stk,I.ok.exf,I.ok.bs,I.ok.bsz,I.ok.noex,I.ok.exfs,I.ok.funs,I.ok.frf⟩,I.os,I.bare,I.base,I.loc,I.cell,I.free,I.freeC,I.pin,I.hok,I.len⟩
theorem vR{B:Hp}{hb:∀b o,X.H₀ b=some o->rA o->B b=some o}(I:Inv (reB X B hb) pins σ H s):Inv X pins σ H s:=
 ⟨⟨I.ok.mod,I.ok.kind,I.ok.glob,I.ok.blt,I.ok.above,I.ok.inj,I.ok.has,I.ok.cab,I.ok.hd,I.ok.frames,I.ok.stk,I.ok.exf,I.ok.bs,I.ok.bsz,I.ok.noex,I.ok.exfs,I.ok.funs,I.ok.frf⟩,I.os,I.bare,I.base,I.loc,I.cell,I.free,I.freeC,I.pin,I.hok,I.len⟩
theorem aFd{B:Hp}{hb:∀b o,X.H₀ b=some o->rA o->B b=some o}{D:vB}(h:wSs (reB X B hb) sts D σ H):wSs X sts D σ H:=λpins s I=>thn (h pins s<|aMR I) λf s' q=>by
 cases f with
 |next=>obtain⟨σ',H',I',q⟩:=q;exact⟨σ',H',vR I',q⟩
 |brk=>obtain⟨σ',H',I',q⟩:=q;exact⟨σ',H',vR I',q⟩
 |cont=>obtain⟨σ',H',I',q⟩:=q;exact⟨σ',H',vR I',q⟩
 |ret u=>obtain⟨v,σ',H',I',r,q⟩:=q;exact⟨v,σ',H',vR I',r,q⟩
structure Lent(K:aA) where
 α:Type
 ad:α->BJ
 own:α->List BJ
 G:α->V->Hp->Hp->Prop
 hv:∀ {a:α}{v:V}{F H:Hp},G a v F H->v=.ref (ad a)
noncomputable def Lent.sl{K:aA}(Z:Lent K)(a:Z.α):Slot:=.ox (Z.own a)<|Z.G a
variable (Z:Lent K)
noncomputable def spL(n:Nat)(C:Z.α->List D->(Z.α->Prop)->Prop):Sp:=λvs H Q _=>vs.length=n/\∃ (v:V) (us:List V) (F:Hp) (a:Z.α) (ds:List D) (post:Z.α->Prop),vs=v::us/\Same F H/\(∀b,b∉Z.own a->H b=F b)/\Smp H/\eW K F H (Z.sl a) (some v)/\(Z.own a).Nodup/\RepL K F ds us/\C a ds post/\(∀a',post a'->Z.ad a'=Z.ad a)/\
 ∀H',(∃F' a',post a'/\Same F F'/\Same F' H'/\Smp H'/\eW K F' H' (Z.sl a') (some v)/\(Z.own a').Nodup)->Q .non H'
noncomputable def spM(n:Nat)(C:Z.α->List D->(Z.α->Prop)->Prop):Sp:=λvs H Q _=>vs.length=n/\Smp H/\∃ (v:V) (us:List V) (F:Hp) (a:Z.α) (ds:List D) (post:Z.α->Prop),vs=v::us/\Same F H/\eW K F H (Z.sl a) (some v)/\(Z.own a).Nodup/\RepL K F ds us/\C a ds post/\(∀a',post a'->Z.ad a'=Z.ad a)/\
 ∀F' H' a',post a'->Same F F'->Same F' H'->Smp H'->eW K F' H' (Z.sl a') (some v)->(Z.own a').Nodup->(∀b o,b∉Z.own a->H b=some o->H' b=some o)->(∀b o,b∉Z.own a->H b=some o->F b=none->F' b=none/\b∉Z.own a')->Q .non H'
open Classical in
noncomputable def oO(as:List BJ)(F H:Hp):Hp:=λb=>if b∈as then H b else F b
open Classical in
noncomputable def iD(as:List BJ)(F H:Hp):Hp:=λb=>if b∈as then F b else rZ F H b
theorem gT{as:List BJ}:Same F (iD as F H):=λb o e=>by
 unfold iD
 by_cases h:b∈as
 ·rw[if_pos h];exact e
 ·rw[if_neg h];exact sZ _ _ e
theorem kU{as:List BJ}{b:BJ}(hb:b∉as)(h:F b=none):iD as F H b=H b:=by unfold iD;rw[if_neg hb];exact sT h
theorem pM{as:List BJ}{b:BJ}(hb:b∈as):oO as F H b=H b:=by unfold oO;rw[if_pos hb]
theorem kQ{as:List BJ}{b:BJ}(hb:b∉as):oO as F H b=F b:=by unfold oO;rw[if_neg hb]
theorem FnOk.framedL{P:AD}{w:AI}{Z:Lent K}{mg:Str->Option BH}{base:BL}{k n:Nat}{f:BJ}{fd:AL}{ps:List Str}{C:Z.α->List D->(Z.α->Prop)->Prop}(G:FnOk P w K mg base CX0 k f fd ps (spL Z n C)):FnOk P w K mg base CX0 k f fd ps (spM Z n C):=by
 have res:∀ {F H:Hp}{a:Z.α}{v:V},Same F H->eW K F H (Z.sl a) (some v)->Same F (oO (Z.own a) F H)/\Same (oO (Z.own a) F H) H/\eW K F (oO (Z.own a) F H) (Z.sl a) (some v):=λ{F H a v} sF so=>by
  obtain⟨v',ev,ow,gg⟩:=so;refine⟨λb o e=> ?_,λb o e=> ?_,v',ev,λb hb=>⟨(ow b hb).1, ?_⟩,λF' H' s k=>gg F' H' s λb hb ob e=>k b hb ob<|by rw[pM hb];exact e⟩
  ·by_cases h:b∈Z.own a
   ·rw[(ow b h).1] at e;cases e
   ·rw[kQ h];exact e
  ·by_cases h:b∈Z.own a
   ·rw[pM h] at e;exact e
   ·rw[kQ h] at e;exact sF b o e
  ·rw[pM hb];exact(ow b hb).2
 refine⟨λvs H Q E h=> ?_,λA outer s H args us vs Q E hr e0 hb rv h=> ?_⟩
 ·obtain⟨hl,sm,v,us,F,a,ds,post,e,sF,so,nd,rl,c,hp,_⟩:=h;obtain⟨q1,q2,q3⟩:=res sF so;exact G.len vs (oO (Z.own a) F H) (λ_ _=>True) E ⟨hl,v,us,F,a,ds,post,e,q1,λb hb=>kQ hb,sm.sub q2,q3,nd,rl,c,hp,λ_ _=>trivial⟩
 ·obtain⟨hl,sm,v,us',F,a,ds,post,ev,sF,so,nd,rl,c,hp,q⟩:=h;obtain⟨q1,sU,q3⟩:=res sF so;obtain⟨_,_,ow,_⟩:=id so;have nU:∀b,b∉Z.own a->F b=none->oO (Z.own a) F H b=none:=λb hbl n=>by rw[kQ hbl];exact n
  have e1:Env0 P w K mg base A outer s (oO (Z.own a) F H):=⟨e0.frames,e0.mod,λb o e=>⟨(e0.bs b o e).1,sU.free (e0.bs b o e).2⟩,e0.bsz,e0.funs,λb hb=>sU.free<|e0.frf b hb,λb o e=>(e0.hok b o<|sU b o e).smp (sm b o<|sU b o e),e0.bare⟩;refine Ah (G.run A outer s (oO (Z.own a) F H) args us vs (λv3 F3=>v3=.non/\∃F' a',post a'/\Same F F'/\Same F' F3/\Smp F3/\eW K F' F3 (Z.sl a') (some v)/\(Z.own a').Nodup) E hr e1 hb rv ⟨hl,v,us',F,a,ds,post,ev,q1,λb hb=>kQ hb,sm.sub sU,q3,nd,rl,c,hp,λH' z=>⟨rfl,z⟩⟩) λrr s' hrr=> ?_
  cases rr with
  |error e=>exact hrr
  |ok flw=>
   cases flw with
   |ret u=>
    obtain⟨v3,F3,ho,ha,un,hk,ru,e3,F2,a',pa,s1,s2,sm3,so3,nd3⟩:=hrr;subst e3
    have keepF:∀b o,b∉Z.own a->H b=some o->F b=none->F3 b=none:=λb o hbl e n=>by
     have lt:=e0.hok.lt e;cases g:s.heap.get? b with
     |none=>
      exfalso;have ob:=e0.hok b o e;have z:=sm b o e;cases o with
      |lst xs=>obtain⟨_,_,_,_,g'⟩:=ob;rw[g] at g';cases g'
      |tup xs=>obtain⟨_,_,_,oo,g',_⟩:=ob;rw[g] at g';cases g'
      |dK kvs=>obtain⟨_,_,_,_,oo,_,_,g',_⟩:=ob;rw[g] at g';cases g'
      |frz o2 u2=>obtain⟨g',_⟩:=ob;rw[g] at g';cases g'
      |ext φ=>obtain⟨_,⟨oo,g'⟩,_⟩:=ob;rw[g] at g';cases g'
      |_=>exact z
     |some ob=>exact un.free b ob g (nU b hbl n)<|by simp
    have keepO:∀b o,b∉Z.own a->H b=some o->F b=none->∀ob,s.heap.get? b=some ob->s'.heap.get? b=some ob:=λb o hbl e n ob g=>un.keep b ob g (nU b hbl n) (λhb=>by have:=e0.frf b hb;rw[e] at this;cases this)<|by simp
    have sH:∀b o,b∉Z.own a->H b=some o->iD (Z.own a) F3 H b=some o:=λb o hbl e=>by
     cases g:F b with
     |none=>rw[kU hbl<|keepF b o hbl e g];exact e
     |some o'=>have:=sF b o' g;rw[e] at this;cases this;exact gT _ _ (s2 _ _<|s1 _ _ g)
    have nl:∀ {b:BJ}{o:HO},H b=some o->¬ Wr b o->b∉Z.own a:=λe no z=>by obtain⟨_,ob,g,wr⟩:=ow _ z;rw[e] at g;cases g;exact no wr
    have nn:∀ {b:BJ},H b=none->b∉Z.own a:=λe z=>by obtain⟨_,ob,g,_⟩:=ow _ z;rw[e] at g;cases g
    have smM:Smp (iD (Z.own a) F3 H):=λb o e=>by
     by_cases hbl:b∈Z.own a
     ·unfold iD at e;rw[if_pos hbl] at e;exact sm3 _ o e
     ·cases g:F3 b with
      |some o'=>have:=gT (as:=Z.own a) (H:=H) b o' g;rw[e] at this;cases this;exact sm3 b o g
      |none=>rw[kU hbl g] at e;exact sm b o e
    have soM:eW K F2 (iD (Z.own a) F3 H) (Z.sl a') (some v):=by obtain⟨v',ev,ow3,gg⟩:=so3;refine⟨v',ev,λb hb=>⟨(ow3 b hb).1, ?_⟩,λF' H' s k=>gg F' H' s λb hb ob e=>k b hb ob<|gT _ _ e⟩;obtain⟨_,ob,g,wr⟩:=ow3 b hb;exact⟨ob,gT _ _ g,wr⟩
    refine⟨.non,iD (Z.own a) F3 H,ho,ha,⟨λb o g n hb hx=>un.keep b o g (sU.free n) hb hx,λb o g n hb hx=>un.slot b o g (sU.free n) hb hx,λb o g n hx=> ?_,un.there,λb xs e=>sH _ _ (nl e λz=>z) e,λb o u e=>sH _ _ (nl e λz=>z) e,λb ps e=>⟨#[],by rw[sH _ _ (nl e λz=>z) e];simp⟩⟩,λb o e=> ?_,ru, ?_⟩
    ·rw[kU (nn n)<|un.free b o g (sU.free n) hx];exact n
    ·have z:=smM b o e
     by_cases hbl:b∈Z.own a
     ·have e':F3 b=some o:=by unfold iD at e;rw[if_pos hbl] at e;exact e
      exact(hk b o e').smp z
     ·cases g:F3 b with
      |some o'=>have:=gT (as:=Z.own a) (H:=H) b o' g;rw[e] at this;cases this;exact(hk b o g).smp z
      |none=>
       rw[kU hbl g] at e
       have n:F b=none:=by
        cases g2:F b with
        |none=>rfl
        |some o2=>rw[s2 _ _<|s1 _ _ g2] at g;cases g
       have st:=(e0.hok b o e).smp (F:=λ_=>none) z
       have:ObjOk P w (fun _=>none) s'.heap b o:=st.stay (fun b2 u hb2 gg=>by
        rcases hb2 with rfl|hb2
        ·exact keepO _ o hbl e n u gg
        ·cases hb2) (λb2 hb2=>nomatch hb2) λb2 xs hb2=>nomatch hb2
       exact this.smp z
    ·refine q F2 (iD (Z.own a) F3 H) a' pa s1 (s2.trans gT) smM soM nd3 sH λb o hbl e n=> ?_
     have n3:=keepF b o hbl e n;refine⟨s2.free n3,λhb=> ?_⟩;obtain⟨_,_,ow3,_⟩:=so3;obtain⟨_,ob,g,_⟩:=ow3 b hb;rw[n3] at g;cases g
   |_=>exact hrr
theorem iL:∀ {sd:List Slot}{i:Nat}{z:Slot},(cC sd).Nodup->sd[i]? =some z->(fS z).Nodup
 |[],_,_,_,e=>by simp at e
 |y::zs,0,z,h,e=>by
  have:y=z:=by simpa using e
  subst this;exact(bJ.mp (show(fS y++cC zs).Nodup from h)).1
 |y::zs,i+1,z,h,e=>iL (sd:=zs) (i:=i) (bJ.mp (show(fS y++cC zs).Nodup from h)).2.1 (by simpa using e)
structure vM(P:AD)(w:AI)(K:aA)(Z:Lent K)(mg:Str->Option BH)(base:BL)(x:Str)(k n:Nat)(C:Z.α->List D->(Z.α->Prop)->Prop):Prop where
 ex:∃ (f:BJ) (fd:AL) (ps:List Str),mg x=some (.ref f)/\cU K (.ref f)=true/\Binds K fd ps []/\FnOk P w K mg base CX0 k f fd ps (spL Z n C)
noncomputable def nR{K:aA}(Z:Lent K)(n:Nat)(a:Z.α)(ds:List D):List Slot:=Z.sl a::(ds.map Slot.val++fF (n-(ds.length+1)) .un)
theorem aLD{P:AD}{w:AI}{Z:Lent K}{mg:Str->Option BH}{base:BL}{x qual:Str}{st:BN}{f:BJ}{fd:AL}{N ps:List Str}{k:Nat}{C:Z.α->List D->(Z.α->Prop)->Prop}(F:Fun K x qual st f fd)(S:kR N ps (bK st))
  (hm:mg x=some (.ref f)) (hb:∀ (kV doc pm:BH) (an:Option BJ) (cdv ct:BH) (us:List BH),us.length=ps.length->bindArgs (cV x qual (fT st) (dY st) (bK st) .none kV doc pm an cdv ct) ⟨us,[]⟩=pure (ps.zip us))
  (body:∀ (cdv:BH) (A:BK) (outer:List Env) (s:BI) (H:Hp) (E:XK) (B:Hp) (hB:∀b o,H b=some o→rA o→B b=some o),Room k (A.deeper (envOfC qual (bK st) s.heap.objs.size f cdv))→∀a ds post,ds.length+1=ps.length→C a ds post→
   PSd (reB (qG CX0 P w K mg base N qual (bK st) f cdv A outer s H E).nox B hB) (nR Z N.length a ds) (dY st) {nx:=λsd'=>∃a',post a'/\sd'[0]? =some (Z.sl a'),rt:=λ_=>False})
  (hw:∀ (a:Z.α) (v:V) (F H:Hp) (b:BJ) (o:HO),Z.G a v F H->b∈Z.own a->H b=some o->¬ rA o):vM P w K Z mg base x (k+1) ps.length C:=by
 refine⟨f,fd,ps,hm,F.kp,F.binds hb,F.ok S (λvs H Q E h=>h.1) λcdv A outer s H vs Q E hr h=> ?_⟩;obtain⟨hl,v,us,F0,a,ds,post,rfl,sF,hH,sm,so,nd,rl,c,hp,q⟩:=h;have hds:ds.length+1=ps.length:=by rw[<-rl.len];exact hl
 have hB:∀b o,H b=some o->rA o->F0 b=some o:=λb o e no=>by
  by_cases hbl:b∈Z.own a
  ·obtain⟨_,_,_,gg⟩:=so;exact absurd no<|hw a _ F0 H b o (gg F0 H (Same.refl _) λ_ _ _ e=>e) hbl e
  ·rw[<-hH b hbl];exact e
 refine⟨_,pss_w,aFd (B:=F0) (hb:=hB) ?_⟩;have hlen:N.length-(us.length+1)=N.length-(ds.length+1):=by rw[rl.len]
 have S0:StF K F0 F0 H (L2.start N (v::us)) (nR Z N.length a ds):=by
  refine⟨Same.refl _,sF,sm, ?_, ?_⟩
  ·unfold L2.start nR;show SlotsOk K F0 _ (_::_) (some v::(us.map some++fF (N.length-(us.length+1)) none));rw[hlen];exact⟨_,_,rfl,so,lU (m:=0) rl⟩
  ·unfold nR;rw[nX,lP,cH];exact nd
 refine(body cdv A outer s _ E F0 hB hr a ds post hds c (L2.start N (v::us)) F0 _ S0).imp ?_ ?_ (λ_ _ ⟨_,_,_,_,z⟩=>z) λ_ _ ⟨_,_,_,_,z⟩=>z
 ·rintro σ' H' ⟨sd',F',S',s',a',pa,hs⟩;obtain⟨o,h1,so'⟩:=S'.slots.get hs;obtain⟨v',rfl,ow',gg⟩:=so';have e1:=Z.hv<|gg F' H' (Same.refl _) λ_ _ _ e=>e;obtain⟨v0,ev,_,g0⟩:=so;cases ev;have e0:=Z.hv<|g0 F0 H (Same.refl _) λ_ _ _ e=>e;have evv:v'=v:=by rw[e1,e0,hp a' pa]
  subst evv;refine q H' ⟨F',a',pa,S'.base,S'.sub,S'.smp,⟨v',rfl,ow',gg⟩, ?_⟩;have nd':=S'.nd;exact iL nd' hs
 ·rintro v' H' ⟨r',ro,e⟩;exact e.elim
mutual
noncomputable def deq:D->D->Bool
 |.non,.non=>true
 |.bl a,.bl b=>a==b
 |.bl a,.int b=>(if a then 1 else 0)==b
 |.int a,.bl b=>a==(if b then 1 else 0)
 |.int a,.int b=>a==b
 |.str a,.str b=>a==b
 |.tup a,.tup b=>mD a b
 |.lst a,.lst b=>mD a b
 |_,_=>false
noncomputable def mD:List D->List D->Bool
 |[],[]=>true
 |x::xs,y::ys=>deq x y&&mD xs ys
 |_,_=>false
end
mutual
noncomputable def pl:D->Bool
 |.dic=>false
 |.dki _ _=>false
 |.any _=>false
 |.scr _=>false
 |.tup ds=>plL ds
 |.lst ds=>plL ds
 |_=>true
noncomputable def plL:List D->Bool
 |[]=>true
 |d::ds=>pl d&&plL ds
end
mutual
noncomputable def dep:D->Nat
 |.tup ds=>jZ ds+1
 |.lst ds=>jZ ds+1
 |_=>0
noncomputable def jZ:List D->Nat
 |[]=>0
 |d::ds=>max (dep d)<|jZ ds
end
theorem aAN:∀ {ds:List D}{i:Nat}{d:D},plL ds=true->ds[i]? =some d->pl d=true
 |[],i,d,_,e=>by simp at e
 |d'::ds,i,d,h,e=>by
  simp only[plL,bR] at h;cases i with
  |zero=>simp at e;subst e;exact h.1
  |succ i=>exact aAN h.2 (by simpa using e)
theorem xR:∀ {ds:List D}{i:Nat}{d:D},ds[i]? =some d->dep d<=jZ ds
 |[],i,d,e=>by simp at e
 |d'::ds,i,d,e=>by
  simp only[jZ];cases i with
  |zero=>simp at e;subst e;exact Nat.le_max_left _ _
  |succ i=>exact bZ (xR (i:=i)<|by simpa using e)<|Nat.le_max_right _ _
theorem deqL_iff:∀ {xs ys:List D},mD xs ys=true↔xs.length=ys.length/\∀ (j:Nat) (x y:D),xs[j]? =some x->ys[j]? =some y->deq x y=true
 |[],[]=>by simp[mD]
 |[],y::ys=>by simp[mD]
 |x::xs,[]=>by simp[mD]
 |x::xs,y::ys=>by
  simp only[mD,bR,bP,deqL_iff (xs:=xs) (ys:=ys)]
  constructor
  ·rintro⟨h1,h2,h3⟩;refine⟨by omega,λj a b ea eb=> ?_⟩;cases j with
   |zero=>simp at ea eb;subst ea eb;exact h1
   |succ j=>exact h3 j a b (by simpa using ea) (by simpa using eb)
  ·rintro⟨h1,h2⟩;exact⟨h2 0 x y rfl rfl,by omega,λj a b ea eb=>h2 (j+1) a b (by simpa using ea)<|by simpa using eb⟩
mutual
theorem yQ{K:aA}{H:Hp}:∀ {d1 d2:D}{v:V},pl d1=true->Rep K H d1 v->Rep K H d2 v->pl d2=true->deq d1 d2=true
 |.non,d2,v,_,r1,r2,_=>by simp only[Rep] at r1;subst r1;cases d2<;>simp_all[Rep,deq]
 |.bl b,d2,v,_,r1,r2,_=>by simp only[Rep] at r1;subst r1;cases d2<;>simp_all[Rep,deq]
 |.int b,d2,v,_,r1,r2,_=>by simp only[Rep] at r1;subst r1;cases d2<;>simp_all[Rep,deq]
 |.str b,d2,v,_,r1,r2,_=>by simp only[Rep] at r1;subst r1;cases d2<;>simp_all[Rep,deq]
 |.dic,_,_,h,_,_,_=>by simp[pl] at h
 |.dki _ _,_,_,h,_,_,_=>by simp[pl] at h
 |.any _,_,_,h,_,_,_=>by simp[pl] at h
 |.scr _,_,_,h,_,_,_=>by simp[pl] at h
 |.tup ds,d2,v,p1,r1,r2,p2=>by
  simp only[Rep] at r1;obtain⟨a,xs,rfl,ha,rl⟩:=r1;cases d2 with
  |tup es=>simp only[Rep] at r2;obtain⟨a',xs',e,ha',rl'⟩:=r2;cases e;rw[ha] at ha';cases ha';simp only[deq];exact tU (by simpa[pl] using p1) rl rl' (by simpa[pl] using p2)
  |lst es=>simp only[Rep] at r2;obtain⟨a',xs',e,ha',rl'⟩:=r2;cases e;rw[ha] at ha';cases ha'
  |dic=>simp[pl] at p2
  |dki=>simp[pl] at p2
  |any=>simp[pl] at p2
  |scr=>simp[pl] at p2
  |_=>simp[Rep] at r2
 |.lst ds,d2,v,p1,r1,r2,p2=>by
  simp only[Rep] at r1;obtain⟨a,xs,rfl,ha,rl⟩:=r1;cases d2 with
  |lst es=>simp only[Rep] at r2;obtain⟨a',xs',e,ha',rl'⟩:=r2;cases e;rw[ha] at ha';cases ha';simp only[deq];exact tU (by simpa[pl] using p1) rl rl' (by simpa[pl] using p2)
  |tup es=>simp only[Rep] at r2;obtain⟨a',xs',e,ha',rl'⟩:=r2;cases e;rw[ha] at ha';cases ha'
  |dic=>simp[pl] at p2
  |dki=>simp[pl] at p2
  |any=>simp[pl] at p2
  |scr=>simp[pl] at p2
  |_=>simp[Rep] at r2
theorem tU{K:aA}{H:Hp}:∀ {ds es:List D}{xs:List V},plL ds=true->RepL K H ds xs->RepL K H es xs->plL es=true->mD ds es=true
 |[],es,xs,_,r1,r2,_=>by
  simp only[RepL] at r1;subst r1;cases es with
  |nil=>rfl
  |cons e es=>obtain⟨y,ys,z,_⟩:=r2.uncons;cases z
 |d::ds,es,xs,p1,r1,r2,p2=>by
  obtain⟨y,ys,rfl,a,rl⟩:=r1.uncons;cases es with
  |nil=>simp only[RepL] at r2;cases r2
  |cons e es=>obtain⟨y',ys',z,a',rl'⟩:=r2.uncons;cases z;simp only[plL,bR] at p1 p2;simp only[mD,bR];exact⟨yQ p1.1 a a' p2.1,tU p1.2 rl rl' p2.2⟩
end
noncomputable def sN:D->Bool
 |.non=>true
 |.bl _=>true
 |.int _=>true
 |.str _=>true
 |_=>false
theorem vV{d:D}(h:sN d=true)(r:Rep K H d v):oJ v=true/\flt d=some v:=by cases d<;>simp_all[sN,Rep,oJ,flt]
variable {P:AD}{w:AI}
theorem iC(hok:HOk P w H s.heap){ds:List D}{u:BH}(r:Rep K H (.tup ds) v)(ru:RelV v u):∃a xs its,u=.ref a/\v=.ref a/\RepL K H ds xs/\Vals xs its/\s.heap.IsTuple a its.toArray:=by simp only[Rep] at r;obtain⟨a,xs,rfl,ha,rl⟩:=r;cases ru;obtain⟨_,its,rv,p⟩:=(show ObjOk P w H s.heap a (.tup xs) from hok a _ ha);exact⟨a,xs,its,rfl,rfl,rl,rv,p.tup⟩
theorem lB(hok:HOk P w H s.heap){ds:List D}{u:BH}(r:Rep K H (.lst ds) v)(ru:RelV v u):∃a xs its,u=.ref a/\v=.ref a/\RepL K H ds xs/\Vals xs its/\s.heap.IsList a its.toArray:=by simp only[Rep] at r;obtain⟨a,xs,rfl,ha,rl⟩:=r;cases ru;obtain⟨_,its,n,rv,p⟩:=(show ObjOk P w H s.heap a (.lst xs) from hok a _ ha);exact⟨a,xs,its,rfl,rfl,rl,rv,_,p,rfl,n,rfl⟩
noncomputable def dAt(ds es:List D)(j:Nat):Bool:=match ds[j]?,es[j]? with
 |some x,some y=>deq x y
 |_,_=>false
theorem sD(ds es:List D):((aW<|min ds.length es.length).all (dAt ds es)&&ds.length==es.length)=mD ds es:=by
 rw[gM,deqL_iff,bR,cW,beq_iff_eq]
 constructor
 ·rintro⟨h1,h2⟩;refine⟨h2,λj x y ex ey=> ?_⟩;have hj:j<ds.length:=(aI.mp ex).1;have:=h1 j (bE.mpr<|by omega);unfold dAt at this;rw[ex,ey] at this;exact this
 ·rintro⟨h1,h2⟩;refine⟨λj hj=> ?_,h1⟩;have hj':=bE.mp hj;have e1:ds[j]? =some (ds[j]'(by omega)):=by simp
  have e2:es[j]? =some (es[j]'(by omega)):=by simp
  unfold dAt;rw[e1,e2];exact h2 j _ _ e1 e2
theorem uL{ds es:List D}(h:ds.length=es.length):(aW ds.length).all (dAt ds es)=mD ds es:=by have:=sD ds es;rw[h] at this ⊢;simpa using this
theorem xZ{ds es:List D}(h:ds.length≠es.length):mD ds es=false:=by
 cases e:mD ds es with
 |false=>rfl
 |true=>exact absurd (deqL_iff.mp e).1 h
mutual
theorem aBW(hok:HOk P w H s.heap):∀ (d1:D) {d2:D}{v1 v2:V}{u1 u2:BH}{A:BK},pl d1=true->pl d2=true->Rep K H d1 v1->Rep K H d2 v2->RelV v1 u1->RelV v2 u2->A.units+dep d1<AM->SeqAt.EqAt A s u1 u2 (deq d1 d2)
 |.tup ds,d2,v1,v2,u1,u2,A,p1,p2,r1,r2,ru1,ru2,hu=>by
  have hu':A.units<AM:=by omega
  obtain⟨a,xs,its,rfl,rfl,rl,rv,ht⟩:=iC hok r1 ru1;cases d2 with
  |non=>simp only[Rep] at r2;subst r2;cases ru2;exact SeqAt.EqAt.tuple_none ht hu'
  |bl b=>simp only[Rep] at r2;subst r2;cases ru2;exact SeqAt.EqAt.tuple_bool b ht hu'
  |int b=>simp only[Rep] at r2;subst r2;obtain⟨t,rfl⟩:=ru2;exact SeqAt.EqAt.tuple_int b t ht hu'
  |str b=>simp only[Rep] at r2;subst r2;obtain⟨t,rfl⟩:=ru2;exact SeqAt.EqAt.tuple_str b t ht hu'
  |dic=>simp[pl] at p2
  |dki=>simp[pl] at p2
  |any=>simp[pl] at p2
  |scr=>simp[pl] at p2
  |lst es=>obtain⟨b,ys,jts,rfl,rfl,rl2,rv2,hl2⟩:=lB hok r2 ru2;exact SeqAt.EqAt.tuple_list ht hl2 hu'
  |tup es=>
   obtain⟨b,ys,jts,rfl,e2,rl2,rv2,ht2⟩:=iC hok r2 ru2
   by_cases hab:a=b
   ·subst hab;have:=yQ p1 r1 (e2▸r2) p2;rw[this];exact SeqAt.EqAt.same _
   ·simp only[deq];rw[<-sD];have l1:its.toArray.size=ds.length:=by rw[aK,<-rv.length,rl.len]
    have l2:jts.toArray.size=es.length:=by rw[aK,<-rv2.length,rl2.len]
    rw[<-l1,<-l2];simp only[pl] at p1 p2;simp only[dep] at hu;refine .of_refs hab<|.tuples ht ht2 hu' λj h1 h2=> ?_;exact qO hok ds p1 p2 rl rl2 rv rv2 (A:=A.in1) (by show A.units+1+_<AM;omega) (by simp)<|by simp
 |.lst ds,d2,v1,v2,u1,u2,A,p1,p2,r1,r2,ru1,ru2,hu=>by
  have hu':A.units<AM:=by omega
  obtain⟨a,xs,its,rfl,rfl,rl,rv,ht⟩:=lB hok r1 ru1;cases d2 with
  |non=>simp only[Rep] at r2;subst r2;cases ru2;exact SeqAt.EqAt.list_none ht hu'
  |bl b=>simp only[Rep] at r2;subst r2;cases ru2;exact SeqAt.EqAt.list_bool b ht hu'
  |int b=>simp only[Rep] at r2;subst r2;obtain⟨t,rfl⟩:=ru2;exact SeqAt.EqAt.list_int b t ht hu'
  |str b=>simp only[Rep] at r2;subst r2;obtain⟨t,rfl⟩:=ru2;exact SeqAt.EqAt.list_str b t ht hu'
  |dic=>simp[pl] at p2
  |dki=>simp[pl] at p2
  |any=>simp[pl] at p2
  |scr=>simp[pl] at p2
  |tup es=>obtain⟨b,ys,jts,rfl,rfl,rl2,rv2,hl2⟩:=iC hok r2 ru2;exact SeqAt.EqAt.list_tuple ht hl2 hu'
  |lst es=>
   obtain⟨b,ys,jts,rfl,e2,rl2,rv2,ht2⟩:=lB hok r2 ru2
   by_cases hab:a=b
   ·subst hab;have:=yQ p1 r1 (e2▸r2) p2;rw[this];exact SeqAt.EqAt.same _
   ·simp only[deq];have l1:its.toArray.size=ds.length:=by rw[aK,<-rv.length,rl.len]
    have l2:jts.toArray.size=es.length:=by rw[aK,<-rv2.length,rl2.len]
    simp only[pl] at p1 p2;simp only[dep] at hu
    by_cases hl:ds.length=es.length
    ·rw[<-uL hl,<-l1];refine .of_refs hab<|.lists ht ht2 (by rw[l1,l2,hl]) hu' λj h1 h2=> ?_;exact qO hok ds p1 p2 rl rl2 rv rv2 (A:=A.in1) (by show A.units+1+_<AM;omega) (by simp)<|by simp
    ·rw[xZ hl];exact .of_refs hab<|.lists_lengths ht ht2 (by rw[l1,l2];simpa using hl) hu'
 |.dic,_,_,_,_,_,_,p1,_,_,_,_,_,_=>by simp[pl] at p1
 |.dki _ _,_,_,_,_,_,_,p1,_,_,_,_,_,_=>by simp[pl] at p1
 |.any _,_,_,_,_,_,_,p1,_,_,_,_,_,_=>by simp[pl] at p1
 |.scr _,_,_,_,_,_,_,p1,_,_,_,_,_,_=>by simp[pl] at p1
 |.non,d2,v1,v2,u1,u2,A,p1,p2,r1,r2,ru1,ru2,hu=>by
  have hu':A.units<AM:=by omega
  simp only[Rep] at r1;subst r1;cases hf:sN d2 with
  |true=>obtain⟨h1,h2⟩:=vV hf r2;have:=yL (A:=A) (s:=s) ru1 ru2 rfl h1;cases d2<;>simp_all[sN,flt,Rep,deq,eqV]
  |false=>
   cases ru1;cases d2 with
   |tup es=>obtain⟨b,ys,jts,rfl,e2,rl2,rv2,ht2⟩:=iC hok r2 ru2;exact SeqAt.EqAt.none_tuple ht2 hu'
   |lst es=>obtain⟨b,ys,jts,rfl,e2,rl2,rv2,ht2⟩:=lB hok r2 ru2;exact SeqAt.EqAt.none_list ht2 hu'
   |dic=>simp[pl] at p2
   |dki=>simp[pl] at p2
   |any=>simp[pl] at p2
   |scr=>simp[pl] at p2
   |_=>simp[sN] at hf
 |.bl q,d2,v1,v2,u1,u2,A,p1,p2,r1,r2,ru1,ru2,hu=>by
  have hu':A.units<AM:=by omega
  simp only[Rep] at r1;subst r1;cases hf:sN d2 with
  |true=>obtain⟨h1,h2⟩:=vV hf r2;have:=yL (A:=A) (s:=s) ru1 ru2 rfl h1;cases d2<;>simp_all[sN,flt,Rep,deq,eqV]
  |false=>
   cases ru1;cases d2 with
   |tup es=>obtain⟨b,ys,jts,rfl,e2,rl2,rv2,ht2⟩:=iC hok r2 ru2;exact SeqAt.EqAt.bool_tuple q ht2 hu'
   |lst es=>obtain⟨b,ys,jts,rfl,e2,rl2,rv2,ht2⟩:=lB hok r2 ru2;exact SeqAt.EqAt.bool_list q ht2 hu'
   |dic=>simp[pl] at p2
   |dki=>simp[pl] at p2
   |any=>simp[pl] at p2
   |scr=>simp[pl] at p2
   |_=>simp[sN] at hf
 |.int q,d2,v1,v2,u1,u2,A,p1,p2,r1,r2,ru1,ru2,hu=>by
  have hu':A.units<AM:=by omega
  simp only[Rep] at r1;subst r1;cases hf:sN d2 with
  |true=>obtain⟨h1,h2⟩:=vV hf r2;have:=yL (A:=A) (s:=s) ru1 ru2 rfl h1;cases d2<;>simp_all[sN,flt,Rep,deq,eqV]
  |false=>
   obtain⟨t,rfl⟩:=ru1;cases d2 with
   |tup es=>obtain⟨b,ys,jts,rfl,e2,rl2,rv2,ht2⟩:=iC hok r2 ru2;exact SeqAt.EqAt.int_tuple q t ht2 hu'
   |lst es=>obtain⟨b,ys,jts,rfl,e2,rl2,rv2,ht2⟩:=lB hok r2 ru2;exact SeqAt.EqAt.int_list q t ht2 hu'
   |dic=>simp[pl] at p2
   |dki=>simp[pl] at p2
   |any=>simp[pl] at p2
   |scr=>simp[pl] at p2
   |_=>simp[sN] at hf
 |.str q,d2,v1,v2,u1,u2,A,p1,p2,r1,r2,ru1,ru2,hu=>by
  have hu':A.units<AM:=by omega
  simp only[Rep] at r1;subst r1;cases hf:sN d2 with
  |true=>obtain⟨h1,h2⟩:=vV hf r2;have:=yL (A:=A) (s:=s) ru1 ru2 rfl h1;cases d2<;>simp_all[sN,flt,Rep,deq,eqV]
  |false=>
   obtain⟨t,rfl⟩:=ru1;cases d2 with
   |tup es=>obtain⟨b,ys,jts,rfl,e2,rl2,rv2,ht2⟩:=iC hok r2 ru2;exact SeqAt.EqAt.str_tuple q t ht2 hu'
   |lst es=>obtain⟨b,ys,jts,rfl,e2,rl2,rv2,ht2⟩:=lB hok r2 ru2;exact SeqAt.EqAt.str_list q t ht2 hu'
   |dic=>simp[pl] at p2
   |dki=>simp[pl] at p2
   |any=>simp[pl] at p2
   |scr=>simp[pl] at p2
   |_=>simp[sN] at hf
theorem qO(hok:HOk P w H s.heap):∀ (ds:List D) {es:List D}{xs ys:List V}{its jts:List BH}{j:Nat}{x y:BH}{A:BK},plL ds=true->plL es=true->RepL K H ds xs->RepL K H es ys->Vals xs its->Vals ys jts->A.units+jZ ds<AM->its[j]? =some x->jts[j]? =some y->SeqAt.EqAt A s x y (dAt ds es j)
 |[],es,xs,ys,its,jts,j,x,y,A,_,_,r1,_,v1,_,_,e1,_=>by simp only[RepL] at r1;subst r1;cases v1;simp at e1
 |d::ds,es,xs,ys,its,jts,j,x,y,A,p1,p2,r1,r2,v1,v2,hu,e1,e2=>by
  obtain⟨a,as,rfl,ra,rl⟩:=r1.uncons;cases v1 with
  |cons va vas=>
   cases es with
   |nil=>simp only[RepL] at r2;subst r2;cases v2;simp at e2
   |cons e es=>
    obtain⟨b,bs,rfl,rb,rl2⟩:=r2.uncons;cases v2 with
    |cons vb vbs=>
     simp only[plL,bR] at p1 p2;simp only[jZ] at hu;cases j with
     |zero=>simp at e1 e2;subst e1 e2;exact aBW hok d p1.1 p2.1 ra rb va vb<|by omega
     |succ j=>exact qO hok ds p1.2 p2.2 rl rl2 vas vbs (by omega) (by simpa using e1) (by simpa using e2)
end
section
variable {X:Cx}{sd:List Slot}{e a b c:Expr}{es:List Expr}{pos:Pos}{r ra rb:R}{d:D}{ds:List D}{st:BN}{rest:List BN}{E:iT}
theorem rc_D{pins:List (BJ×BM)}{σ:St}{H:Hp}{s:BI}{K:aA}{d1 d2:D}{v u:V}{x y:BH}{Q:BH->BI->Prop}(I:Inv X pins σ H s)(hs:(isT d1=true/\isT d2=true)\/(isL d1=true/\isL d2=true))(p1:pl d1=true)(p2:pl d2=true)(r1:Rep K H d1 v)(r2:Rep K H d2 u)(rx:RelV v x)(ry:RelV u y)
  (hu:X.A.units+dep d1+1<AM) (q:Q (.bool<|deq d1 d2) s):AE (AF X.prog X.w) X.A (AO .Eq x y) Q X.xe s:=by
 have hu':X.A.units<AM:=by omega
 rcases hs with⟨t1,t2⟩|⟨t1,t2⟩
 ·cases d1<;>first|(simp[isT] at t1;done)|skip
  cases d2<;>first|(simp[isT] at t2;done)|skip
  rename_i ds es;obtain⟨a,xs,its,rfl,rfl,rl,rv,ht⟩:=iC I.hok r1 rx;obtain⟨b,ys,jts,rfl,rfl,rl2,rv2,ht2⟩:=iC I.hok r2 ry;have l1:its.toArray.size=ds.length:=by rw[aK,<-rv.length,rl.len]
  have l2:jts.toArray.size=es.length:=by rw[aK,<-rv2.length,rl2.len]
  simp only[pl] at p1 p2;simp only[dep] at hu;simp only[deq] at q;rw[<-sD,<-l1,<-l2] at q;exact SeqAt.eq_tupleAt ht ht2 hu' (λj h1 h2=>qO I.hok ds p1 p2 rl rl2 rv rv2 (A:=X.A.in1) (by show X.A.units+1+_<AM;omega) (by simp)<|by simp) q
 ·cases d1<;>first|(simp[isL] at t1;done)|(simp[pl] at p1;done)|skip
  cases d2<;>first|(simp[isL] at t2;done)|(simp[pl] at p2;done)|skip
  rename_i ds es;obtain⟨a,xs,its,rfl,rfl,rl,rv,ht⟩:=lB I.hok r1 rx;obtain⟨b,ys,jts,rfl,rfl,rl2,rv2,ht2⟩:=lB I.hok r2 ry;have l1:its.toArray.size=ds.length:=by rw[aK,<-rv.length,rl.len]
  have l2:jts.toArray.size=es.length:=by rw[aK,<-rv2.length,rl2.len]
  simp only[pl] at p1 p2;simp only[dep] at hu;simp only[deq] at q
  by_cases hl:ds.length=es.length
  ·rw[<-uL hl,<-l1] at q;exact SeqAt.eq_listAt ht ht2 (by rw[l1,l2,hl]) hu' (λj h1 h2=>qO I.hok ds p1 p2 rl rl2 rv rv2 (A:=X.A.in1) (by show X.A.units+1+_<AM;omega) (by simp)<|by simp) q
  ·rw[xZ hl] at q;exact SeqAt.eq_list_lengthsAt ht ht2 (by rw[l1,l2];simpa using hl) hu' q
theorem aRA{pins:List (BJ×BM)}{σ:St}{H:Hp}{s:BI}{K:aA}{d1 d2:D}{v u:V}{x y:BH}{Q:BH->BI->Prop}(I:Inv X pins σ H s)(hs:(isT d1=true/\isT d2=true)\/(isL d1=true/\isL d2=true))(p1:pl d1=true)(p2:pl d2=true)(r1:Rep K H d1 v)(r2:Rep K H d2 u)(rx:RelV v x)(ry:RelV u y)
  (hu:X.A.units+dep d1+1<AM) (q:Q (.bool<|!deq d1 d2) s):AE (AF X.prog X.w) X.A (AO .NotEq x y) Q X.xe s:=by
 have hu':X.A.units<AM:=by omega
 rcases hs with⟨t1,t2⟩|⟨t1,t2⟩
 ·cases d1<;>first|(simp[isT] at t1;done)|skip
  cases d2<;>first|(simp[isT] at t2;done)|skip
  rename_i ds es;obtain⟨a,xs,its,rfl,rfl,rl,rv,ht⟩:=iC I.hok r1 rx;obtain⟨b,ys,jts,rfl,rfl,rl2,rv2,ht2⟩:=iC I.hok r2 ry;have l1:its.toArray.size=ds.length:=by rw[aK,<-rv.length,rl.len]
  have l2:jts.toArray.size=es.length:=by rw[aK,<-rv2.length,rl2.len]
  simp only[pl] at p1 p2;simp only[dep] at hu;simp only[deq] at q;rw[<-sD,<-l1,<-l2] at q;exact SeqAt.RcNeAt.tuples ht ht2 hu' (λj h1 h2=>qO I.hok ds p1 p2 rl rl2 rv rv2 (A:=X.A.in1) (by show X.A.units+1+_<AM;omega) (by simp)<|by simp) _ _ _ _ q
 ·cases d1<;>first|(simp[isL] at t1;done)|(simp[pl] at p1;done)|skip
  cases d2<;>first|(simp[isL] at t2;done)|(simp[pl] at p2;done)|skip
  rename_i ds es;obtain⟨a,xs,its,rfl,rfl,rl,rv,ht⟩:=lB I.hok r1 rx;obtain⟨b,ys,jts,rfl,rfl,rl2,rv2,ht2⟩:=lB I.hok r2 ry;have l1:its.toArray.size=ds.length:=by rw[aK,<-rv.length,rl.len]
  have l2:jts.toArray.size=es.length:=by rw[aK,<-rv2.length,rl2.len]
  simp only[pl] at p1 p2;simp only[dep] at hu;simp only[deq] at q
  by_cases hl:ds.length=es.length
  ·rw[<-uL hl,<-l1] at q;exact SeqAt.RcNeAt.lists ht ht2 (by rw[l1,l2,hl]) hu' (λj h1 h2=>qO I.hok ds p1 p2 rl rl2 rv rv2 (A:=X.A.in1) (by show X.A.units+1+_<AM;omega) (by simp)<|by simp) _ _ _ _ q
  ·rw[xZ hl] at q;exact SeqAt.RcNeAt.lists_lengths ht ht2 (by rw[l1,l2];simpa using hl) hu' _ _ _ _ q
theorem ResOk.rep{K:aA}{H₀ F H:Hp}{σ:St}{v:V}(S:StF K H₀ F H σ sd)(hk:r.keeps)(q:ResOk K F H sd r v):Rep K H r.toD v:=by
 cases r with
 |val d=>exact Rep.mono S.sub q
 |own ds=>exact hk.elim
 |pr d ls=>exact hk.elim
 |ox G=>exact hk.elim
 |bor ds=>obtain⟨l,xs,e,hl,rl,_⟩:=q;simp only[R.toD,Rep];exact⟨l,xs,e,hl,rl.mono S.sub⟩
theorem aPu(K:aA)(d1 d2:D)(hs:(isT d1=true/\isT d2=true)\/(isL d1=true/\isL d2=true))(p1:pl d1=true)(p2:pl d2=true)(hu:X.A.units+dep d1+1<AM):OpR X (AO .Eq) (λx y H Q=>Rep K H d1 x/\Rep K H d2 y/\Q (.bl<|deq d1 d2) H):=by intro pins s σ H x y v u Q I rx ry h;obtain⟨h1,h2,q⟩:=h;exact rc_D I hs p1 p2 h1 h2 rx ry hu ⟨.bl<|deq d1 d2,H,I,rfl,q⟩
theorem aJO(K:aA)(d1 d2:D)(hs:(isT d1=true/\isT d2=true)\/(isL d1=true/\isL d2=true))(p1:pl d1=true)(p2:pl d2=true)(hu:X.A.units+dep d1+1<AM):OpR X (AO .NotEq) (λx y H Q=>Rep K H d1 x/\Rep K H d2 y/\Q (.bl<|!deq d1 d2) H):=by intro pins s σ H x y v u Q I rx ry h;obtain⟨h1,h2,q⟩:=h;exact aRA I hs p1 p2 h1 h2 rx ry hu ⟨.bl<|!deq d1 d2,H,I,rfl,q⟩
theorem aPj(ha:PEd X sd a ra)(hb:PEd X sd b rb)(ka:ra.keeps)(kb:rb.keeps)(hs:(isT ra.toD=true/\isT rb.toD=true)\/(isL ra.toD=true/\isL rb.toD=true))(p1:pl ra.toD=true)(p2:pl rb.toD=true)(hu:X.A.units+dep ra.toD+1<AM):PEd X sd (.Compare a [.Eq] [b] pos) (.val (.bl<|deq ra.toD rb.toD)):=
 vW (aPu X.K _ _ hs p1 p2 hu) ha hb ka (iM _) λσ F H v u Q S q1 q2 k=>⟨q1.rep S ka,q2.rep S kb,k F H S<|Same.refl _⟩
theorem aBa(ha:PEd X sd a ra)(hb:PEd X sd b rb)(ka:ra.keeps)(kb:rb.keeps)(hs:(isT ra.toD=true/\isT rb.toD=true)\/(isL ra.toD=true/\isL rb.toD=true))(p1:pl ra.toD=true)(p2:pl rb.toD=true)(hu:X.A.units+dep ra.toD+1<AM):PTd X sd (.Compare a [.NotEq] [b] pos) (!deq ra.toD rb.toD):=
 jW (aJO X.K _ _ hs p1 p2 hu) ha hb ka (iM _) λσ F H v u Q S q1 q2 k=>⟨q1.rep S ka,q2.rep S kb,k F H S<|Same.refl _⟩
noncomputable def aOZ(K:aA):R2:=λx y H Q=>∃a b ys,x=.ref a/\y=.ref b/\SqT K H a []/\SqT K H b ys/\Q (.ref b) H
theorem op_catT0:OpR X (Ag .Add) (aOZ X.K):=by
 intro pins s σ H x y v u Q I rx ry h;obtain⟨a,b,ys,rfl,rfl,ha,hb,q⟩:=h;cases rx;cases ry;obtain⟨its,r1,p1,_⟩:=I.tuple ha;obtain⟨its2,r2,p2,_⟩:=I.tuple hb;cases r1;obtain⟨⟨cls,dd,data,sl⟩,ho,hc,n,hd⟩:=id p1;obtain⟨⟨cls2,dd2,data2,sl2⟩,ho2,hc2,n2,hd2⟩:=id p2;simp only at hc hd hc2 hd2;subst hc hd hc2 hd2
 exact concat_meets ⟨_,ho,rfl⟩ ⟨_,ho2,rfl⟩ noFill_tuple_add seq_tuple_add oI nI (mU _ _)
  (tuple_addW0 a b ([]:List BH).toArray its2.toArray n n2 dd dd2 sl sl2<|by simp) ⟨ho,ho2,⟨.ref b,H,I,rfl,q⟩⟩
theorem kO{d1 d2:List D}(ha:PEd X sd a (.val<|.tup d1))(hb:PEd X sd b (.val<|.tup d2))(hl:d1.length+d2.length<=1000):PEd X sd (.BinOp a .Add b pos) (.val (.tup<|d1++d2)):=
 aBR (op_catT0.or aLB) ha hb trivial λσ F H v u Q S q1 q2 k=>by
  simp only[ResOk,Rep] at q1 q2;obtain⟨p,xs,e1,hp,rl⟩:=q1;obtain⟨q,ys,e2,hq,rl2⟩:=q2;cases d1 with
  |nil=>simp only[RepL] at rl;subst rl;refine .inl ⟨p,q,ys,e1,e2,.of<|S.sub _ _ hp,.of<|S.sub _ _ hq,k _ F H S (Same.refl _) ?_⟩;simp only[ResOk,Rep,aNB];exact⟨q,ys,rfl,hq,rl2⟩
  |cons z zs=>
   refine .inr ⟨p,q,xs,ys,e1,e2,.of<|S.sub _ _ hp,.of<|S.sub _ _ hq, ?_,by rw[rl.len,rl2.len];exact dL<|eG hl,λhy=> ?_,λhy p2 hp2=> ?_⟩
   ·intro hx;subst hx;obtain⟨_,_,w,_⟩:=rl.uncons;cases w
   ·subst hy
    have:d2=[]:=by
     cases d2 with
     |nil=>rfl
     |cons w ws=>obtain⟨_,_,w,_⟩:=rl2.uncons;cases w
    subst this;refine k _ F H S (Same.refl _) ?_;simp only[ResOk,Rep,cH];exact⟨p,xs,rfl,hp,rl⟩
   ·obtain⟨S2,s2⟩:=S.lay (o:=.tup<|xs++ys) hp2 trivial;refine k _ _ _ S2 s2 ?_;simp only[ResOk,Rep];exact⟨p2,_,rfl,bL,(rl.app rl2).mono s2⟩
theorem iU{p:Pos}(hg:Gl X "tuple")(hm:X.mg "tuple"=none)(ha:PEd X sd e (.bor ds))(hst:AC [e] X.env=(false,eval e X.env)::AC [] X.env:=by rfl):PEd X sd (.Call (.Name "tuple" p) [e] [] pos) (.val<|.tup ds):=
 aAa (he:=hst) zM hg hm PyProof.Rows.boot_tuple (aC ha aM trivial hst) λσ F H vs Q S q k=>by
  cases q with
  |cons q1 q2=>cases q2;obtain⟨p,xs,rfl,hp,rl,_⟩:=q1;refine⟨p,xs,rfl,.inl ⟨.of hp,λl hl=> ?_⟩⟩;obtain⟨S2,s2⟩:=S.lay (o:=.tup xs) hl trivial;refine k _ _ _ S2 s2 ?_;simp only[ResOk,Rep];exact⟨l,xs,rfl,bL,rl.mono s2⟩
end
noncomputable def Ite(K:aA)(a:BJ):It:=
 ⟨λi H=>∃xs x,SqL K H a xs/\xs[i]? =some x,λi H x H'=>∃p v,x=.ref p/\H p=none/\H'=upd H p (.tup [.int i,v])/\∀xs,SqL K H a xs->xs[i]? =some v,λi H=>∃xs,SqL K H a xs/\xs.length<=i⟩
theorem aLT{h':BL}{t':Nat}{e it:BJ}(I:Inv X pins σ H s)(k:∀b o,b≠e->b≠it->s.heap.get? b=some o->h'.get? b=some o)(f1:xW X pins H e)(f2:xW X pins H it):Inv X pins σ H {s with heap:=h',toks:=t'}:=by
 have nit:∀b u,H b=some u->b≠e/\b≠it:=λb u q=>⟨λz=>(by rw[z,f1.1] at q;cases q),λz=>(by rw[z,f2.1] at q;cases q)⟩
 have ne:∀b,b∉[e,it]->b≠e/\b≠it:=λb hc=>⟨λz=>hc (by simp[z]),λz=>hc<|by simp[z]⟩
 refine I.step (g':=s.gens) (d':=s.drawn) (ch:=[e,it]) (λb hb=> ?_) (λb o _ _ hc q _=>k b o (ne b hc).1 (ne b hc).2 q) (λb o _ _ hc q _=>⟨o.slots,k b o (ne b hc).1 (ne b hc).2 q⟩) (λ_ _ _ _ n=>n)
  (λb o hc q=>⟨o,k b o (ne b hc).1 (ne b hc).2 q⟩) (λ_ _ q=>q) (λ_ _ _ q=>q) (λb ps q=>⟨#[],by rw[q];simp⟩) (λm hm=> ?_) (λb u q=> ?_) I.bare
 ·rcases aU.mp hb with z|hb
  ·subst z;exact⟨f1.2.2.2.1,f1.2.1,f1.2.2.2.2.1,f1.2.2.2.2.2⟩
  ·have z:b=it:=by simpa using hb
   subst z;exact⟨f2.2.2.2.1,f2.2.1,f2.2.2.2.2.1,f2.2.2.2.2.2⟩
 ·obtain⟨o,es,ep,ho,r⟩:=hm;exact⟨o,es,ep,k _ o (Ne.symm f1.2.1) (Ne.symm f2.2.1) ho,r⟩
 ·refine(I.hok b u q).stay (λc v hc g=> ?_) (λ_ g=>g) λ_ _ g=>g
  rcases hc with z|z
  ·rw[z] at g ⊢;exact k b v (nit b u q).1 (nit b u q).2 g
  ·exact k c v (nit c _ z).1 (nit c _ z).2 g
theorem aGt{elts:List Expr}{kk:Nat}{pos:Pos}(a e it:BJ)(hei:e≠it):aJH P w K (.Tuple elts kk pos) (Ite K a) [e,it] e (λi h=>(∃old,IsEnum h e it i old)/\h.IsListIter it a i) where
 mem:=by simp
 obj:=λi h st b hb=>by
  obtain⟨⟨old,he⟩,hit⟩:=st
  rcases aU.mp hb with z|hb
  ·subst z;exact⟨_,he,λv z=>by cases z⟩
  ·have z:b=it:=by simpa using hb
   subst z;obtain⟨o,q,c,d⟩:=hit;exact⟨o,q,λv z=>by rw[d] at z;cases z⟩
 keep:=λi h h' st k=>by obtain⟨⟨old,he⟩,hit⟩:=st;exact⟨⟨old,k e (by simp) _ he⟩,hit.at λo q=>k it (by simp) o q⟩
 item:=by
  intro X hP hw hK hc i pins s σ H E I hf st hg;subst hP hw hK;obtain⟨⟨old,he⟩,hit⟩:=st;obtain⟨xs,x,hq,hx⟩:=hg;obtain⟨its,rv,p,hz⟩:=I.list hq;obtain⟨u,hu,ru⟩:=rv.get hx;have f1:=hf e (by simp);have f2:=hf it (by simp);refine wpAny_pyNext_enum_item he hit p.isList (x:=u) (by simpa using hu) hei λh1 heo hit1 ht1 hz1 hk1=> ?_
  refine⟨_,rfl,wpAny_letOwnedTupleGo_enum heo λh2 he2 hs2=> ?_⟩;have hs2:Heap.SameBut e h1 h2:=hs2;have esz:e<s.heap.objs.size:=aO he;have isz:it<s.heap.objs.size:=by obtain⟨_,q,_⟩:=hit;exact aO q
  have I1:Inv X pins σ H {s with heap:=h2,toks:=s.toks+1}:=aLT I (λb o h1' h2' q=>(hs2.2 b h1').trans<|hk1 b o h1' h2' q) f1 f2;have hn:H s.heap.objs.size=none:=I.hok.fresh<|aR _;have g2:h2.get? s.heap.objs.size=some {cls:=.type "tuple",data:=.seq #[.int i s.toks,u]}:=(hs2.2 _<|iE esz).trans ht1
  have I2:Inv X pins σ (upd H s.heap.objs.size<|.tup [.int i,x]) {s with heap:=h2,toks:=s.toks+1}:=by
   refine I1.track hn I.sz (iE I.lt) (λy c q=> ?_) (λy hy=> ?_) ⟨by show 2<=AH;decide,[.int i s.toks,u],.cons ⟨_,rfl⟩<|.cons ru .nil,⟨_,g2,rfl,⟨_,rfl⟩,rfl⟩⟩
   ·obtain⟨v,o,ho,_⟩:=I.cell y c q;exact bM<|aO ho
   ·exact bM<|aO (I.pin y hy).1
  refine⟨.ref s.heap.objs.size,_,I2,rfl,⟨_,x,rfl,hn,rfl,λys hy=>by rw[I.list_inj hy hq];exact hx⟩,⟨⟨u, ?_⟩, ?_⟩,λb hb=> ?_⟩
  ·have:((i+1:Nat):Int)=(i:Int)+1:=by push_cast;rfl
   rw[this];exact he2
  ·exact hit1.at λo q=>(hs2.2 it<|Ne.symm hei).trans q
  ·rcases aU.mp hb with z|hb
   ·subst z;rw[bD<|bM esz];exact f1.1
   ·have z:b=it:=by simpa using hb
    subst z;rw[bD<|bM isz];exact f2.1
 done:=by intro X hP hw hK hc i pins s σ H E I hf st hg;subst hP hw hK;obtain⟨⟨old,he⟩,hit⟩:=st;obtain⟨xs,hq,hx⟩:=hg;obtain⟨its,rv,p,hz⟩:=I.list hq;obtain⟨f0,f1,f2,f3,f4,f5⟩:=hf it (by simp);have hl:=rv.length;exact wpAny_pyNext_enum_end (I.ok.hd hc) he hit p.isList (by simp;omega) λh' eb=>⟨rfl,I.turned (t':=s.toks) (λb o hb q=>eb b o hb q) f0 f1 f3 f4 f5⟩
 self:=λ_ _ _ _ _ st h=>by obtain⟨⟨old,he⟩,_⟩:=st;exact wpAny_pyIter_enum he h
section
variable {X:Cx}{sd:List Slot}{e a b c tg iter:Expr}{es:List Expr}{pos:Pos}{r ra rb:R}{d:D}{ds:List D}{st:BN}{rest:List BN}{E:iT}
noncomputable def aQP(K:aA)(ta:TA):TI:=λσ H R=>ta σ H λvs H1=>∃l,vs=[.ref l]/\(∃xs,SqL K H1 l xs)/\R (Ite K l) H1
theorem aMV{elts:List Expr}{kk:Nat}{tp:Pos}{ta:TA}{p:Pos}(hg:Gl X "enumerate")(hm:X.mg "enumerate"=none)(ha:PA X [a] ta)(hs:AC [a] X.env=[(false,eval a X.env)]:=by rfl):PI X (.Tuple elts kk tp) (.Call (.Name "enumerate" p) [a] [] pos) (aQP X.K ta):=by
 intro pins s σ H R I h;refine Call_ (hX I hg hm boot_enumerate<|PyProof.Rows.callWith_type1 (thn (ha pos pins s σ H _ I h) λus s1 ⟨vs,H1,I1,r1,q1⟩=> ?_) hs rfl);obtain⟨l,rfl,⟨xs,hq⟩,q⟩:=q1;cases r1 with
 |cons r rr=>
  cases rr;cases r;obtain⟨its,rv,p,hz⟩:=I1.list hq;refine call_enumerate_list p.isList λh' he hit hsz hk=> ?_
  refine wpAny_pyIter_enum he ?_;have I2:Inv X pins σ H1 {s1 with heap:=h'}:=I1.kept (t':=s1.toks) hk;refine⟨s1.heap.objs.size+1,[s1.heap.objs.size+1,s1.heap.objs.size],_,Ite X.K l,H1,rfl,I2,aGt l _ _<|Nat.succ_ne_self _,⟨⟨_,he⟩,hit⟩,λb hb=> ?_,q⟩
  rcases aU.mp hb with z|hb
  ·subst z;exact I1.fpOk (fK _) (I1.hok.fresh<|fK _)
  ·have z:b=s1.heap.objs.size:=by simpa using hb
   subst z;exact I1.fpOk (aR _) (I1.hok.fresh<|aR _)
noncomputable def mI(ds:List D):List D:=(aW ds.length).map λ(i:Nat)=>D.tup [.int (i:Int),ds.getD i .non]
theorem lM(ds:List D):(mI ds).length=ds.length:=by simp[mI]
theorem nG{i:Nat}(h:(mI ds)[i]? =some d):∃x,ds[i]? =some x/\d=.tup [.int (i:Int),x]:=by
 unfold mI at h;rw[aY] at h
 by_cases hi:i<ds.length
 ·rw[rH hi] at h;refine⟨ds[i],by simp[hi], ?_⟩;rw[<-bY.inj h];simp[bF,hi]
 ·rw[dJ<|by simpa using hi] at h;cases h
def LP(K:aA)(l:BJ)(ds:List D):Hp->Hp->Prop:=λF H=>∃xs,H l=some (.lst xs)/\RepL K F ds xs
theorem aIN{F₁:Hp}{l:BJ}:ItD X.K F₁ (LP X.K l ds) (Ite X.K l) (mI ds):=λF H _ sH sm hP i=>by
 obtain⟨xs,hl,rl⟩:=hP;refine⟨λhi=> ?_,λhi=> ?_,λx H' d hd y=> ?_⟩
 ·rw[lM] at hi;exact⟨xs,xs[i]'(by rw[rl.len];exact hi),.of hl,by simp[rl.len,hi]⟩
 ·rw[lM] at hi;exact⟨xs,.of hl,by rw[rl.len];exact hi⟩
 ·obtain⟨p,v,rfl,hp,rfl,hv⟩:=y;obtain⟨z,hz,rfl⟩:=nG hd;have hv:=hv xs<|.of hl;obtain⟨v',h1,rz⟩:=rl.get hz;rw[hv] at h1;cases h1;have fp:F p=none:=sH.free hp;have s1:Same F (upd F p<|.tup [.int i,v]):=λb u q=>by rw[bD<|cE q fp];exact q
  refine⟨upd F p<|.tup [.int i,v],s1, ?_,λH₀ σ sd S=>(S.lay (o:=.tup [.int i,v]) hp trivial).1⟩;simp only[Rep];exact⟨p,_,rfl,bL,.cons (by simp only[Rep]) (.one<|rz.mono s1)⟩
theorem rY{elts:List Expr}{kk:Nat}{tp p:Pos}(hg:Gl X "enumerate")(hm:X.mg "enumerate"=none)(ha:PEd X sd a (.val<|.lst ds))(hst:AC [a] X.env=[(false,eval a X.env)]:=by rfl):
  PId X sd PT0 (.Tuple elts kk tp) (.Call (.Name "enumerate" p) [a] [] pos) (mI ds):=.mk λσ F H S=>
 (aMV hg hm rC hst).to ((aC ha aM trivial (by rw [hst]; rfl) σ F H S).imp fun vs H1 ⟨F1,S1,s1,q1⟩=>by
  cases q1 with
  |cons q1 q2=>
   cases q2;simp only[ResOk,Rep] at q1;obtain⟨l,xs,rfl,hl,rl⟩:=q1;refine⟨l,rfl,⟨xs,.of<|S1.sub _ _ hl⟩,F1,S1,s1,λF' H' sF sH sm _ i=> ?_⟩
   exact aIN (X:=X) (F₁:=F1) F' H' sF sH sm ⟨xs,sH _ _ (sF _ _ hl),rl.mono sF⟩ i)
theorem aAV{ns:List Int}{us:List BH}(r:Vals (ns.map V.int) us){i:Nat}{u:BH}(h:us[i]? =some u):i<ns.length/\∃t,u=.int (ns.getD i 0) t:=by
 have hl:=r.length;rw[aB] at hl;have hi:i<us.length:=(aI.mp h).1
 have e:(ns.map V.int)[i]? =some (.int<|ns.getD i 0):=by
  rw[aY];have:i<ns.length:=by omega
  simp[bF,this]
 obtain⟨u',h1,t,h2⟩:=r.get e;rw[h] at h1;cases h1;exact⟨by omega,t,h2⟩
noncomputable def cutD(ds:List D)(lo hi:Option Int):List D:=(ds.drop<|HT.sIx ds.length 0 lo).take<|HT.sIx ds.length ds.length hi-HT.sIx ds.length 0 lo
theorem RepL.cut{K:aA}{H:Hp}{xs:List V}(r:RepL K H ds xs)(lo hi:Option Int):RepL K H (cutD ds lo hi) (yZ xs lo hi):=by unfold cutD yZ;rw[r.len];exact(r.drop _).take _
def POd(X:Cx)(sd:List Slot)(e:Option Expr)(o:Option Int):Prop:=match e,o with
 |none,none=>True
 |some e,some i=>PEd X sd e (.val<|.int i)
 |_,_=>False
theorem pR{eo:Option Expr}{o:Option Int}(h:POd X sd eo o):∃t:TO,PO X eo t/\∀ (σ:St) (F H:Hp),StF X.K X.B₀ F H σ sd->∀Q:Option Int->Hp->Prop,(∀F' H',StF X.K X.B₀ F' H' σ sd->Same F F'->Q o H')->t σ H Q:=by
 cases eo with
 |none=>
  cases o with
  |none=>exact⟨_,aMz,λσ F H S Q k=>k F H S<|Same.refl _⟩
  |some i=>exact h.elim
 |some e=>
  cases o with
  |none=>exact h.elim
  |some i=>have h:PEd X sd e (.val<|.int i):=h;refine⟨_,aMl eV,λσ F H S Q k=>(h σ F H S).imp λv H1 ⟨F1,S1,s1,q1⟩=> ?_⟩;simp only[ResOk,Rep] at q1;exact⟨i,q1,k F1 H1 S1 s1⟩
theorem mO{lo hi:Option Expr}{ol oh:Option Int}{p2:Pos}(ha:PEd X sd a (.val<|.tup ds))(hl:POd X sd lo ol)(hh:POd X sd hi oh)(hn:¬ (HT.sIx ds.length 0 ol=0/\HT.sIx ds.length ds.length oh=ds.length)):PEd X sd (.Subscript a (.Slice lo hi none p2) pos) (.val (.tup<|cutD ds ol oh)):=.mk λσ F H S=>by obtain⟨tl,pl,kl⟩:=pR hl;obtain⟨th,ph,kh⟩:=pR hh;refine(yI aOO eV pl ph).to<|(ha σ F H S).imp λv H1 ⟨F1,S1,s1,q1⟩=>kl σ F1 H1 S1 _ λF2 H2 S2 s2=>kh σ F2 H2 S2 _ λF3 H3 S3 s3=> ?_;have q1:=Rep.mono (s2.trans s3) q1;simp only[Rep] at q1;obtain⟨l,xs,rfl,hl',rl⟩:=q1;refine⟨l,xs,rfl,.of<|S3.sub _ _ hl',by rw[rl.len];exact hn,λp hp=> ?_⟩;obtain⟨S4,s4⟩:=S3.lay (o:=.tup<|yZ xs ol oh) hp trivial;refine⟨_,S4,((s1.trans s2).trans s3).trans s4, ?_⟩;simp only[ResOk,Rep];exact⟨p,_,rfl,bL,(rl.cut ol oh).mono s4⟩
theorem aPA{i:Int}(ha:PEd X sd a (.val<|.int i)):PEd X sd (.UnaryOp .USub a pos) (.val<|.int (-i)):=.mk λσ F H S=>
 (aRx aPI eV).to ((ha σ F H S).imp fun v H1 ⟨F1,S1,s1,q1⟩=>by
  simp only[ResOk,Rep] at q1
  exact⟨i,q1,F1,S1,s1,by simp only[ResOk,Rep]⟩)
theorem iR{body:List BN}{P:Hp->Hp->Prop}(Sd:Nat->List Slot->Prop)(hi:PId X sd P tg iter ds)(h0:∃sd0,Le sd sd0/\Sd 0 sd0)
  (hb:∀k d sdk,ds[k]? =some d->Sd k sdk->∃sdt,PGd X sdk tg d sdt/\PSd X sdt body {E with nx:=λsd'=>∃sd2,Le sd' sd2/\Sd (k+1) sd2,ct:=λsd'=>∃sd2,Le sd' sd2/\Sd (k+1) sd2,bk:=E.nx}) (hE:∀sdn,Sd ds.length sdn->E.nx sdn) (hP:∀k sdk σ F H,Sd k sdk->StF X.K X.B₀ F H σ sdk->P F H:=by intros;trivial)
  (hc:X.calm=true:=by rfl) (hp:PassesOwn (AF X.prog X.w) X.A X.env X.xe:=by exact PassesOwn.never) (hs:∀x,BA iter X.env x=pure x:=by intro _;rfl):PSd1 X sd (.For tg iter body [] pos) E:=.mk λσ F H S=>
 (aKC hp hc aRW aQo pss_w hs).to (by
  intro pins s I;refine thn (hi σ F H S pins s I) λv s1 h1=>thn h1 λitv s2 h2=> ?_
  obtain⟨it,fp,tn,J,H2,e,I2,T,st2,f2,F1,S1,s1',itd⟩:=h2;refine⟨it,fp,tn,J,H2,e,I2,T,st2,f2, ?_⟩;obtain⟨sd0,le0,q0⟩:=h0;refine⟨λi m σ' H'=>m=ds.length-i/\i<=ds.length/\∃sdi F',StF X.K X.B₀ F' H' σ' sdi/\Same F1 F'/\Sd i sdi,⟨ds.length,by simp,cD _,sd0,F1,S1.le le0,Same.refl _,q0⟩, ?_⟩;rintro i m σ' H' ⟨rfl,hil,sdi,F',S',s',qi⟩;obtain⟨g1,g2,g3⟩:=itd F' H' s' S'.sub S'.smp (hP _ _ _ _ _ qi S') i
  by_cases hlt:i<ds.length
  ·refine .inr ⟨g1 hlt,λσ2 H2=>∃sd2 F2,StF X.K X.B₀ F2 H2 σ2 sd2/\Same F1 F2/\Sd (i+1) sd2,λσ2 H2 ⟨sd2,F2,S2,s2,q2⟩=>⟨ds.length-(i+1),by omega,rfl,hlt,sd2,F2,S2,s2,q2⟩,λx H2 y=> ?_⟩;have hd:ds[i]? =some ds[i]:=by simp[hlt]
   obtain⟨F2,s2,rp,up⟩:=g3 x H2 ds[i] hd y;obtain⟨sdt,hg,hbb⟩:=hb i _ sdi hd qi;refine(hg σ' F2 H2 x (up _ _ _ S') rp).imp λσ3 H3 ⟨F3,S3,s3⟩=> ?_
   have base:Same F1 F3:=(s'.trans s2).trans s3;refine(hbb σ3 F3 H3 S3).imp ?_ ?_ ?_ ?_
   ·rintro σ4 H4 ⟨sd4,F4,S4,s4,sd5,le,q5⟩;exact⟨sd5,F4,S4.le le,base.trans s4,q5⟩
   ·exact λv H4 q=>q
   ·rintro σ4 H4 ⟨sd4,F4,S4,s4,q⟩;exact⟨sd4,F4,S4,(s1'.trans base).trans s4,q⟩
   ·rintro σ4 H4 ⟨sd4,F4,S4,s4,sd5,le,q5⟩;exact⟨sd5,F4,S4.le le,base.trans s4,q5⟩
  ·have e:i=ds.length:=by omega
   subst e
   exact .inl ⟨g2 (aR _),sdi,F',S',s1'.trans s',hE sdi qi⟩)
end
noncomputable def gH(m:Nat):Nat->List (List Int)
 |0=>[[]]
 |k+1=>(gH m k).flatMap λs=>(aW m).map λ(w:Nat)=>s++[(w:Int)]
noncomputable def bN(s:List Int):D:=.tup<|s.map D.int
noncomputable def vC(m:Int)(ws:List Int):Int:=ws.foldl (λn w=>n*m+w) 0
noncomputable def aQv(b k:Nat):Bool:=let L:=gH (2^b) k;L.length==2^(b*k)&&(aW L.length).all λi=>let f:=L.getD i [];f.length==k&&f.all (λw=>decide (0<=w)&&decide (w<2^b))&&decide (vC (2^b) f=i)&&(i==0||HT.lexLt (L.getD (i-1) []) f)
theorem aNT:∀p∈bU,aQv p.1.toNat p.2.toNat=true:=by decide+kernel
theorem pE:∀p∈bU,1<=p.1/\p.1<=6/\1<=p.2/\p.2<=6/\p.1*p.2<=6:=by decide+kernel
theorem mE{m:Nat}:∀ {k:Nat}{ws:List Int},ws.length=k->(∀w∈ws,0<=w/\w<m)->ws∈gH m k
 |0,ws,h,_=>by have:ws=[]:=aCM.mp h;subst this;simp[gH]
 |k+1,ws,h,hw=>by
  have hne:ws≠[]:=by intro z;subst z;simp at h
  have e:ws=ws.dropLast++[ws.getLast hne]:=(yV hne).symm;have hl:=hw (ws.getLast hne)<|List.getLast_mem hne;have ih:ws.dropLast∈gH m k:=mE (by rw[List.length_dropLast,h];rfl) λw hm=>hw w<|List.dropLast_subset _ hm
  show ws∈(gH m k).flatMap λs=>(aW m).map λ(w:Nat)=>s++[(w:Int)]
  refine dN.mpr ⟨_,ih,aJ.mpr ⟨(ws.getLast hne).toNat,bE.mpr<|by omega, ?_⟩⟩;have:(((ws.getLast hne).toNat:Nat):Int)=ws.getLast hne:=by omega
  rw[this];exact e.symm
structure aNU(b k:Nat):Prop where
 len:(gH (2^b) k).length=2^(b*k)
 at_:∀i,i<2^(b*k)->((gH (2^b) k).getD i []).length=k/\(∀w∈(gH (2^b) k).getD i [],0<=w/\w<2^b)/\vC (2^b) ((gH (2^b) k).getD i [])=i/\(i=0\/HT.lexLt ((gH (2^b) k).getD (i-1) []) ((gH (2^b) k).getD i [])=true)
theorem aKd{b k:Nat}(h:aQv b k=true):aNU b k:=by unfold aQv at h;simp only[bR,beq_iff_eq,cW,bE,decide_eq_true_eq,yX] at h;obtain⟨h1,h2⟩:=h;refine⟨h1,λi hi=> ?_⟩;obtain⟨⟨⟨a,b⟩,c⟩,d⟩:=h2 i (by omega);exact⟨a,b,c,d⟩
theorem aPD{b k:Nat}(h:aNU b k){ws:List Int}(hl:ws.length=k)(hw:∀w∈ws,0<=w/\w<((2^b:Nat):Int)):0<=vC (2^b) ws/\(vC (2^b) ws).toNat<2^(b*k)/\(gH (2^b) k).getD (vC (2^b) ws).toNat []=ws:=by
 have hm:=mE hl hw;obtain⟨i,hi,e⟩:=List.mem_iff_getElem.mp hm;have e':(gH (2^b) k).getD i []=ws:=by simp[bF,hi,e]
 rw[h.len] at hi;have hn:=(h.at_ i hi).2.2.1;rw[e'] at hn;rw[hn];refine⟨by omega,by simpa using hi, ?_⟩;simpa using e'
theorem wV:∀ (ws vs:List Int),mD (ws.map D.int) (vs.map D.int)=decide (ws=vs)
 |[],[]=>by simp[mD]
 |[],_::_=>by simp[mD]
 |_::_,[]=>by simp[mD]
 |w::ws,v::vs=>by
  simp only[aV,mD,deq,wV ws vs]
  by_cases h1:w=v<;>by_cases h2:ws=vs<;>simp[h1,h2]
theorem aCa(ws vs:List Int):deq (bN ws) (bN vs)=decide (ws=vs):=by unfold bN;simp only[deq,wV]
theorem lX:∀ws:List Int,plL (ws.map D.int)=true
 |[]=>rfl
 |w::ws=>by simp[plL,pl,lX ws]
theorem pO:∀ws:List Int,jZ (ws.map D.int)=0
 |[]=>rfl
 |w::ws=>by simp[jZ,dep,pO ws]
theorem rV(ws:List Int):pl (bN ws)=true:=by simp[bN,pl,lX]
theorem wD(ws:List Int):dep (bN ws)=1:=by simp[bN,dep,pO]
theorem xD:∀L:List (List Int),plL (L.map bN)=true
 |[]=>rfl
 |w::ws=>by simp[plL,rV,xD ws]
theorem uA:∀L:List (List Int),jZ (L.map bN)<=1
 |[]=>by simp[jZ]
 |w::ws=>by have:=uA ws;simp only[aV,jZ,wD];omega
theorem aLj{i j:Int}(h1: -(2^64)<j)(h2:j<2^64):IntMulOk i j:=.of_right<|intBits_le_64 h1 h2
theorem lQ{L:List (List Int)}{k:Nat}{d:D}(h:(L.map bN)[k]? =some d):k<L.length/\d=bN (L.getD k []):=by
 rw[aY] at h;cases e:L[k]? with
 |none=>rw[e] at h;cases h
 |some z=>rw[e] at h;refine⟨(aI.mp e).1, ?_⟩;rw[<-bY.inj h,bF,e];rfl
section
variable {X:Cx}{sd:List Slot}{e a b c tg iter:Expr}{es:List Expr}{pos:Pos}{r ra rb:R}{d:D}{ds:List D}{st:BN}{rest:List BN}{E:iT}
theorem aEQ{g:Str}{ad:BJ}{xs:List V}{v:V}{p:Pos}(hg:Gl X g)(hm:X.mg g=some (.ref ad))(hq:∀H,SqT X.K H ad xs)(ha:PEd X sd a (.val d))(hd:flt d=some v)(fv:oJ v=true)(fx:xs.all oJ=true)
  (hk:AR .In (.Name g p)=false:=by with_unfolding_all rfl) (hdb:(g==("__debug__":Str))=false:=by decide):PTd X sd (.Compare a [.In] [.Name g p] pos) (inV v xs):=.mk λσ F H S=>
 (aBb aGM eV (aFy (v:= .ref ad) hg hm rfl hdb) hk).to ((ha σ F H S).imp fun x H1 ⟨F1,S1,s1,q1⟩=>by
  have e:=sM hd q1;subst e
  exact⟨ad,xs,rfl,.inr (hq H1),fv,fx,_,rfl,rfl,F1,S1,s1⟩)
theorem aLS{p:Pos}{i j:Int}(hg:Gl X "min")(hm:X.mg "min"=none)(ha:PEd X sd a (.val<|.int i))(hb:PEd X sd b (.val<|.int j))(hc:X.calm=true:=by rfl)(hst:AC [a,b] X.env=(false,eval a X.env)::AC [b] X.env:=by rfl)(hst2:AC [b] X.env=(false,eval b X.env)::AC [] X.env:=by rfl)(hpl:(Ae pos<|AC [b] X.env).any (·.1)=false:=by rfl):PEd X sd (.Call (.Name "min" p) [a,b] [] pos) (.val<|.int (if j<i then j else i)):=
 mZ (he:=hst) (hpl:=hpl) (aGE hc) hg hm boot_min (aC ha (aC hb aM trivial hst2) trivial hst) λσ F H vs Q S q k=>by
  cases q with
  |cons q1 q2=>
   cases q2 with
   |cons q2 q3=>cases q3;simp only[ResOk,Rep] at q1 q2;subst q1 q2;exact⟨i,j,rfl,k _ F H S (Same.refl _)<|by simp only[ResOk,Rep]⟩
end
def stepNames:List Str:=["and","or","xor","add","take","copy","put","not","up","down"]
noncomputable def nm(k:Nat):Str:=stepNames.getD k "down"
noncomputable def gI(k:Nat)(i j n:Int):D:=if k<6 then .tup [.str<|nm k,.int i,.int j] else if k=6 then .tup [.str<|nm k,.int i,.int n] else .tup [.str<|nm k,.int i]
noncomputable def aDP(k:Nat)(m a:Int):Int:=match k with
 |7=>m-1-a
 |8=>a*2%m
 |_=>a / 2
noncomputable def rW(k:Nat)(m a c:Int):Int:=match k with
 |0=>Builtin.bitAnd a c
 |1=>Builtin.bitOr a c
 |2=>Builtin.bitXor a c
 |3=>(a+c)%m
 |4=>(a-c)%m
 |_=>c
noncomputable def newW(k:Nat)(m a c n:Int):Int:=if k=6 then n else if 7<=k then aDP k m a else rW k m a c
theorem aEf:∀k,k<10->decide (V.str (nm k)=V.str "and")=decide (k=0):=by decide+kernel
theorem aLi:∀k,k<10->decide (V.str (nm k)=V.str "or")=decide (k=1):=by decide+kernel
theorem aEb:∀k,k<10->decide (V.str (nm k)=V.str "xor")=decide (k=2):=by decide+kernel
theorem aEx:∀k,k<10->decide (V.str (nm k)=V.str "add")=decide (k=3):=by decide+kernel
theorem aBj:∀k,k<10->decide (V.str (nm k)=V.str "take")=decide (k=4):=by decide+kernel
theorem aBn:∀k,k<10->decide (V.str (nm k)=V.str "copy")=decide (k=5):=by decide+kernel
theorem mQ:∀k,k<10->decide (V.str (nm k)=V.str "put")=decide (k=6):=by decide+kernel
theorem aKD:∀k,k<10->decide (V.str (nm k)=V.str "not")=decide (k=7):=by decide+kernel
theorem aOp:∀k,k<10->decide (V.str (nm k)=V.str "up")=decide (k=8):=by decide+kernel
theorem aEG:∀k,k<10->inV (V.str<|nm k) [V.str "not",V.str "up",V.str "down"]=decide (7<=k):=by decide+kernel
theorem aIU:∀b,b<7->∀a,a<2^b->∀c,c<2^b->∀k,k<3->0<=rW k 0 ((a:Nat):Int) ((c:Nat):Int)/\rW k 0 ((a:Nat):Int) ((c:Nat):Int)<((2^b:Nat):Int):=by decide+kernel
theorem aQJ{k:Nat}(h:k<3)(m a c:Int):rW k m a c=rW k 0 a c:=by
 match k,h with
 |0,_=>rfl
 |1,_=>rfl
 |2,_=>rfl
theorem aIv{b k:Nat}{a c n:Int}(hb:b<7)(hk:k<10)(ha:0<=a/\a<((2^b:Nat):Int))(hc:0<=c/\c<((2^b:Nat):Int))(hn:0<=n/\n<((2^b:Nat):Int)):0<=newW k ((2^b:Nat):Int) a c n/\newW k ((2^b:Nat):Int) a c n<((2^b:Nat):Int):=by
 have ea:a=((a.toNat:Nat):Int):=by omega
 have ec:c=((c.toNat:Nat):Int):=by omega
 have la:a.toNat<2^b:=by have:=ha.2;generalize 2^b=q at *;omega
 have lc:c.toNat<2^b:=by have:=hc.2;generalize 2^b=q at *;omega
 have tab:∀k,k<3->0<=rW k ((2^b:Nat):Int) a c/\rW k ((2^b:Nat):Int) a c<((2^b:Nat):Int):=λk hk=>by rw[aQJ hk,ea,ec];exact aIU b hb _ la _ lc k hk
 have mpos:(0:Int)<((2^b:Nat):Int):=by omega
 match k,hk with
 |0,_=>exact tab 0<|by decide
 |1,_=>exact tab 1<|by decide
 |2,_=>exact tab 2<|by decide
 |3,_=>exact⟨dG _<|gR mpos,cK _ mpos⟩
 |4,_=>exact⟨dG _<|gR mpos,cK _ mpos⟩
 |5,_=>exact hc
 |6,_=>exact hn
 |7,_=>show 0<=((2^b:Nat):Int)-1-a/\((2^b:Nat):Int)-1-a<((2^b:Nat):Int);generalize ((2^b:Nat):Int)=q at *;omega
 |8,_=>exact⟨dG _<|gR mpos,cK _ mpos⟩
 |9,_=>show 0<=a / 2/\a / 2<((2^b:Nat):Int);generalize ((2^b:Nat):Int)=q at *;omega
section
variable {X:Cx}{sd:List Slot}{e a b c tg iter:Expr}{es:List Expr}{pos:Pos}{d:D}
theorem RepL.ints'{K:aA}{H:Hp}:∀ {ns:List Int}{xs:List V},RepL K H (ns.map D.int) xs->xs=ns.map V.int
 |[],xs,r=>by simpa only[eA,RepL] using r
 |n::ns,xs,r=>by rw[aV] at r;obtain⟨y,ys,rfl,a,rl⟩:=r.uncons;simp only[Rep] at a;rw[a,RepL.ints' rl];rfl
theorem aCz{ns:List Int}{i:Int}(ha:PEd X sd a (.val<|.int i))(hb:PEd X sd b (.val (.lst<|ns.map D.int)))(hk:AR .NotIn b=false:=by with_unfolding_all rfl):PTd X sd (.Compare a [.NotIn] [b] pos) (!inV (.int i) (ns.map V.int)):=
 jW aAA ha hb trivial hk λσ F H x u Q S q1 q2 k=>by simp only[ResOk,Rep] at q1 q2;subst q1;obtain⟨p,xs,rfl,hp,rl⟩:=q2;rw[RepL.ints' rl] at hp;refine⟨p,_,rfl,.inl (.of<|S.sub _ _ hp),rfl, ?_,k F H S<|Same.refl _⟩;rw[cW];intro y hy;obtain⟨z,_,rfl⟩:=aJ.mp hy;rfl
theorem aMx(i:Int)(ns:List Int):inV (.int i) (ns.map V.int)=decide (i∈ns):=by
 unfold inV
 induction ns with
 |nil=>simp
 |cons n ns ih=>
  rw[aV,jP,ih]
  have:eqV (V.int n) (V.int i)=decide (i=n):=by
   show(n==i)=_
   by_cases h:i=n
   ·simp[h]
   ·simp[h,Ne.symm h]
  rw[this];simp
end
section
variable {X:Cx}{sd:List Slot}{e a b c tg iter o:Expr}{es:List Expr}{pos:Pos}{r ra rb:R}{d:D}{ds:List D}{st:BN}{rest:List BN}{E:iT}
theorem PEd.ic{i j:Int}(h:PEd X sd e (.val<|.int i))(q:i=j):PEd X sd e (.val<|.int j):=q▸h
theorem zE{prog:AD}{w:AI}{A:BK}{E:BH->BI->Prop}{s:BI}{t sl:BJ}{items:Array BH}{vl vu:BH}{lo hi:Option Int}{Q:BH->BI->Prop}(ht:IsTup s.heap t items)(hs:s.heap.IsSliceOf sl vl vu .none)(pl:IsPart vl lo)(pu:IsPart vu hi)
  (hw:HT.sIx items.size 0 lo=0/\HT.sIx items.size items.size hi=items.size) (h:Q (.ref t) s):AE (AF prog w) A (getItem (.ref t)<|.ref sl) Q E s:=by
 obtain⟨os,hos,hcs,hds⟩:=id hs;have hTs:s.TypeIs (.ref sl) "slice":=⟨os,hos,hcs⟩;unfold getItem
 try with_reducible refine AT ?_
 first|refine AA (AB ?_)|skip
 refine AA<|wpAny_sequenceKey ht.typeIs (by decide) ?_
 refine AA (AS (name:=Str.ofString "__getitem__") ht.typeIs PyProof.Rows.slot_tuple_getitem
  (AQ PyProof.Rows.slot_tuple_getitem ht.typeIs entry_tuple_getitem ?_ (args_tuple_getitem _ _)))
 show AE _ _ (Builtin.Tuple.tupleItemsOf (.ref t)>>=_) _ _ s;refine AA<|tupleItemsOf_ ht ?_;refine AA<|wpAny_typeOf hTs ?_;rw[if_pos<|by decide];refine AA<|HT.sliceApplied_gen hs pl pu ?_
 have yes:(((HT.sIx items.size 0 lo:Nat):Int)==0&&(1:Int)==1&&(HT.sIx items.size items.size hi-HT.sIx items.size 0 lo)==items.size)=true:=by rw[hw.1,hw.2];simp
 show AE _ _ (if(((HT.sIx items.size 0 lo:Nat):Int)==0&&(1:Int)==1&&(HT.sIx items.size items.size hi-HT.sIx items.size 0 lo)==items.size)=true then _ else _) _ _ s;rw[if_pos yes];refine AA ?_;unfold Builtin.Tuple.tupleIsExact;refine AA (wpAny_typeOf ht.typeIs<|AB ?_);rw[if_pos<|by decide];exact AA (wpAny_rule<|AB ⟨_,rfl,AB h⟩)
theorem aMD:SlR X (λx lo hi H Q=>∃a xs,x=.ref a/\SqT X.K H a xs/\(HT.sIx xs.length 0 lo=0/\HT.sIx xs.length xs.length hi=xs.length)/\Q (.ref a) H):=by
 intro pins s σ H x v vl vu lo hi sl Q I rx hs pl pu h;obtain⟨a,xs,rfl,hx,hw,q⟩:=h;cases rx;obtain⟨its,r,ht,hz⟩:=I.tuple hx;have hlen:its.toArray.size=xs.length:=by rw[aK];exact r.length.symm
 refine⟨"tuple",_,PyProof.Rows.slot_tuple_getitem.lookup,ht.typeIs,zE ht hs pl pu (by rw[hlen];exact hw) ⟨.ref a,H,I,rfl,q⟩⟩
theorem aBq{lo hi:Option Expr}{ol oh:Option Int}{p2:Pos}(ha:PEd X sd a (.val<|.tup ds))(hl:POd X sd lo ol)(hh:POd X sd hi oh)(hw:HT.sIx ds.length 0 ol=0/\HT.sIx ds.length ds.length oh=ds.length):PEd X sd (.Subscript a (.Slice lo hi none p2) pos) (.val<|.tup ds):=.mk λσ F H S=>by obtain⟨tl,pl,kl⟩:=pR hl;obtain⟨th,ph,kh⟩:=pR hh;refine(yI aMD eV pl ph).to<|(ha σ F H S).imp λv H1 ⟨F1,S1,s1,q1⟩=>kl σ F1 H1 S1 _ λF2 H2 S2 s2=>kh σ F2 H2 S2 _ λF3 H3 S3 s3=> ?_;have q1:=Rep.mono (s2.trans s3) q1;simp only[Rep] at q1;obtain⟨l,xs,rfl,hl',rl⟩:=q1;refine⟨l,xs,rfl,.of<|S3.sub _ _ hl',by rw[rl.len];exact hw,F3,S3,(s1.trans s2).trans s3, ?_⟩;simp only[ResOk,Rep];exact⟨l,xs,rfl,hl',rl⟩
theorem aCA{k:Nat}{p2:Pos}(ha:PEd X sd a (.val<|.tup ds))(hb:PEd X sd b (.val<|.int (k:Int))):PEd X sd (.Subscript a (.Slice none (some b) none p2) pos) (.val (.tup<|ds.take k)):=by
 by_cases h:k<ds.length
 ·have e:DL.cutD ds none (some (k:Int))=ds.take k:=by unfold DL.cutD;rw[HT.sIx_nat,HT.sIx_none,zP<|dL h];simp
  exact PEd.cast (mO (ol:=none) (oh:=some (k:Int)) ha trivial hb<|by rw[HT.sIx_nat,HT.sIx_none];omega) (by rw[e])
 ·rw[gA<|by omega];exact aBq (ol:=none) (oh:=some (k:Int)) ha trivial hb (by rw[HT.sIx_nat,HT.sIx_none];omega)
theorem yB{k:Nat}{p2:Pos}(ha:PEd X sd a (.val<|.tup ds))(hb:PEd X sd b (.val<|.int (k:Int))):PEd X sd (.Subscript a (.Slice (some b) none none p2) pos) (.val (.tup<|ds.drop k)):=by
 by_cases h:0<k/\0<ds.length
 ·have e:DL.cutD ds (some (k:Int)) none=ds.drop k:=by
   unfold DL.cutD;rw[HT.sIx_nat,HT.sIx_none]
   by_cases q:k<=ds.length
   ·rw[zP q];exact gA<|by simp
   ·rw[Nat.min_eq_right<|by omega,kG<|aR _,kG<|by omega];simp
  exact PEd.cast (mO (ol:=some (k:Int)) (oh:=none) ha hb trivial<|by rw[HT.sIx_nat,HT.sIx_none];omega) (by rw[e])
 ·have e:ds.drop k=ds:=by
   by_cases q:k=0
   ·rw[q];rfl
   ·have:ds=[]:=aCM.mp (by omega);rw[this];simp
  rw[e];exact aBq (ol:=some (k:Int)) (oh:=none) ha hb trivial (by rw[HT.sIx_nat,HT.sIx_none];omega)
end
mutual
noncomputable def noL:D->Bool
 |.tup ds=>aNz ds
 |.lst _=>false
 |.scr _=>false
 |.dic=>false
 |.dki _ _=>false
 |.any _=>false
 |_=>true
noncomputable def aNz:List D->Bool
 |[]=>true
 |d::ds=>noL d&&aNz ds
end
noncomputable def del(F:Hp)(l:BJ):Hp:=λb=>if b=l then none else F b
theorem yT{l b:BJ}(h:b≠l):del F l b=F b:=by unfold del;rw[if_neg h]
theorem aCE{l:BJ}:del F l l=none:=by unfold del;rw[if_pos rfl]
mutual
theorem Rep.del{K:aA}{F:Hp}{l:BJ}{xs:List V}(hl:F l=some (.lst xs)):∀ {d:D}{v:V},noL d=true->Rep K F d v->Rep K (del F l) d v
 |.non,_,_,r=>by simpa only[Rep] using r
 |.bl _,_,_,r=>by simpa only[Rep] using r
 |.int _,_,_,r=>by simpa only[Rep] using r
 |.str _,_,_,r=>by simpa only[Rep] using r
 |.tup ds,v,h,r=>by
  simp only[Rep] at r ⊢;obtain⟨a,ys,e,q,rl⟩:=r
  have ne:a≠l:=λz=>by rw[z,hl] at q;cases q
  exact⟨a,ys,e,by rw[yT ne];exact q,RepL.del hl (by simpa only[noL] using h) rl⟩
 |.lst _,_,h,_=>by simp[noL] at h
 |.dic,_,h,_=>by simp[noL] at h
 |.dki _ _,_,h,_=>by simp[noL] at h
 |.any _,_,h,_=>by simp[noL] at h
 |.scr _,_,h,_=>by simp[noL] at h
theorem RepL.del{K:aA}{F:Hp}{l:BJ}{xs:List V}(hl:F l=some (.lst xs)):∀ {ds:List D}{ys:List V},aNz ds=true->RepL K F ds ys->RepL K (del F l) ds ys
 |[],_,_,r=>by simpa only[RepL] using r
 |d::ds,ys,h,r=>by simp only[aNz,bR] at h;obtain⟨y,zs,rfl,a,rl⟩:=r.uncons;exact .cons (Rep.del hl h.1 a)<|RepL.del hl h.2 rl
end
theorem aCu{K:aA}{F H:Hp}:∀ {sd:List Slot}{σ:St},σ.length=sd.length->(∀ (k:Nat) (z:Slot),sd[k]? =some z->∃o,σ[k]? =some o/\eW K F H z o)->SlotsOk K F H sd σ
 |[],[],_,_=>rfl
 |z::zs,o::r,hl,h=>by
  obtain⟨o',e,q⟩:=h 0 z rfl;have:o=o':=by simpa using e
  subst this
  exact ⟨o,r,rfl,q,aCu (by simpa using hl) fun k z hz=>by
   obtain⟨o',e,q⟩:=h (k+1) z (by simpa using hz)
   exact⟨o',by simpa using e,q⟩⟩
 |[],_::_,hl,_=>by simp at hl
 |_::_,[],hl,_=>by simp at hl
noncomputable def okS:Slot->Bool
 |.own _ ds=>aNz ds
 |.od _ _ ds=>aNz ds
 |.ox _ _=>false
 |_=>true
def Oth(sd:List Slot)(i:Nat):Prop:=∀ (k:Nat) (z:Slot),k≠i->sd[k]? =some z->okS z=true
variable {i:Nat}{l:BJ}{ds:List D}{xs:List V}
theorem StF.lend(S:StF K H₀ F H σ sd)(hs:sd[i]? =some (.own l ds))(hx:H l=some (.lst xs)):StF K H₀ (upd F l<|.lst xs) H σ (sd.set i (.val<|.lst ds)):=by obtain⟨o,h1,h2,n,ys,q,rl⟩:=S.slots.get hs;rw[hx] at q;cases q;have S0:=S.le<|gU sd i;obtain⟨S1,s1⟩:=S0.freeze hx n<|pS S.nd hs;have S2:=S1.set (d:=.lst ds) (v:=.ref l) i (by simp only[Rep];exact⟨l,xs,rfl,bL,rl.mono s1⟩);rw[jY,lW<|by rw[h1,h2]] at S2;exact S2
theorem StF.back(S:StF K H₀ F H σ sd)(hs:sd[i]? =some (.own l ds))(hx:H l=some (.lst xs))(ho:Oth sd i)(S':StF K H₀ F' H' σ (sd.set i (.val<|.lst ds)))(s:Same (upd F l<|.lst xs) F'):StF K H₀ (del F' l) H' σ sd/\Same F (del F' l)/\F' l=some (.lst xs):=by
 obtain⟨o,h1,h2,n,ys,q,rl⟩:=S.slots.get hs;rw[hx] at q;cases q;have fl:F' l=some (.lst xs):=s _ _ bL
 have sF:Same F (del F' l):=λb u e=>by have ne:b≠l:=cE e n;rw[yT ne];exact s _ _ (by rw[bD ne];exact e)
 refine⟨⟨λb u e=>sF _ _<|S.base _ _ e,λb u e=> ?_,S'.smp, ?_,S.nd⟩,sF,fl⟩
 ·by_cases h:b=l
  ·subst h;rw[aCE] at e;cases e
  ·rw[yT h] at e;exact S'.sub _ _ e
 ·refine aCu S.slots.len λk z hz=> ?_
  by_cases hk:k=i
  ·subst hk;rw[hs] at hz;cases hz;exact⟨o,h1,h2,aCE,xs,S'.sub _ _ fl,rl.mono sF⟩
  ·obtain⟨o1,g1,g2⟩:=S.slots.get hz;obtain⟨o2,g3,g4⟩:=S'.slots.get (i:=k) (z:=z) (by rw[gO<|Ne.symm hk];exact hz);rw[g1] at g3;cases g3;refine⟨o1,g1, ?_⟩;cases z with
   |un=>trivial
   |val d=>obtain⟨v,e,r⟩:=g2;exact⟨v,e,r.mono sF⟩
   |gh d G=>obtain⟨v,e,r,g⟩:=g2;exact⟨v,e,r.mono sF,λF2 s2=>g F2<|sF.trans s2⟩
   |own l' ds'=>
    obtain⟨e,n',ys,q',rl'⟩:=g4
    have ne:l'≠l:=λe2=>by rw[e2,fl] at n';cases n'
    exact⟨e,by rw[yT ne];exact n',ys,q',RepL.del fl (ho k _ hk hz) rl'⟩
   |od l' ks ds'=>
    obtain⟨e,n',ys,q',ln,rl'⟩:=g4
    have ne:l'≠l:=λe2=>by rw[e2,fl] at n';cases n'
    exact⟨e,by rw[yT ne];exact n',ys,q',ln,RepL.del fl (ho k _ hk hz) rl'⟩
   |ox ls G=>exact absurd (ho k _ hk hz) (by simp[okS])
section
variable {X:Cx}{sd:List Slot}{e a b c tg iter o:Expr}{es:List Expr}{pos:Pos}{r ra rb:R}{d:D}{ds:List D}{st:BN}{rest:List BN}{E:iT}
theorem PTd.lend(i:Nat){l:BJ}{k:Bool}(hs:sd[i]? =some (.own l ds))(ho:Oth sd i)(h:PTd X (sd.set i (.val<|.lst ds)) e k):PTd X sd e k:=.mk λσ F H S=>by
 obtain⟨o,h1,h2,n,xs,q,rl⟩:=S.slots.get hs;refine(h σ _ H<|S.lend hs q).imp λv H' ⟨e,F',S',s'⟩=> ?_
 obtain⟨S2,s2,fl⟩:=S.back hs q ho S' s';exact⟨e,del F' l,S2,s2⟩
theorem PTd.cast{k k':Bool}(h:PTd X sd e k)(q:k=k'):PTd X sd e k':=q▸h
noncomputable def aQF:List Slot->Nat->Bool
 |[],_=>true
 |_::zs,0=>zs.all okS
 |z::zs,i+1=>okS z&&aQF zs i
theorem aOs:∀ {sd:List Slot}{i:Nat},aQF sd i=true->Oth sd i
 |[],_,_,k,y,_,hz=>by simp at hz
 |z::zs,0,h,k,y,hk,hz=>by
  cases k with
  |zero=>exact absurd rfl hk
  |succ k=>exact cW.mp (show zs.all okS=true from h) _ (bH<|by simpa using hz)
 |z::zs,i+1,h,k,y,hk,hz=>by
  have h':(okS z&&aQF zs i)=true:=h;rw[bR] at h';cases k with
  |zero=>
   have:z=y:=by simpa using hz
   subst this;exact h'.1
  |succ k=>exact aOs h'.2 k y (λq=>hk<|by rw[q]) (by simpa using hz)
theorem aIM(i j:Nat){x y:Str}{p q:Pos}{l:BJ}(hs:sd[j]? =some (.own l ds))(hN:X.N.Nodup)(hi:X.N[i]? =some x)(hx:Loc X.env.scope x)(hy:PE X (.Name y q) (iQ j))(hE:E.nx ((sd.set j .un).set i<|.own l ds))(hsw:AX (.Name y q) (some<|.Name x p) pos.line X.env=pure false:=by rfl)
  (hf:X.fn x=true\/X.env.scope.names.lookup x=some .local:=by first|exact .inl rfl|exact .inr rfl|assumption):PSd1 X sd (.Assign [.Name x p] (.Name y q) pos) E:=.mk λσ F H S=>
 (rB hN hi hx hy hsw hf).to (by
  obtain⟨o,h1,h2,n,xs,g,rl⟩:=S.slots.get hs
  exact⟨.ref l,by rw[h1,h2],_,F,(S.le (gU sd j)).setO i n g rl (pS S.nd hs),Same.refl _,hE⟩)
theorem aOD{ns:List Int}{lo hi:Option Expr}{ol oh:Option Int}{p2:Pos}(ha:PEd X sd a (.val<|.scr ns))(hl:POd X sd lo ol)(hh:POd X sd hi oh):PEd X sd (.Subscript a (.Slice lo hi none p2) pos) (.own<|DL.cutD (ns.map D.int) ol oh):=.mk λσ F H S=>by
 obtain⟨tl,pl,kl⟩:=pR hl;obtain⟨th,ph,kh⟩:=pR hh;refine(yI aMt eV pl ph).to<|(ha σ F H S).imp λv H1 ⟨F1,S1,s1,q1⟩=>kl σ F1 H1 S1 _ λF2 H2 S2 s2=>kh σ F2 H2 S2 _ λF3 H3 S3 s3=> ?_;have q1:=Rep.mono (s2.trans<|s3.trans S3.sub) q1;simp only[Rep] at q1;obtain⟨l,rfl,hl'⟩:=q1;refine⟨l,_,rfl,hl',λp hp=> ?_⟩;obtain⟨S4,fp,no⟩:=S3.layO (xs:=yZ (ns.map V.int) ol oh) hp
 have rl:RepL X.K F3 (ns.map D.int) (ns.map V.int):=by
  have g:∀l:List Int,RepL X.K F3 (l.map D.int) (l.map V.int):=λl=>by
   induction l with
   |nil=>exact .nil
   |cons k l ih=>exact .cons (by simp only[Rep]) ih
  exact g ns
 exact⟨F3,S4,(s1.trans s2).trans s3,p,_,rfl,fp,bL,rl.cut ol oh,no⟩
theorem aFY(hc:X.calm=true):mG X (.builtin "sum") (λxs H Q=>∃ (a:BJ) (ns:List Int),xs=[.ref a]/\SqL X.K H a (ns.map V.int)/\Q (.int<|preSum (λi=>ns.getD i 0) ns.length) H):=by
 intro pins s σ H xs us Q I r h;obtain⟨a,ns,rfl,ha,q⟩:=h;obtain⟨u,rfl,ru⟩:=mL r;cases ru;obtain⟨its,rv,p,hz⟩:=I.list ha;have hl:=rv.length;rw[aB] at hl;have isl:s.heap.IsList a its.toArray:=p.isList;have alt:a<s.heap.objs.size:=by obtain⟨o,ho,_⟩:=isl;exact aO ho
 refine call_sum_walkAnyS<|wpAny_pyIter_list isl ?_;refine⟨s.heap.objs.size,_,_,_,its.toArray.size,_,_,λi=>ns.getD i 0,rfl,(Walks.list (A:=X.A.in1) (I.ok.hd hc) s.heap.objs.size a (bM alt) its.toArray).toS,⟨⟨_,aS _ rfl,rfl,rfl⟩,isl.push _⟩,λb hb=> ?_,λi v hv=>(aAV rv<|by simpa using hv).2,λs' t' hm=> ?_⟩
 ·show b<(s.heap.push _).objs.size;rw[size_push']
  rcases aU.mp hb with e|hb
  ·rw[e];exact jG _
  ·have e:b=a:=by simpa using hb
   rw[e];exact nJ alt
 ·rw[Moved.eq_with hm];have sz:its.toArray.size=ns.length:=by rw[aK,hl]
  rw[sz];refine⟨.int _,H,I.kept λb o g=>hm.heap b o (λhI=> ?_)<|aD _ g,⟨_,rfl⟩,q⟩;have e:b=s.heap.objs.size:=by simpa using hI
  exact absurd (aO g) (by rw[e];exact dZ _)
theorem aEV{p:Pos}{ns:List Int}(hg:Gl X "sum")(hm:X.mg "sum"=none)(ha:PEd X sd e (.bor<|ns.map D.int))(hc:X.calm=true:=by rfl)(hst:AC [e] X.env=(false,eval e X.env)::AC [] X.env:=by rfl):PEd X sd (.Call (.Name "sum" p) [e] [] pos) (.val (.int<|preSum (λi=>ns.getD i 0) ns.length)):=
 mZ (he:=hst) (aFY hc) hg hm boot_sum (aC ha aM trivial hst) λσ F H vs Q S q k=>by
  cases q with
  |cons q1 q2=>cases q2;obtain⟨p,xs,rfl,hp,rl,_⟩:=q1;exact⟨p,ns,rfl,.of (by rw[<-rl.ints];exact hp),k _ F H S (Same.refl _)<|by simp only[ResOk,Rep]⟩
end
def aHF:List D->R->Prop:=λds r=>∃ (ns:List Int) (k:Nat),ds=[.scr ns,.int (k:Int)]/\k<=1000/\r=.val (.int<|ns.getD k 0)
noncomputable abbrev SQ:=Nat×Int×Int×Int
noncomputable def sqD(q:SQ):D:=gI q.1 q.2.1 q.2.2.1 q.2.2.2
noncomputable def vA(p:Int×Int)(x:Int):SQ:=((x%10).toNat,x / 10%p.2,x / 60%p.2,x / 360%((2^p.1.toNat:Nat):Int))
structure SqOk(p:Int×Int)(q:SQ):Prop where
 sz:p∈bU
 k10:q.1<10
 i0:0<=q.2.1/\q.2.1<p.2
 j0:0<=q.2.2.1/\q.2.2.1<p.2
 n0:0<=q.2.2.2/\q.2.2.2<((2^p.1.toNat:Nat):Int)
theorem pw0(n:Nat):(0:Int)<((2^n:Nat):Int):=by have:0<2^n:=Nat.pow_pos (by decide);generalize 2^n=q at this ⊢;omega
theorem aMK{p:Int×Int}(hp:p∈bU)(x:Int):SqOk p (vA p x):=by
 obtain⟨h1,h2,h3,h4,h5⟩:=pE p hp;have p20:(0:Int)<p.2:=by omega
 have m0:=pw0 p.1.toNat;have d1:=cK x (show(0:Int)<10 by decide);exact⟨hp,by show(x%10).toNat<10;omega,⟨dG _<|gR p20,cK _ p20⟩,⟨dG _<|gR p20,cK _ p20⟩,⟨dG _<|gR m0,cK _ m0⟩⟩
def aKq:List D->R->Prop:=λds r=>∃x p,p∈bU/\ds=[.int x,bW p]/\r=.val (sqD<|vA p x)
noncomputable abbrev SK:=SQ×Int
noncomputable def skD(s:SK):D:=.tup [sqD s.1,.int s.2]
structure StkOk(p:Int×Int)(L:List SK):Prop where
 pos:0<L.length
 le:L.length<=8
 st:∀s∈L,SqOk p s.1/\1<=s.2/\s.2<=9
structure Fil(p:Int×Int)(ws:List Int):Prop where
 len:ws.length=p.2.toNat
 wd:∀w∈ws,0<=w/\w<((2^p.1.toNat:Nat):Int)
noncomputable def nwQ(p:Int×Int)(q:SQ)(ws:List Int):Int:=newW q.1 ((2^p.1.toNat:Nat):Int) (ws.getD q.2.1.toNat 0) (ws.getD q.2.2.1.toNat 0) q.2.2.2
noncomputable def onQ(p:Int×Int)(q:SQ)(ws:List Int):List Int:=ws.set q.2.1.toNat<|nwQ p q ws
noncomputable def cY(p:Int×Int)(L:List SK)(row:List Nat)(ws:List Int):List Int:=row.foldl (λf t=>onQ p (L.getD t AG).1 f) ws
theorem aEE{p:Int×Int}{q:SQ}{ws:List Int}(O:SqOk p q)(G:Fil p ws):0<=nwQ p q ws/\nwQ p q ws<((2^p.1.toNat:Nat):Int):=by obtain⟨h1,h2,h3,h4,h5⟩:=pE p O.sz;exact aIv (by omega) O.k10 (G.wd _ (getD_mem<|by have:=O.i0;rw[G.len];omega)) (G.wd _ (getD_mem<|by have:=O.j0;rw[G.len];omega)) O.n0
theorem vL{p:Int×Int}{q:SQ}{ws:List Int}(O:SqOk p q)(G:Fil p ws):Fil p (onQ p q ws):=by
 refine⟨by unfold onQ;rw[aNC];exact G.len,λw hw=> ?_⟩
 rcases List.mem_or_eq_of_mem_set hw with hw|rfl
 ·exact G.wd w hw
 ·exact aEE O G
theorem gB{p:Int×Int}{L:List SK}(S:StkOk p L):∀ (row:List Nat) (ws:List Int),(∀t∈row,t<L.length)->Fil p ws->Fil p (cY p L row ws)
 |[],ws,_,G=>G
 |t::row,ws,h,G=>by have ht:=h t aH;exact gB S row _ (λu hu=>h u<|aE _ hu)<|vL (S.st _<|getD_mem ht).1 G
theorem aGB(p:Int×Int)(L:List SK)(row:List Nat)(t:Nat)(ws:List Int):cY p L (row++[t]) ws=onQ p (L.getD t AG).1 (cY p L row ws):=by unfold cY;rw[eB];rfl
theorem hW{p:Int×Int}(hp:p∈bU){ws:List Int}(h:ws∈gH (2^p.1.toNat) p.2.toNat):Fil p ws:=by
 have g:∀ (m k:Nat),∀s∈gH m k,s.length=k/\∀x∈s,0<=x/\x<(m:Int):=λm k=>by
  induction k with
  |zero=>
   intro s h;have:s=[]:=by simpa[gH] using h
   subst this;exact⟨rfl,λx hx=>by cases hx⟩
  |succ k ih=>
   intro s h;obtain⟨t,ht,hs⟩:=dN.mp h;obtain⟨w,hw,rfl⟩:=aJ.mp hs;obtain⟨a,b⟩:=ih t ht;refine⟨by rw[aP,a];rfl,λx hx=> ?_⟩
   rcases bC.mp hx with hx|hx
   ·exact b x hx
   ·have e:x=(w:Int):=by simpa using hx
    have:=bE.mp hw;omega
 obtain⟨a,b⟩:=g _ _ ws h;exact⟨a,b⟩
noncomputable def bG(row:List Nat):List D:=row.map λ(t:Nat)=>D.int (t:Int)
noncomputable def sG(L:List SK)(row:List Nat):List Int:=row.map λt=>(L.getD t AG).2
noncomputable def xU(l:List Int):Int:=preSum (λi=>l.getD i 0) l.length
def aEn:List D->R->Prop:=λds r=>∃ (L:List SK) (row:List Nat),(∀t∈row,t<L.length)/\row.length<=500/\ds=[.lst<|L.map skD,.tup<|bG row]/\r=.val (.int (xU<|sG L row))
theorem yK{f g:Nat->Int}:∀n,(∀i,i<n->f i=g i)->preSum f n=preSum g n
 |0,_=>rfl
 |n+1,h=>by show preSum f n+f n=preSum g n+g n;rw[yK n λi hi=>h i<|by omega,h n<|by omega]
theorem aGi(l:List Int)(x:Int):xU (l++[x])=xU l+x:=by unfold xU;rw[aP];show preSum _ l.length+_=_;rw[yK (g:=λi=>l.getD i 0) l.length λi hi=>by simp[bF,gJ hi]];simp[bF]
section
variable {X:Cx}{sd:List Slot}{e a b c tg iter o:Expr}{es:List Expr}{pos:Pos}{r ra rb:R}{d:D}{ds:List D}{st:BN}{rest:List BN}{E:iT}
theorem yF{p:Pos}(hg:Gl X "list")(hm:X.mg "list"=none)(ha:PEd X sd e (.bor ds))(hst:AC [e] X.env=(false,eval e X.env)::AC [] X.env:=by rfl):PEd X sd (.Call (.Name "list" p) [e] [] pos) (.own ds):=
 aAa (he:=hst) aAw hg hm PyProof.Rows.boot_list (aC ha aM trivial hst) λσ F H vs Q S q k=>by
  cases q with
  |cons q1 q2=>cases q2;obtain⟨p,xs,rfl,hp,rl,_⟩:=q1;refine⟨p,xs,rfl,.inl<|.of hp,λl hl=> ?_⟩;obtain⟨S2,fp,no⟩:=S.layO (xs:=xs) hl;exact k _ F _ S2 (Same.refl _) ⟨l,xs,rfl,fp,bL,rl,no⟩
end
mutual
theorem oV:∀d:D,pl d=true->deq d d=true
 |.non,_=>rfl
 |.bl b,_=>by simp[deq]
 |.int i,_=>by simp[deq]
 |.str x,_=>by simp[deq]
 |.tup ds,h=>by simp only[deq];exact tW ds (by simpa only[pl] using h)
 |.lst ds,h=>by simp only[deq];exact tW ds (by simpa only[pl] using h)
 |.dic,h=>by simp[pl] at h
 |.dki _ _,h=>by simp[pl] at h
 |.any _,h=>by simp[pl] at h
 |.scr _,h=>by simp[pl] at h
theorem tW:∀ds:List D,plL ds=true->mD ds ds=true
 |[],_=>rfl
 |d::ds,h=>by simp only[plL,bR] at h;simp only[mD,bR];exact⟨oV d h.1,tW ds h.2⟩
end
theorem pP{row:List Nat}{k:Nat}{d:D}(h:(bG row)[k]? =some d):k<row.length/\d=.int ((row.getD k 0:Nat):Int):=by
 unfold bG at h;rw[aY] at h;cases e:row[k]? with
 |none=>rw[e] at h;cases h
 |some z=>rw[e] at h;refine⟨(aI.mp e).1, ?_⟩;rw[<-bY.inj h,bF,e];rfl
theorem uB{L:List SK}{t:Nat}(h:t<L.length):(L.map skD)[t]? =some (skD<|L.getD t AG):=by rw[aY];simp[bF,h]
theorem aCh{row:List Nat}{k:Nat}(h:k<row.length):row.take (k+1)=row.take k++[row.getD k 0]:=by rw[eK];simp[bF,h]
theorem oR(L:List (List Int))(m:Nat):(L.flatMap λs=>(aW m).map λ(w:Nat)=>s++[(w:Int)]).length=L.length*m:=by
 induction L with
 |nil=>simp
 |cons s L ih=>rw[List.flatMap_cons,aP,ih,aB,dE,bP,aHe,Nat.add_comm]
theorem vT:∀ (m k:Nat),(gH m k).length=m^k
 |_,0=>rfl
 |m,k+1=>by show((gH m k).flatMap _).length=_;rw[oR,vT m k,Nat.pow_succ]
theorem xY:∀ (m k:Nat),∀s∈gH m k,s.length=k
 |_,0,s,h=>by
  have:s=[]:=by simpa[gH] using h
  subst this;rfl
 |m,k+1,s,h=>by obtain⟨t,ht,hs⟩:=dN.mp h;obtain⟨w,_,rfl⟩:=aJ.mp hs;rw[aP,xY m k t ht];rfl
theorem aAf:∀p∈bU,∀k,k<p.2.toNat->((2^p.1.toNat)^k)*2^p.1.toNat<=900:=by decide+kernel
noncomputable def tabQ(p:Int×Int)(L:List SK)(row:List Nat):List (List Int):=(gH (2^p.1.toNat) p.2.toNat).map λws=>cY p L row ws
def aKo:List D->R->Prop:=λds r=>∃p L row,p∈bU/\StkOk p L/\(∀t∈row,t<L.length)/\ds=[bW p,.lst<|L.map skD,.tup<|bG row]/\r=.val (.tup<|(tabQ p L row).map bN)
theorem aJi(p:Int×Int)(L:List SK)(row:List Nat):(tabQ p L row).length=(gH (2^p.1.toNat) p.2.toNat).length:=aB _
theorem mJ{p:Int×Int}(hp:p∈bU):(gH (2^p.1.toNat) p.2.toNat).length<=64:=by
 have:∀p∈bU,(2^p.1.toNat)^p.2.toNat<=64:=by decide+kernel
 rw[vT];exact this p hp
theorem wF{L:List (List Int)}{d:D}(h:d∈L.map bN):∃ws∈L,d=bN ws:=by obtain⟨ws,hw,rfl⟩:=aJ.mp h;exact⟨ws,hw,rfl⟩
theorem aIc{p:Int×Int}(hp:p∈bU){L:List SK}(S:StkOk p L){row:List Nat}(h:∀t∈row,t<L.length):∀ws∈tabQ p L row,Fil p ws:=λws hw=>by obtain⟨v,hv,rfl⟩:=aJ.mp hw;exact gB S row v h<|hW hp hv
noncomputable def lC:D->List Int
 |.tup ds=>ds.map λd=>match d with | .int i=>i|_=>0
 |_=>[]
theorem iN(ws:List Int):lC (bN ws)=ws:=by
 show(ws.map D.int).map _=ws;rw[aN]
 induction ws with
 |nil=>rfl
 |cons w ws ih=>rw[aV,ih];rfl
section
variable {X:Cx}{sd:List Slot}{e a b c tg iter o:Expr}{es:List Expr}{pos:Pos}{r ra rb:R}{d:D}{ds:List D}{st:BN}{rest:List BN}{E:iT}
noncomputable def isN:D->Bool
 |.non=>true
 |_=>false
theorem aAW{K:aA}{H:Hp}{v:V}(h:Rep K H d v):decide (v=.non)=isN d:=by
 cases d with
 |non=>simp only[Rep] at h;subst h;rfl
 |bl=>simp only[Rep] at h;subst h;rfl
 |int=>simp only[Rep] at h;subst h;rfl
 |str=>simp only[Rep] at h;subst h;rfl
 |tup=>simp only[Rep] at h;obtain⟨a,xs,rfl,_⟩:=h;rfl
 |lst=>simp only[Rep] at h;obtain⟨a,xs,rfl,_⟩:=h;rfl
 |dic=>simp only[Rep] at h;obtain⟨a,rfl,_⟩:=h;rfl
 |dki=>simp only[Rep] at h;obtain⟨a,xs,rfl,_⟩:=h;rfl
 |any=>simp only[Rep] at h;obtain⟨⟨a,rfl⟩,_⟩:=h;rfl
 |scr=>simp only[Rep] at h;obtain⟨a,rfl,_⟩:=h;rfl
theorem vN(ha:PEd X sd a (.val d))(hb:PEd X sd b (.val .non)):PTd X sd (.Compare a [.Is] [b] pos) (isN d):=
 jW aJM ha hb trivial (iM _) λσ F H v u Q S q1 q2 k=>by simp only[ResOk,Rep] at q2;have q1:Rep _ _ _ _:=q1;exact⟨q2,by rw[aAW q1];exact k F H S<|Same.refl _⟩
theorem lR(ha:PEd X sd a (.val d))(hb:PEd X sd b (.val .non)):PTd X sd (.Compare a [.IsNot] [b] pos) (!isN d):=
 jW aLX ha hb trivial (iM _) λσ F H v u Q S q1 q2 k=>by simp only[ResOk,Rep] at q2;have q1:Rep _ _ _ _:=q1;exact⟨q2,by rw[aAW q1];exact k F H S<|Same.refl _⟩
theorem aPl(ha:PEd X sd a (.val d))(hb:PEd X sd b (.val .non)):PEd X sd (.Compare a [.Is] [b] pos) (.val (.bl<|isN d)):=
 vW aJM ha hb trivial (iM _) λσ F H v u Q S q1 q2 k=>by simp only[ResOk,Rep] at q2;have q1:Rep _ _ _ _:=q1;exact⟨q2,by rw[aAW q1];exact k F H S<|Same.refl _⟩
theorem nL{p p2 q2:Pos}{n:Nat}(hg:Gl X "list")(hm:X.mg "list"=none)(hg2:Gl X "range")(hm2:X.mg "range"=none)(ha:PEd X sd e (.val<|.int (n:Int)))(h1:n<=1000)
  (hc:X.calm=true:=by rfl) (hst:AC [e] X.env=(false,eval e X.env)::AC [] X.env:=by rfl) (hst2:AC [.Call (.Name "range" p2) [e] [] q2] X.env=(false,eval (.Call (.Name "range" p2) [e] [] q2) X.env)::AC [] X.env:=by rfl):
  PEd X sd (.Call (.Name "list" p) [.Call (.Name "range" p2) [e] [] q2] [] pos) (.own<|fC 0 n):=.mk λσ F H S pins s I=>by
 refine AJ<|hX I hg hm PyProof.Rows.boot_list ?_;refine PyProof.Rows.callWith_type1 ?_ hst2 rfl;rw[hst2];refine Calls.spliced_cons (AJ<|hX I hg2 hm2 boot_range ?_);refine PyProof.Rows.callWith_type1 (thn ((dP (te:=wE X e) eV pa_nil hst) q2 pins s σ H (λus H1=>∃v F1,us=[v]/\StF X.K X.B₀ F1 H1 σ sd/\Same F F1/\ResOk X.K F1 H1 sd (.val<|.int (n:Int)) v) I<|(ha σ F H S).imp λv H1 ⟨F1,S1,s1,q1⟩=>⟨v,F1,rfl,S1,s1,q1⟩) λus s1 hus=> ?_) hst rfl;obtain⟨ws,H1,I1,rv,v,F1,rfl,S1,sF,q1⟩:=hus;obtain⟨u,rfl,ru⟩:=mL rv;simp only[ResOk,Rep] at q1;subst q1;obtain⟨t,rfl⟩:=ru;refine call_range_1<|Calls.spliced_nil ?_;have hr:IsRange (s1.heap.push {cls:=.type "range",data:=.fields #[.int 0 s1.toks,.int (n:Int) t,.int 1<|s1.toks+1]}) s1.heap.objs.size 0 (n:Int) 1 s1.toks t (s1.toks+1):=IsRange.new ..
 have sz:Builtin.Range.rangeSize 0 (n:Int) 1=(n:Int):=by
  rw[rangeSize_one]
  split<;>omega
 refine call_list_range (I1.ok.hd hc) hr (small_one (by omega) (by omega) (by omega)<|by omega) sz (by omega) λh' tk acc c' kp g it=> ?_
 have kp2:∀b o,s1.heap.get? b=some o->h'.get? b=some o:=λb o g=>kp b o<|aD _ g
 have le:s1.heap.objs.size<=(s1.heap.push {cls:=.type "range",data:=.fields #[.int 0 s1.toks,.int (n:Int) t,.int 1<|s1.toks+1]}).objs.size:=by rw[size_push'];exact fK _
 generalize (s1.heap.push {cls:=.type "range",data:=.fields #[.int 0 s1.toks,.int (n:Int) t,.int 1<|s1.toks+1]}).objs.size=dd at g le;have hD:H1 dd=none:=I1.hok.fresh le;have ln:acc.toList.length=n:=by rw[cZ];exact it.1
 have vl:Vals ((aW n).map λ(k:Nat)=>V.int<|0+(k:Int)) acc.toList:=by
  have g:∀ (l:List BH) (f:Nat->Int),(∀ (j:Nat) (v:BH),l[j]? =some v->∃t,v=.int (f j) t)->Vals ((aW l.length).map λ(k:Nat)=>V.int<|f k) l:=λl=>by
   induction l with
   |nil=>intro f _;exact .nil
   |cons x l ih=>intro f h;obtain⟨t,e⟩:=h 0 x rfl;rw[bP,aDI,aV,aN];exact .cons ⟨t,e⟩ (ih (λk=>f<|k+1) λj v hv=>h (j+1) v<|by simpa using hv)
  have:=g acc.toList (λk=>0+(k:Int)) λj v hv=>by obtain⟨t,e⟩:=it.2 j v (by rw[<-eM];exact hv);exact⟨t,by rw[e];congr 1;omega⟩
  rw[ln] at this;exact this
 have I3:Inv X pins σ (upd H1 dd<|.lst ((aW n).map λ(k:Nat)=>V.int<|0+(k:Int))) {s1 with heap:=h',toks:=tk}:=
  I1.laid kp2 le ⟨by rw[aB,dE];exact dL<|eG h1,acc.toList,c',vl,by simpa using g⟩
 obtain⟨S4,fp,no⟩:=S1.layO (xs:=(aW n).map λ(k:Nat)=>V.int<|0+(k:Int)) hD;refine⟨.ref dd,_,I3,rfl,F1,S4,sF,dd,_,rfl,fp,bL, ?_,no⟩
 have gg:∀ks:List Nat,RepL X.K F1 (ks.map λ(k:Nat)=>D.int<|0+(k:Int)) (ks.map λ(k:Nat)=>V.int<|0+(k:Int)):=λks=>by
  induction ks with
  |nil=>exact .nil
  |cons k ks ih=>exact .cons (by simp only[Rep]) ih
 exact gg _
end
theorem aRz{u d n c:Nat}(h:u+n<c)(hd:d+1<=n):u+d+1<c:=by omega
noncomputable def bT(p:Int×Int):List (List Int):=gH (2^p.1.toNat) p.2.toNat
noncomputable def aQf:Option (List Int)->D
 |none=>.non
 |some ws=>bN ws
noncomputable def lkD:Option (List Nat)->D
 |none=>.non
 |some l=>.lst<|bG l
noncomputable def bxQ(n:Nat):Option (List Nat)->List Nat
 |none=>aW n
 |some l=>l
structure aCQ(p:Int×Int)(T:List (List Int)):Prop where
 len:T.length=(bT p).length
 fil:∀ws∈T,Fil p ws
def aJE(p:Int×Int)(o:Option (List Nat)):Prop:=∀l,o=some l->l.length<=100/\∀b∈l,b<p.2.toNat
theorem aOv{p:Int×Int}(hp:p∈bU){o:Option (List Nat)}(h:aJE p o):(bxQ p.2.toNat o).length<=100/\∀b∈bxQ p.2.toNat o,b<p.2.toNat:=by
 cases o with
 |none=>obtain⟨h1,h2,h3,h4,h5⟩:=pE p hp;exact⟨by show(aW _).length<=100;rw[dE];omega,λb hb=>bE.mp hb⟩
 |some l=>exact h l rfl
def aEc:List D->R->Prop:=λds r=>∃p o,p∈bU/\ds=[bW p,lkD o]/\r=.own (bG<|bxQ p.2.toNat o)
def aCB:List D->R->Prop:=λds r=>∃ (bs:List Nat) (ws:List Int),bs.length<=100/\(∀b∈bs,b<ws.length)/\ds=[.lst<|bG bs,bN ws]/\r=.own ((bs.map λj=>ws.getD j 0).map D.int)
theorem kI(n:Nat):fC 0 n=bG (aW n):=by
 unfold fC bG;refine bQ λk _=> ?_
 rw[jH]
theorem aEP{V:List (List Int)}{k:Nat}(h:k<V.length):(V.map bN)[k]? =some (bN<|V.getD k []):=by simp[bF,h]
theorem uC{α:Type}{L:List α}{k:Nat}(d:α)(h:k<L.length):L.take (k+1)=L.take k++[L.getD k d]:=by rw[eK];simp[bF,h]
section
variable {X:Cx}{sd:List Slot}{e a b c tg iter o:Expr}{es:List Expr}{pos:Pos}{r ra rb:R}{d:D}{ds:List D}{st:BN}{rest:List BN}{E:iT}
theorem aKB{pins:List (BJ×BM)}{s:BI}{σ:St}{H:Hp}{x:V}{v:BH}{xs:List V}{its:List BH}(I:Inv X pins σ H s)(rx:RelV x v)(hd:Rep X.K H d x)(rl:RepL X.K H ds xs)(rv:Vals xs its)(p1:pl d=true)(p2:plL ds=true)(hu:X.A.units+1+jZ ds<AM):∃an:BH->Bool,(∀w,w∈its.toArray->SeqAt.EqAt X.A.in1 s w v (an w))/\its.toArray.any an=ds.any λz=>deq z d:=by
 have hat:∀ (j:Nat) (w:BH),its[j]? =some w->∃z v,ds[j]? =some z/\xs[j]? =some v/\Rep X.K H z v/\RelV v w:=λj w hw=>by
  have hj:j<its.length:=(aI.mp hw).1;have hx:j<xs.length:=by rw[Vals.length rv];exact hj
  have hd:j<ds.length:=by rw[<-rl.len];exact hx
  obtain⟨v,hv,rz⟩:=rl.get (i:=j) (d:=ds[j]) (by simp[hd])
  exact ⟨ds[j],v,by simp [hd],hv,rz,by
   have:=rv.get hv;obtain⟨w',hw',r⟩:=this;rw[hw] at hw';cases hw'
   exact r⟩
 have dc:=λw:BH=>Classical.propDecidable (∃ (j:Nat) (z:D),its[j]? =some w/\ds[j]? =some z/\deq z d=true)
 refine⟨λw=> @decide _<|dc w,λw hw=> ?_, ?_⟩
 ·show SeqAt.EqAt X.A.in1 s w v (@decide _<|dc w)
  by_cases q:∃ (j:Nat) (z:D),its[j]? =some w/\ds[j]? =some z/\deq z d=true
  ·obtain⟨j,z,e1,e2,e3⟩:=q;obtain⟨z',v,f1,f2,f3,f4⟩:=hat j w e1;rw[e2] at f1;cases f1;have: @decide _ (dc w)=true:=by rw[decide_eq_true_eq];exact⟨j,z,e1,e2,e3⟩
   rw[this,<-e3];exact aBW I.hok z (aAN p2 e2) p1 f3 hd f4 rx (by have:=xR e2;show X.A.units+1+dep z<AM;omega)
  ·have hw':w∈its:=by simpa using hw
   obtain⟨j,hj,rfl⟩:=gX hw';obtain⟨z,v,f1,f2,f3,f4⟩:=hat j its[j] (by simp[hj])
   have e3:deq z d=false:=by
    cases h:deq z d with
    |false=>rfl
    |true=>exact(q ⟨j,z,by simp[hj],f1,h⟩).elim
   have: @decide _ (dc its[j])=false:=by rw[decide_eq_false_iff_not];exact q
   rw[this,<-e3];exact aBW I.hok z (aAN p2 f1) p1 f3 hd f4 rx (by have:=xR f1;show X.A.units+1+dep z<AM;omega)
 ·rw[gM,List.any_toArray,vY,vY]
  constructor
  ·rintro⟨w,hw,q⟩;rw[decide_eq_true_eq] at q;obtain⟨j,z,e1,e2,e3⟩:=q;exact⟨z,bH e2,e3⟩
  ·rintro⟨z,hz,e3⟩;obtain⟨j,hj,rfl⟩:=gX hz;have hi:j<its.length:=by rw[<-Vals.length rv,rl.len];exact hj
   exact⟨its[j],fP hi,by rw[decide_eq_true_eq];exact⟨j,ds[j],by simp[hi],by simp[hj],e3⟩⟩
theorem aGK(d:D)(ds:List D)(p1:pl d=true)(p2:plL ds=true)(hu:X.A.units+1+jZ ds<AM):OpR X (AO .NotIn) (λx y H Q=>Rep X.K H (.lst ds) y/\Rep X.K H d x/\Q (.bl<|!ds.any λz=>deq z d) H):=by intro pins s σ H x y v u Q I rx ry h;obtain⟨hl,hd,k⟩:=h;obtain⟨a,xs,its,rfl,rfl,rl,rv,ht⟩:=lB I.hok hl ry;obtain⟨an,h1,h2⟩:=aKB I rx hd rl rv p1 p2 hu;exact SeqAt.notIn_listAt an ht h1 ⟨.bl _,H,I,rfl,by rw[h2];exact k⟩
theorem aCf(ha:PEd X sd a (.val d))(hb:PEd X sd b (.val<|.lst ds))(p1:pl d=true)(p2:plL ds=true)(hu:X.A.units+1+jZ ds<AM)(hk:AR .NotIn b=false:=by with_unfolding_all rfl):PTd X sd (.Compare a [.NotIn] [b] pos) (!ds.any λz=>deq z d):=
 jW (aGK d ds p1 p2 hu) ha hb trivial hk λσ F H x u Q S q1 q2 k=>⟨Rep.mono S.sub q2,Rep.mono S.sub q1,k F H S<|Same.refl _⟩
end
theorem RepL.erase{K:aA}{H:Hp}:∀ {ds:List D}{xs:List V} (k:Nat),RepL K H ds xs->RepL K H (ds.eraseIdx k) (xs.eraseIdx k)
 |[],xs,k,r=>by simp only[RepL] at r;subst r;exact .nil
 |d::ds,xs,k,r=>by
  obtain⟨y,ys,rfl,a,rl⟩:=r.uncons;cases k with
  |zero=>exact rl
  |succ k=>exact .cons a<|RepL.erase k rl
section
variable {X:Cx}{sd:List Slot}{E:iT}{e a b o:Expr}{ds es:List D}{d:D}{pos:Pos}
theorem aDk(i j:Nat){x y:Str}{p ap cp p2 ap2 cp2:Pos}{l l2:BJ}{k:Nat}(hij:i≠j)(hs:sd[i]? =some (.own l ds))(hs2:sd[j]? =some (.own l2 es))(h:PEd X sd e (.val<|.int (k:Int)))(hk:es[k]? =some d)(hk2:k<1000)(hl:ds.length<=1000)
  (hE:E.nx ((sd.set j (.own l2<|es.eraseIdx k)).set i (.own l<|ds++[d])))
  (hm:PE X (.Call (.Attribute (.Name x p) "append" ap) [.Call (.Attribute (.Name y p2) "pop" ap2) [e] [] cp2] [] cp) (tBM X.K "list" sA (iQ i)<|nF (tBM X.K "list" aKz (iQ j)<|nF (wE X e) yH) yH):=by exact aDQ gW mV mW uH (pv _) (dP (aDQ gW PySem.F.slot_list_pop PySem.F.type_list_pop aIH (pv _)<|dP eV pa_nil) pa_nil))
  (hsw:AX (.Call (.Attribute (.Name x p) "append" ap) [.Call (.Attribute (.Name y p2) "pop" ap2) [e] [] cp2] [] cp) none pos.line X.env=pure false:=by rfl):
  PSd1 X sd (.Expr (.Call (.Attribute (.Name x p) "append" ap) [.Call (.Attribute (.Name y p2) "pop" ap2) [e] [] cp2] [] cp) pos) E:=.mk λσ F H S=>
 (sQ hm hsw).to (by
  obtain⟨o,h1,h2,n,xs,q,rl⟩:=S.slots.get hs;obtain⟨o2,g1,g2,n2,xs2,q2,rl2⟩:=S.slots.get hs2;refine⟨.ref l,by rw[h1,h2],.inl ⟨rfl,xs,.of q⟩,.ref l2,by rw[g1,g2],.inl ⟨rfl,xs2,.of q2⟩,(h σ F H S).imp λv H1 ⟨F1,S1,s1,q1⟩=> ?_⟩;simp only[ResOk,Rep] at q1;subst q1;obtain⟨_,_,_,m,ys,z,rz⟩:=S1.slots.get hs2;obtain⟨w,hw,rw'⟩:=rz.get hk;have kl:k<ys.length:=(aI.mp hw).1;have S2:=S1.wr hs2<|rz.erase k
  have hs':(sd.set j (.own l2<|es.eraseIdx k))[i]? =some (.own l ds):=by rw[gO<|Ne.symm hij];exact hs
  obtain⟨_,_,_,m3,ys3,z3,rz3⟩:=S2.slots.get hs'
  exact⟨l2,ys,(k:Int),k,w,rfl,rfl,z,by omega,by omega,(aBl (by unfold ixN;rw[if_pos (by omega),if_pos (by omega)];rfl)).1,hw,l,ys3,w,rfl,rfl,z3,by rw[rz3.len];exact eG hl,_,F1,S2.wr hs' (rz3.app (.one rw')),s1,hE⟩)
theorem RepL.atI{K:aA}{H:Hp}{xs:List V}{i:Int}(r:RepL K H ds xs)(h:L2.atI ds i=some d):∃v,L2.atI xs i=some v/\Rep K H d v:=by
 unfold L2.atI at h ⊢;rw[r.len];cases e:ixN ds.length i with
 |none=>rw[e] at h;cases h
 |some j=>rw[e] at h;exact r.get h
theorem aNe{i:Int}(ha:PEd X sd a (.bor ds))(hb:PEd X sd b (.val<|.int i))(hd:atI ds i=some d)(hs:nQ b):PEd X sd (.Subscript a b pos) (.val d):=.mk λσ F H S=>
 (aHD aBi eV eV hs).to ((ha σ F H S).imp fun v H1 ⟨F1,S1,s1,q1⟩=>(hb σ F1 H1 S1).imp fun u H2 ⟨F2,S2,s2,q2⟩=>by
  obtain⟨p,xs,e1,hp,rl,_⟩:=ResOk.keep (r:=.bor ds) trivial q1 S2 s2;simp only[ResOk,Rep] at q2;obtain⟨w,hw,rw'⟩:=rl.atI hd
  exact⟨p,xs,i,w,e1,q2,.of hp,hw,F2,S2,s1.trans s2,rw'⟩)
end
noncomputable def aNv(c:Int)(k:Nat):Int:=(c%2147483647*48271+(k:Int)*(k:Int)*69621+7919)%2147483647
noncomputable def kJ(c:Int)(k:Nat):Int:=if c%2=1 then c / 2 else(aNv c k*aNv c k+16807*aNv c k+(k:Int))%2147483629
def aBT:List D->R->Prop:=λds r=>∃ (c:Int) (k:Nat),ds=[.int c,.int (k:Int)]/\k<=1000/\r=.val (.int<|kJ c k)
theorem aIw(c:Int)(k:Nat):0<=aNv c k/\aNv c k<2147483647:=⟨dG _<|by decide,cK _<|by decide⟩
noncomputable def aLb(c:Int)(p:Int×Int):List Int:=(aW p.2.toNat).map λ(b:Nat)=>c / ((2^(p.1.toNat*b):Nat):Int)%((2^p.1.toNat:Nat):Int)
def aNQ:List D->R->Prop:=λds r=>∃c p,p∈bU/\ds=[.int c,bW p]/\r=.val (bN<|aLb c p)
theorem aMM(c:Int)(p:Int×Int):Fil p (aLb c p):=by refine⟨by simp[aLb],λw hw=> ?_⟩;obtain⟨b,_,rfl⟩:=aJ.mp hw;have m0:=pw0 p.1.toNat;exact⟨dG _<|gR m0,cK _ m0⟩
theorem qX{τ:List Nat}{b:Nat}(h:b<τ.length):(bG τ)[b]? =some (.int ((τ.getD b 0:Nat):Int)):=by unfold bG;rw[aY];simp[bF,h]
section
variable {X:Cx}{sd:List Slot}{b:Expr}{pos:Pos}
theorem nO{k:Nat}{q:Nat}{p:Pos}(hb:PEd X sd b (.val<|.int (k:Int)))(hk:k<=1000):PEd X sd (.BinOp (.Constant (.int 1) q p) .LShift b pos) (.val<|.int ((2^k:Nat):Int)):=
 PEd.ic (dM aPo bV hb ⟨by omega,by omega,by decide⟩) (by rw[Int.one_mul,cF];push_cast;rfl)
end
noncomputable def byT(w:AI):Bool:=w.params.followText "set-order"
noncomputable def eO(b:Nat):List Nat:=(aW 6).filter λi=>b / 2^i%2==1
noncomputable def iY(k:Nat)(ks:List Nat):List Nat:=ks.filter (λi=>decide<|i<k)++k::ks.filter (λi=>decide<|k<i)
noncomputable def aPV(led:Bool)(m mv:Nat)(ks:List Nat):BP:={mask:=m,place:=ks.toArray,dummies:= #[],finger:=0,led:=led,moves:=mv,plain:=true}
noncomputable def kS(led:Bool)(ks:List Nat):BP:=if ks.length<5 then aPV led 7 0 ks else aPV led 31 1 ks
noncomputable def xK(k:Nat)(ks:List Nat):Nat:=(ks.filter λi=>decide<|i<k).length
noncomputable def uP(led:Bool)(ks:List Nat):BP:=if ks.length<6 then aPV led 7 0 ks else aPV led 31 1 ks
theorem aQQ:∀led:Bool,∀b,b<64->∀k,k<6->(eO b).contains k=false->(kS led<|eO b).freeSlot ((k:Nat):Int)=some (k,false):=by decide+kernel
theorem aRj:∀led:Bool,∀b,b<64->∀k,k<6->(eO b).contains k=false->((kS led<|eO b).put k).1=uP led (iY k<|eO b):=by decide+kernel
theorem aRO:∀led:Bool,∀b,b<64->∀k,k<6->(eO b).contains k=false->((kS led<|eO b).put k).2=xK k (eO b):=by decide+kernel
theorem aNL:∀led:Bool,∀b,b<64->(uP led<|eO b).fits (eO b).length=true/\(kS led<|eO b).fits (eO b).length=true/\((uP led<|eO b).tooFull=decide ((eO b).length=5)):=by decide+kernel
theorem tabB:∀led:Bool,∀b,b<64->(eO b).length=5->(uP led<|eO b).relaid ((eO b).map eZ).toArray (aJD 5)=some (kS led<|eO b, #[0,1,2,3,4]):=by decide+kernel
theorem aQy:∀b,b<64->∀k,k<6->∃c,c<64/\iY k (eO b)=eO c:=by decide+kernel
theorem subM:∀b,b<64->∀k,k<6->(eO b).contains k=true->iY k (eO b)=eO b:=by decide+kernel
theorem aSp:∀b,b<64->(eO b).length<=6/\∀k∈eO b,k<6:=by decide+kernel
theorem subN:∀b,b<64->∀i,i<7->i<=(eO b).length->wC (eO b).toArray (match i with|0=>0|j+1=>(eO b).getD j 0+1)=i:=by decide+kernel
theorem subS:∀b,b<64->((eO b).map eZ).Pairwise (·<=·):=by decide+kernel
theorem aSD:∀b,b<64->∀k,k<6->(eO b).contains k=false->(iY k<|eO b).length=(eO b).length+1:=by decide+kernel
theorem subT:∀b,b<64->∀k,k<6->(eO b).contains k=false->(eO b).take (xK k<|eO b)=(eO b).filter (λi=>decide<|i<k)/\(eO b).drop (xK k<|eO b)=(eO b).filter (λi=>decide<|k<i):=by decide+kernel
def okK(ks:List Nat):Prop:=∃b,b<64/\ks=eO b
theorem nY:okK []:=⟨0,by decide,rfl⟩
theorem aLU{ks:List Nat}{k:Nat}(h:okK ks)(hk:k<6):okK (iY k ks):=by obtain⟨b,hb,rfl⟩:=h;exact aQy b hb k hk
theorem pY{ks:List Nat}(h:okK ks):ks.length<=6/\∀k∈ks,k<6:=by obtain⟨b,hb,rfl⟩:=h;exact aSp b hb
structure SmS(w:AI)(o:BM)(ks:List Nat):Prop where
 ex:∃ (es:List (Int×BH)) (ep:Nat),o={cls:=.type "set",dict:=none,data:=.set es.toArray ep (kS (!byT w) ks)}/\es.map (·.1)=ks.map eZ/\∀e∈es,∃t,e.2=.int e.1 t
theorem xA:∀k,k<6->hashInt ((k:Nat):Int)=(k:Int):=by decide+kernel
theorem aRk{α:Type}(l:List α)(p:Nat)(y:α):aDL l.toArray p y=(l.take p++y::l.drop p).toArray:=by unfold aDL;apply oF.mp;simp;exact gA<|by simp
theorem layK(led:Bool){ks:List Nat}(hks:okK ks){k:Nat}(hk:k<6)(hc:ks.contains k=false)(es:List (Int×BH))(hl:es.length=ks.length)(x:BH):layNew (kS led ks) es.toArray (k:Int) x=((es.take (xK k ks)++((k:Int),x)::es.drop (xK k ks)).toArray,uP led<|iY k ks,false,false):=by
 obtain⟨b,hb,rfl⟩:=hks;unfold layNew;rw[aQQ led b hb k hk hc];have e2:(kS led<|eO b).put k=(uP led (iY k<|eO b),xK k<|eO b):=Prod.ext (aRj led b hb k hk hc)<|aRO led b hb k hk hc;simp only[e2,aRk];obtain⟨c,hc2,ec⟩:=aQy b hb k hk
 have sz:(es.take (xK k<|eO b)++((k:Int),x)::es.drop (xK k<|eO b)).toArray.size=(iY k<|eO b).length:=by rw[aSD b hb k hk hc];simp only[aK,aP,dD,bP,eX];have:xK k (eO b)<=(eO b).length:=fO _ _;omega
 have ft:(uP led (iY k<|eO b)).fits (iY k<|eO b).length=true:=by rw[ec];exact(aNL led c hc2).1
 rw[sz];unfold SetTable.orStandIn;rw[ft];simp
variable {prog:AD}{A:BK}{E:BH->BI->Prop}
theorem aMy{es:List (Int×BH)}{ks:List Nat}(hk:∀k∈ks,k<6)(h1:es.map (·.1)=ks.map eZ)(h2:∀e∈es,∃t,e.2=.int e.1 t):ElemsOf (intKind prog w) es.toArray.toList:=by
 intro e he;have he:e∈es:=by simpa using he
 obtain⟨t,q⟩:=h2 e he;have:e.1∈ks.map eZ:=by rw[<-h1];exact rJ he
 obtain⟨k,km,ek⟩:=aJ.mp this;refine⟨⟨e.1, ?_, ?_⟩, ?_⟩
 ·rw[q];exact intKind_is _ _ _ _
 ·rw[<-ek];exact(xA k<|hk k km).symm
 ·rw[q];rfl
theorem addK{a:BJ}{o:BM}{ks:List Nat}{k:Nat}{t:Tok}{Q:Bool->BI->Prop}(hk:k<6)(hks:okK ks)(ho:s.heap.get? a=some o)(S:SmS w o ks)
  (h:∀ (b:Bool) (h':BL) (o':BM) (tk:Nat),Heap.SameBut a s.heap h'->h'.get? a=some o'->SmS w o' (iY k ks)->Q b {s with heap:=h',toks:=tk}):AE (AF prog w) A (setAdd a<|.int (k:Int) t) Q E s:=by
 obtain⟨es,ep,rfl,e1,e2⟩:=S.ex;obtain⟨l6,m6⟩:=pY hks;unfold setAdd;refine AT (AA<|(intKind prog w).pyHash (k:=(k:Int)) (intKind_is _ _ _ _) ?_);have hh:(intKind prog w).hash (k:Int)=(k:Int):=xA k hk;have el:=aMy (prog:=prog) (w:=w) m6 e1 e2
 have ln:es.length=ks.length:=by have:=congrArg qM e1;simpa using this
 have fit:(kS (!byT w) ks).fits es.toArray.size=true:=by obtain⟨b,hb,rfl⟩:=hks;rw[aK,ln];exact(aNL _ b hb).2.1
 unfold setAddHashed setAddHashedIn;refine AT (AA<|Au (s:={s with toks:=s.toks+1}) ho rfl fit ?_);dsimp only;rw[byScan_of (knd:=intKind prog w) (x:=.int (k:Int) t) rfl (by simp[scanBound,ln];omega) el];simp only[if_true];unfold setAddByScan;refine AA (AA<|wpAny_rule (AA<|wpAny_setScan_of (s:={s with toks:=s.toks+1}) (knd:=intKind prog w) (k:=(k:Int)) (intKind_is _ _ _ _) ho rfl fit el ?_));rw[hh];cases hc:ks.contains k with
 |true=>
  have km:k∈ks:=by simpa using hc
  have:((k:Nat):Int)∈es.map (·.1):=by rw[e1];exact aJ.mpr ⟨k,km,rfl⟩
  obtain⟨e,he,ee⟩:=aJ.mp this;obtain⟨t',et⟩:=e2 e he
  have hs:(intKind prog w).is (k:Int) e.2=true:=by rw[et,ee];exact intKind_is _ _ _ _
  cases hf:aQi (λe=>(intKind prog w).is (k:Int) e.2) es.toArray.toList with
  |none=>rw[aAI] at hf;have:=hf e (by simpa using he);rw[hs] at this;cases this
  |some j=>
   dsimp only;refine AB<|AB ?_;refine h false s.heap _ _ (Heap.SameBut.refl a s.heap) ho ?_
   have:iY k ks=ks:=by obtain⟨b,hb,rfl⟩:=hks;exact subM b hb k hk hc
   rw[this];exact S
 |false=>
  have nf:aQi (λe=>(intKind prog w).is (k:Int) e.2) es.toArray.toList=none:=by
   rw[aAI];intro e he;have he:e∈es:=by simpa using he
   obtain⟨t',et⟩:=e2 e he;have:e.1∈ks.map eZ:=by rw[<-e1];exact rJ he
   obtain⟨i,im,ei⟩:=aJ.mp this;rw[et,<-ei,KeyKind.is_eq_decide (knd:=intKind prog w) (intKind_is prog w (eZ i) t') (k:Int)]
   have:i≠k:=λz=>by
    rw[z] at im;have:ks.contains k=true:=by simpa using im
    rw[hc] at this;cases this
   simp;omega
  rw[nf];dsimp only;rw[layK (!byT w) hks hk hc es ln];dsimp only;obtain⟨b,hb,rfl⟩:=hks;obtain⟨c,hcb,ec⟩:=aQy b hb k hk;have tT:=subT b hb k hk hc;have lp:=aSD b hb k hk hc;generalize hes:es.take (xK k<|eO b)++((k:Int),Value.int (k:Int) t)::es.drop (xK k<|eO b)=es'
  have i2:es'.map (·.1)=(iY k<|eO b).map eZ:=by rw[<-hes,aZ,aV,gC,gD,e1,<-gC,<-gD,tT.1,tT.2];unfold iY;rw[aZ,aV];rfl
  have i3:∀e∈es',∃t,e.2=.int e.1 t:=by
   intro e he;rw[<-hes] at he
   rcases bC.mp he with he|he
   ·exact e2 e<|dR he
   ·rcases aU.mp he with rfl|he
    ·exact⟨t,rfl⟩
    ·exact e2 e<|eC he
  have l':es'.length=(iY k<|eO b).length:=by have:=congrArg qM i2;simpa using this
  have l7:es'.length<=7:=by omega
  have pln:(uP (!byT w) (iY k<|eO b)).plain=true:=by unfold uP;split<;>rfl
  refine AA<|AB ?_;rw[pln];simp only[if_true];refine AA ?_;rw[hashByValue_scannable 8 (x:=.int (k:Int) t) rfl];refine AB ?_;simp only[plainKind,if_true];refine AA (wpAny_storeSet_of (s:={s with toks:=s.toks+1}) ho rfl ?_<|by rw[AU,aK];omega);have tf:=(aNL (!byT w) c hcb).2.2;rw[<-ec] at tf;rw[tf];have g1:=cX (Obj.putSet es'.toArray<|uP (!byT w) (iY k<|eO b)) ho (by rw[putSet_of _ _ rfl];rfl);rw[putSet_of _ _ rfl] at g1
  by_cases h5:(iY k<|eO b).length=5
  ·rw[decide_eq_true h5];simp only[Bool.not_false,Bool.and_self,if_true]
   have rl:relayAll (uP (!byT w) (iY k<|eO b)) es'.toArray (aJD es'.toArray.size)=(es'.toArray,kS (!byT w) (iY k<|eO b),false):=by
    unfold relayAll;have z5:es'.toArray.size=5:=by rw[aK,l',h5]
    have hm:es'.toArray.map (·.1)=((iY k<|eO b).map eZ).toArray:=by rw[List.map_toArray,i2]
    have rb:=tabB (!byT w) c hcb (by rw[<-ec];exact h5);rw[<-ec] at rb;rw[z5,hm,rb];dsimp only
    have ord:(#[0,1,2,3,4]:Array Nat).filterMap (es'.toArray[·]?)=es'.toArray:=by
     have l5:es'.length=5:=by omega
     match es',l5 with
     |[a,b,c,d,e],_=>rfl
    rw[ord,z5];have ft:=(aNL (!byT w) c hcb).2.1;rw[<-ec,h5] at ft;rw[ft];rfl
   rw[rl];dsimp only;refine AA<|AB ?_;refine AA (wpAny_storeSet_of (es':=es'.toArray) g1 rfl ?_<|by rw[AU,aK];omega);refine AB<|AB ?_;have g2:=cX (Obj.putSet es'.toArray<|kS (!byT w) (iY k<|eO b)) g1 (by rw[putSet_of _ _ rfl];rfl);rw[putSet_of _ _ rfl] at g2;exact h true _ _ _ ((Heap.SameBut.update s.heap a _).trans<|Heap.SameBut.update _ a _) g2 ⟨es',_,rfl,i2,i3⟩
  ·rw[decide_eq_false h5];simp only[aPT,cJ,if_false]
   have et:uP (!byT w) (iY k<|eO b)=kS (!byT w) (iY k<|eO b):=by
    unfold uP kS
    by_cases q:(iY k<|eO b).length<5
    ·rw[if_pos<|by omega,if_pos q]
    ·rw[if_neg<|by omega,if_neg q]
   rw[et] at g1 ⊢;refine AB<|AB ?_;exact h true _ _ _ (Heap.SameBut.update s.heap a _) g1 ⟨es',_,rfl,i2,i3⟩
noncomputable def fH:List Nat->List Nat->List Nat
 |ks,[]=>ks
 |ks,v::vs=>fH (iY v ks) vs
theorem mK:∀ {vs ks:List Nat},okK ks->(∀v∈vs,v<6)->okK (fH ks vs)
 |[],_,h,_=>h
 |v::vs,ks,h,hv=>mK (vs:=vs) (ks:=iY v ks) (aLU h<|hv v aH) λx hx=>hv x<|aE _ hx
theorem aMu{k x:Nat}{ks:List Nat}:x∈iY k ks↔x=k\/x∈ks:=by
 unfold iY;simp only[bC,aU,cS,decide_eq_true_eq]
 constructor
 ·rintro(⟨h,_⟩|h|⟨h,_⟩)
  ·exact .inr h
  ·exact .inl h
  ·exact .inr h
 ·rintro(h|h)
  ·exact .inr<|.inl h
  ·rcases Nat.lt_trichotomy x k with q|q|q
   ·exact .inl ⟨h,q⟩
   ·exact .inr<|.inl q
   ·exact .inr<|.inr ⟨h,q⟩
theorem lH{x:Nat}:∀ {vs ks:List Nat},x∈fH ks vs↔x∈ks\/x∈vs
 |[],ks=>by simp[fH]
 |v::vs,ks=>by
  show x∈fH (iY v ks) vs↔_;rw[lH,aMu,aU]
  constructor
  ·rintro((h|h)|h)
   ·exact .inr<|.inl h
   ·exact .inl h
   ·exact .inr<|.inr h
  ·rintro(h|h|h)
   ·exact .inl<|.inr h
   ·exact .inl<|.inl h
   ·exact .inr h
theorem aOi{R:Result->BI->Prop}{I S:BJ}{fp wr:List BJ}{n:Nat}{P:Nat->BH->Prop}{St:Nat->BL->Prop}(W:Walks prog w A.in1 I fp wr n P St)(hSf:S∉fp)(vs:List Nat)(hn:vs.length=n)(hv:∀v∈vs,v<6)
  (hval:∀i v,P i v->∃t,v=.int ((vs.getD i 0:Nat):Int) t):∀ (m i:Nat) (s:BI) (o:BM),n-i=m->i<=n->St i s.heap->s.heap.get? S=some o->SmS w o (fH []<|vs.take i)->
   (∀h' tk o',(∀b x,b≠S->b∉wr->s.heap.get? b=some x->h'.get? b=some x)->h'.get? S=some o'->SmS w o' (fH [] vs)->R (.ok<|.ret .none) {s with heap:=h',toks:=tk})->
   At (AF prog w) A (.builtin "set.update.loop" ⟨[.ref S,.ref I],[]⟩) R s:=by
 have hSw:S∉wr:=λh=>hSf<|W.sub _ h
 have snoc:∀ (a:List Nat) (b:Nat) (ks:List Nat),fH ks (a++[b])=iY b (fH ks a):=λa=>by
  induction a with
  |nil=>intro b ks;rfl
  |cons x xs ih=>intro b ks;exact ih b<|iY x ks
 intro m
 induction m with
 |zero=>
  intro i s o hm hi st ho sm k;have e:i=n:=by omega
  subst e;refine Aa F.entry_set_update_loop ?_;rw[Around.under_plainId F.plain_set_update_loop];refine AA<|W.done s _ _ st λh' tk kp=>AB ?_;rw[<-hn,dW] at sm;exact k h' tk o (λb x _ hb g=>kp b x hb g) (kp S o hSw ho) sm
 |succ m ih=>
  intro i s o hm hi st ho sm k;have hlt:i<n:=by omega
  have hlt':i<vs.length:=by omega
  refine Aa F.entry_set_update_loop ?_;rw[Around.under_plainId F.plain_set_update_loop];refine AA<|W.item i s _ _ hlt st λv h' tk hP st' kp=> ?_;obtain⟨t,rfl⟩:=hval i v hP;have vi:vs.getD i 0=vs[i]:=by simp[bF,hlt']
  have v6:vs.getD i 0<6:=by rw[vi];exact hv _<|fP hlt'
  have tk1:vs.take (i+1)=vs.take i++[vs.getD i 0]:=by rw[eK,vi];simp[hlt']
  have small:okK (fH []<|vs.take i):=mK nY λv hv'=>hv v<|dR hv'
  refine AA (AT<|addK (s:={s with heap:=h',toks:=tk}) v6 small (kp S o hSw ho) sm λb h2 o2 tk2 sb g2 sm2=> ?_);have sm3:SmS w o2 (fH [] (vs.take<|i+1)):=by rw[tk1,snoc];exact sm2
  refine AB ⟨Av F.plain_set_update_loop _,ih (i+1) _ o2 (by omega) hlt (W.frame _ _ _ st' λb hb x g=> ?_) g2 sm3 λh3 tk3 o3 kp3 g3 sm4=> ?_⟩
  ·rw[sb.2 b λz=>hSf<|z▸hb];exact g
  ·refine k h3 tk3 o3 (λb x h1 h2 g=>kp3 b x h1 h2 ?_) g3 sm4;rw[sb.2 b h1];exact kp b x h2 g
theorem aBE:isSubtype (.type "tuple") (.type "set")=pure false:=by rw[AY];kernel_rfl
theorem aDt:isSubtype (.type "tuple") (.type "frozenset")=pure false:=by rw[AY];kernel_rfl
noncomputable abbrev qR(w:AI):BM:={cls:=.type "set",dict:=none,data:=.set #[] 0 (kS (!byT w) [])}
theorem aSn(a:BH){Q₁:BH->BI->Prop}(h:Q₁ (.ref s.heap.objs.size) {s with heap:=s.heap.push (qR w)}):
  At (AF prog w) A (.call (.builtin "set.__new__") ⟨[.type "set",a],[]⟩) (wants Q₁ E) s:=by
 refine codeAny_of_tree ?_;refine AA (m:=checkBuiltinCall "set.__new__" _) (Ao (F.newCall_set_1 a)<|AB ⟨Av F.plain_set_new _,Aa F.entry_set_new ?_⟩);rw[Around.under_plainId F.plain_set_new];unfold Builtin.«set.__new__» Builtin.Frozenset.newClass;have q:=sub_set_self;obtain⟨hp,g,d,tk,os⟩:=s;dsimp only
 wp_walk
 refine BE<|AB ?_;dsimp only;simp only[newObj];refine AA<|wpAny_alloc (AB<|AB ?_);exact h
theorem aRN{R:Result->BI->Prop}{S:BJ}{items:Array BH}(vs:List Nat)(hn:vs.length=items.size)(hv:∀v∈vs,v<6)(hi:∀ (i:Nat) (v:BH),items[i]? =some v->∃t,v=.int ((vs.getD i 0:Nat):Int) t)(hh:A.handled=none)
  (ho:s.heap.get? S=some (qR w)) (ht:s.heap.IsTuple l items)
  (k:∀h' tk o',(∀b x,b≠S->s.heap.get? b=some x->h'.get? b=some x)->h'.get? S=some o'->SmS w o' (fH [] vs)->R (.ok<|.ret .none) {s with heap:=h',toks:=tk}):
  AE (AF prog w) A.in1 (Builtin.«set.__init__» ⟨[.ref S,.ref l],[]⟩) (λfin s'=>match fin with | .done f=>R (.ok f) s' | .again c'=>c'.quiet=true/\At (AF prog w) A c' R s') (λe s'=>R (.error e) s') s:=by
 obtain⟨ol,hol,hcl,nl,hdl⟩:=id ht;obtain⟨ocls,odict,odata,oslots⟩:=ol;simp only at hcl hdl;subst hcl hdl;have q1:=aBE;have q2:=aDt;have q3:(Value.type "tuple"==Value.type "dict")=false:=by decide
 have hT:Shared.TypeIs s (.ref S) "set":=⟨_,ho,rfl⟩
 have hSl:S≠l:=λz=>by rw[z,hol] at ho;have q:(Value.type "tuple")=Value.type "set":=congrArg Obj.cls<|bY.inj ho;exact absurd q<|by decide
 unfold Builtin.«set.__init__» noKeywords Builtin.Frozenset.updateFrom;generalize pI:pyIter=PI
 wp_walk
 subst pI;refine wpAny_pyIter_tuple (show s.heap.IsTuple l items from ht) (AA<|wpAny_runValue ?_);have lS:l<s.heap.objs.size:=aO hol;have sS:S<s.heap.objs.size:=aO ho;refine aOi (n:=items.size) (P:=λi v=>items[i]? =some v) (Walks.tuple (A:=A.in1.in1) (by simpa using hh) s.heap.objs.size l (bM lS) items) (λz=> ?_) vs hn hv hi (items.size-0) 0 _ (qR w) rfl (cD _) ⟨⟨_,aS _ rfl,rfl,rfl⟩,ht.push _⟩ (aD _ ho) ⟨[],0,rfl,rfl,λe he=>by cases he⟩ λh' tk o' kp g sm=> ?_
 ·rcases aU.mp z with z|z
  ·exact bM sS z
  ·exact hSl (by simpa using z)
 ·refine AB (AB<|k h' tk o' (λb x h1 g=>kp b x h1 (λz=> ?_)<|aD _ g) g sm);have z:b=s.heap.objs.size:=by simpa using z
  exact absurd (aO g) (by rw[z];exact dZ _)
theorem aRv{Q:BH->BI->Prop}{items:Array BH}(vs:List Nat)(hn:vs.length=items.size)(hv:∀v∈vs,v<6)(hi:∀ (i:Nat) (v:BH),items[i]? =some v->∃t,v=.int ((vs.getD i 0:Nat):Int) t)(hh:A.handled=none)(ht:s.heap.IsTuple l items)
  (k:∀h' tk o',(∀b x,s.heap.get? b=some x->h'.get? b=some x)->h'.get? s.heap.objs.size=some o'->SmS w o' (fH [] vs)->Q (.ref s.heap.objs.size) {s with heap:=h',toks:=tk}):
  AE (AF prog w) A (call (.type "set") [.ref l]) Q E s:=by
 obtain⟨c,tl,m1⟩:=F.called_set.mro;have m2:=F.called_set.made;have m3:=F.called_set.sub;refine wpAny_call<|codeAny_of_tree (show AE _ _ (callAny (.type "set") _) _ _ _ from ?_);refine AB ⟨Code.quiet_builtin _<|by decide+kernel,Aa F.entry_type_call ?_⟩;rw[Around.under_plain (weight_type_call_type "set" [Value.ref l] []) rfl];have m4:=F.called_set.notType;have m5:=F.called_set.canCreate;have m6:=F.typeCall_set_1<|.ref l
 repeat (any_goals (first|assumption|wp_step))
 refine Ah (aSn (.ref l) (E:=E) (Q₁:=λob s1=>ob=.ref s.heap.objs.size/\s1={s with heap:=s.heap.push (qR w)}) ⟨rfl,rfl⟩) λr s1 hr=> ?_
 cases r with
 |error e=>exact hr
 |ok fl=>
  cases fl with
  |ret ob=>
   obtain⟨rfl,rfl⟩:=hr;have ho:(s.heap.push<|qR w).get? s.heap.objs.size=some (qR w):=aS _ rfl;have hT:Shared.TypeIs {s with heap:=s.heap.push (qR w)} (.ref s.heap.objs.size) "set":=⟨_,ho,rfl⟩;have m7:=F.called_set.init.lookup;have m8:=F.called_set.init.bind<|.ref s.heap.objs.size
   repeat (any_goals (first|assumption|wp_step))
   refine Ah (codeAny_call_builtin (R:=wants (λr s2=>r=.none/\∃h' tk o',s2={s with heap:=h',toks:=tk}/\(∀b x,s.heap.get? b=some x->h'.get? b=some x)/\h'.get? s.heap.objs.size=some o'/\SmS w o' (fH [] vs)) E) F.called_set.init.plain F.entry_set_init<|check_set_init_1 hT ?_) λr2 s2 hr2=> ?_
   ·refine aRN (s:={s with heap:=s.heap.push (qR w)}) vs hn hv hi (by simpa using hh) ho (ht.push _) λh' tk o' kp g sm=> ?_
    exact⟨rfl,h',tk,o',rfl,λb x gx=>kp b x (bM<|aO gx)<|aD _ gx,g,sm⟩
   ·cases r2 with
    |error e=>exact hr2
    |ok fl2=>
     cases fl2 with
     |ret r=>
      obtain⟨rfl,h',tk,o',rfl,kp,g,sm⟩:=hr2
      repeat (any_goals (first|assumption|wp_step))
      exact k _ _ _ kp g sm
     |_=>exact hr2.elim
  |_=>exact hr.elim
theorem aBx:isSubtype (.type "list") (.type "set")=pure false:=by rw[AY];kernel_rfl
theorem aDv:isSubtype (.type "list") (.type "frozenset")=pure false:=by rw[AY];kernel_rfl
theorem aQK{R:Result->BI->Prop}{S:BJ}{items:Array BH}(vs:List Nat)(hn:vs.length=items.size)(hv:∀v∈vs,v<6)(hi:∀ (i:Nat) (v:BH),items[i]? =some v->∃t,v=.int ((vs.getD i 0:Nat):Int) t)(hh:A.handled=none)
  (ho:s.heap.get? S=some (qR w)) (ht:s.heap.IsList l items)
  (k:∀h' tk o',(∀b x,b≠S->s.heap.get? b=some x->h'.get? b=some x)->h'.get? S=some o'->SmS w o' (fH [] vs)->R (.ok<|.ret .none) {s with heap:=h',toks:=tk}):
  AE (AF prog w) A.in1 (Builtin.«set.__init__» ⟨[.ref S,.ref l],[]⟩) (λfin s'=>match fin with | .done f=>R (.ok f) s' | .again c'=>c'.quiet=true/\At (AF prog w) A c' R s') (λe s'=>R (.error e) s') s:=by
 obtain⟨ol,hol,hcl,nl,hdl⟩:=id ht;obtain⟨ocls,odict,odata,oslots⟩:=ol;simp only at hcl hdl;subst hcl hdl;have q1:=aBx;have q2:=aDv;have q3:(Value.type "list"==Value.type "dict")=false:=by decide
 have hT:Shared.TypeIs s (.ref S) "set":=⟨_,ho,rfl⟩
 have hSl:S≠l:=λz=>by rw[z,hol] at ho;have q:(Value.type "list")=Value.type "set":=congrArg Obj.cls<|bY.inj ho;exact absurd q<|by decide
 unfold Builtin.«set.__init__» noKeywords Builtin.Frozenset.updateFrom;generalize pI:pyIter=PI
 wp_walk
 subst pI;refine wpAny_pyIter_list (show s.heap.IsList l items from ht) (AA<|wpAny_runValue ?_);have lS:l<s.heap.objs.size:=aO hol;have sS:S<s.heap.objs.size:=aO ho;refine aOi (n:=items.size) (P:=λi v=>items[i]? =some v) (Walks.list (A:=A.in1.in1) (by simpa using hh) s.heap.objs.size l (bM lS) items) (λz=> ?_) vs hn hv hi (items.size-0) 0 _ (qR w) rfl (cD _) ⟨⟨_,aS _ rfl,rfl,rfl⟩,ht.push _⟩ (aD _ ho) ⟨[],0,rfl,rfl,λe he=>by cases he⟩ λh' tk o' kp g sm=> ?_
 ·rcases aU.mp z with z|z
  ·exact bM sS z
  ·exact hSl (by simpa using z)
 ·refine AB (AB<|k h' tk o' (λb x h1 g=>kp b x h1 (λz=> ?_)<|aD _ g) g sm);have z:b=s.heap.objs.size:=by simpa using z
  exact absurd (aO g) (by rw[z];exact dZ _)
theorem aRu{Q:BH->BI->Prop}{items:Array BH}(vs:List Nat)(hn:vs.length=items.size)(hv:∀v∈vs,v<6)(hi:∀ (i:Nat) (v:BH),items[i]? =some v->∃t,v=.int ((vs.getD i 0:Nat):Int) t)(hh:A.handled=none)(ht:s.heap.IsList l items)
  (k:∀h' tk o',(∀b x,s.heap.get? b=some x->h'.get? b=some x)->h'.get? s.heap.objs.size=some o'->SmS w o' (fH [] vs)->Q (.ref s.heap.objs.size) {s with heap:=h',toks:=tk}):
  AE (AF prog w) A (call (.type "set") [.ref l]) Q E s:=by
 obtain⟨c,tl,m1⟩:=F.called_set.mro;have m2:=F.called_set.made;have m3:=F.called_set.sub;refine wpAny_call<|codeAny_of_tree (show AE _ _ (callAny (.type "set") _) _ _ _ from ?_);refine AB ⟨Code.quiet_builtin _<|by decide+kernel,Aa F.entry_type_call ?_⟩;rw[Around.under_plain (weight_type_call_type "set" [Value.ref l] []) rfl];have m4:=F.called_set.notType;have m5:=F.called_set.canCreate;have m6:=F.typeCall_set_1<|.ref l
 repeat (any_goals (first|assumption|wp_step))
 refine Ah (aSn (.ref l) (E:=E) (Q₁:=λob s1=>ob=.ref s.heap.objs.size/\s1={s with heap:=s.heap.push (qR w)}) ⟨rfl,rfl⟩) λr s1 hr=> ?_
 cases r with
 |error e=>exact hr
 |ok fl=>
  cases fl with
  |ret ob=>
   obtain⟨rfl,rfl⟩:=hr;have ho:(s.heap.push<|qR w).get? s.heap.objs.size=some (qR w):=aS _ rfl;have hT:Shared.TypeIs {s with heap:=s.heap.push (qR w)} (.ref s.heap.objs.size) "set":=⟨_,ho,rfl⟩;have m7:=F.called_set.init.lookup;have m8:=F.called_set.init.bind<|.ref s.heap.objs.size
   repeat (any_goals (first|assumption|wp_step))
   refine Ah (codeAny_call_builtin (R:=wants (λr s2=>r=.none/\∃h' tk o',s2={s with heap:=h',toks:=tk}/\(∀b x,s.heap.get? b=some x->h'.get? b=some x)/\h'.get? s.heap.objs.size=some o'/\SmS w o' (fH [] vs)) E) F.called_set.init.plain F.entry_set_init<|check_set_init_1 hT ?_) λr2 s2 hr2=> ?_
   ·refine aQK (s:={s with heap:=s.heap.push (qR w)}) vs hn hv hi (by simpa using hh) ho (ht.push _) λh' tk o' kp g sm=> ?_
    exact⟨rfl,h',tk,o',rfl,λb x gx=>kp b x (bM<|aO gx)<|aD _ gx,g,sm⟩
   ·cases r2 with
    |error e=>exact hr2
    |ok fl2=>
     cases fl2 with
     |ret r=>
      obtain⟨rfl,h',tk,o',rfl,kp,g,sm⟩:=hr2
      repeat (any_goals (first|assumption|wp_step))
      exact k _ _ _ kp g sm
     |_=>exact hr2.elim
  |_=>exact hr.elim
theorem slot_sit_next:PySem.Slot "set_iterator" "__next__" "set_iterator.__next__":=
 .of (owner:="set_iterator") (n:="__next__") (by rw[Am,AW];kernel_rfl) (by decide+kernel) (by decide+kernel) (by decide+kernel) (by first|exact .inl (by decide+kernel)|exact .inr (by decide+kernel)) (by rw[AY];kernel_rfl)
theorem yA:entryFor table "set_iterator.__next__"=some Builtin.«set_iterator.__next__»:=entryFor_of_tree (by kernel_rfl)
theorem zL(a:BH):argsOk "set_iterator.__next__" ⟨[a],[]⟩:=by unfold argsOk;kernel_rfl
theorem qL:PySem.Slot "set_iterator" "__iter__" "set_iterator.__iter__":=
 .of (owner:="set_iterator") (n:="__iter__") (by rw[Am,AW];kernel_rfl) (by decide+kernel) (by decide+kernel) (by decide+kernel) (by first|exact .inl (by decide+kernel)|exact .inr (by decide+kernel)) (by rw[AY];kernel_rfl)
theorem yR:entryFor table "set_iterator.__iter__"=some Builtin.«dict_keyiterator.__iter__»:=entryFor_alias (id':="dict_keyiterator.__iter__") (by kernel_rfl) rfl (by decide+kernel) (by kernel_rfl)
theorem zF(a:BH):argsOk "set_iterator.__iter__" ⟨[a],[]⟩:=by unfold argsOk;kernel_rfl
theorem aCW:entryFor table "set.__iter__"=some Builtin.«frozenset.__iter__»:=entryFor_alias (id':="frozenset.__iter__") (by kernel_rfl) rfl (by decide+kernel) (by kernel_rfl)
noncomputable def oB(w:AI)(S:BJ)(ep:Nat)(es:List (Int×BH)):List (Int×BH):=if byT w then(pickOrder (w.params.setOrder S ep) es.toArray).toList else es
theorem uV{α:Type}:∀ (l:List α) (i:Nat) (h:i<l.length),(l[i]::l.eraseIdx i).Perm l
 |[],_,h=>by simp at h
 |a::l,0,_=>.refl _
 |a::l,i+1,h=>by show(l[i]'(by simpa using h)::a::l.eraseIdx i).Perm (a::l);exact(List.Perm.swap a _ _).trans<|.cons a (uV l i<|by simpa using h)
theorem aEy{α:Type}(f:Nat->Nat):∀ (n k:Nat) (left:List α) (out:Array α),left.length=n->(pickOrder.go f n k left out).toList.Perm (out.toList++left)
 |0,_,left,out,h=>by have:left=[]:=dS h;subst this;rw[cH];exact List.Perm.refl _
 |n+1,k,left,out,h=>by have hlt:f k%left.length<left.length:=Nat.mod_lt _ (by omega);unfold pickOrder.go;rw[dC hlt];dsimp only;refine(aEy f n (k+1) _ _<|by rw[aAC hlt];omega).trans ?_;rw[Array.toList_push,fX];exact List.Perm.append_left _<|uV left _ hlt
theorem aAp{S:BJ}{ep:Nat}(es:List (Int×BH)):(oB w S ep es).Perm es:=by
 unfold oB
 split
 ·have:=aEy (w.params.setOrder S ep) es.toArray.size 0 es.toArray.toList #[] (by simp);simpa[pickOrder] using this
 ·exact List.Perm.refl _
noncomputable def stK(w:AI)(ks:List Nat)(i:Nat):Nat:=if byT w then 0 else match i with
 |0=>0
 |j+1=>ks.getD j 0+1
theorem aOY{ks:List Nat}(h:okK ks)(hb:byT w=false)(i:Nat)(hi:i<=ks.length):wC ks.toArray (stK w ks i)=i:=by obtain⟨b,hb2,rfl⟩:=h;have l6:=(aSp b hb2).1;unfold stK;rw[hb];exact subN b hb2 i (by omega) hi
noncomputable def itK(w:AI)(S:BJ)(ks:List Nat)(ep i:Nat):BM:={cls:=.type "set_iterator",data:=.fields #[Aq<|stK w ks i,Aq i,.ref S,Aq ks.length,Aq ep]}
noncomputable def soK(w:AI)(es:List (Int×BH))(ep:Nat)(ks:List Nat):BM:={cls:=.type "set",dict:=none,data:=.set es.toArray ep (kS (!byT w) ks)}
theorem aNy{es:List (Int×BH)}{ks:List Nat}(hk:okK ks)(hl:es.length=ks.length):(kS (!byT w) ks).fits es.toArray.size=true:=by obtain⟨b,hb,rfl⟩:=hk;rw[aK,hl];exact(aNL _ b hb).2.1
theorem plK(led:Bool)(ks:List Nat):(kS led ks).plain=true/\(kS led ks).place=ks.toArray:=by
 unfold kS
 split<;>exact⟨rfl,rfl⟩
theorem aRo{S:BJ}{es:List (Int×BH)}{ep:Nat}{ks:List Nat}{Q:Option (BH×Nat)->BI->Prop}(hk:okK ks)(hl:es.length=ks.length)(ho:s.heap.get? S=some (soK w es ep ks))(hi:i<=ks.length)(h:Q (((oB w S ep es)[i]?).map λe=>(e.2,stK w ks<|i+1)) s):
  AE (AF prog w) A (setNext S (stK w ks i) i ep) Q E s:=by
 unfold setNext;refine AA<|Au ho rfl (aNy hk hl) ?_;dsimp only;refine AA ?_;unfold setsByText;refine AA (BE<|AB ?_);show AE _ _ (if byT w=true then _ else _) _ _ _;cases hb:byT w with
 |true=>
  simp only[if_true,bne_self_eq_false,cJ,if_false];refine AA ?_;unfold setWalk;refine AA<|Au ho rfl (aNy hk hl) ?_;dsimp only;refine AA ?_;unfold setsByText;refine AA (BE<|AB ?_);show AE _ _ (if byT w=true then _ else _) _ _ _;rw[hb];simp only[if_true];refine AA<|BE (AB<|AB ?_);have e:oB w S ep es=(pickOrder (w.params.setOrder S ep) es.toArray).toList:=by unfold oB;rw[hb];rfl
  have e2:stK w ks i=stK w ks (i+1):=by unfold stK;rw[hb];rfl
  rw[e] at h;rw[e2];rw[eM] at h;exact h
 |false=>
  simp only[cJ,if_false];have e:oB w S ep es=es:=by unfold oB;rw[hb];rfl
  have e2:wC (kS (!false) ks).place (stK w ks i)=i:=by rw[(plK _ ks).2];exact aOY hk hb i hi
  have e3:((oB w S ep es)[i]?).map (fun e=>(e.2,stK w ks (i+1)))=(match es.toArray[i]?,(kS (!false) ks).place[i]? with
     |some (_,x),some j=>some (x,j+1)
     |_,_=>none):=by
   have e4:stK w ks (i+1)=ks.getD i 0+1:=by unfold stK;rw[hb];rfl
   rw[e,e4];rw[(plK _ ks).2]
   show _=(match es.toArray[i]?,ks.toArray[i]? with
     |some (_,x),some j=>some (x,j+1)
     |_,_=>none)
   by_cases h1:i<ks.length
   ·have h2:i<es.length:=by omega
    simp[h1,h2,bF]
   ·have h2:¬ i<es.length:=by omega
    simp[h1,h2]
  rw[e2];rw[e3] at h
  have r1:∀ (t t':Sem (Option<|BH×Nat)),AE (AF prog w) A t Q E s->AE (AF prog w) A (if(!(kS (!false) ks).plain&&decide (es.toArray.size>1))=true then t' else t) Q E s:=λt t' ht=>by rw[(plK _ ks).1];exact ht
  refine r1 _ _ ?_;have led:(kS (!false) ks).led=true:=by unfold kS;split<;>rfl
  refine AA ?_
  wp_delta
  rw[led];exact AB<|AB h
theorem aAi{I S:BJ}{ks:List Nat}{ep:Nat}(h:s.heap.get? I=some (itK w S ks ep i)):s.TypeIs (.ref I) "set_iterator":=⟨_,h,rfl⟩
theorem aOu{I S:BJ}{es:List (Int×BH)}{ep:Nat}{ks:List Nat}{Q:Option BH->BI->Prop}(hk:okK ks)(hl:es.length=ks.length)(hI:s.heap.get? I=some (itK w S ks ep i))(ho:s.heap.get? S=some (soK w es ep ks))(hi:i<=ks.length)
  (h:AE (AF prog w) A.in1 (match ((oB w S ep es)[i]?).map fun e=>(e.2,stK w ks (i+1)) with
       |some (x,next)=>do
        setField (Value.ref I) 0 (Aq next)
        setField (Value.ref I) 1 (Aq<|(i:Int)+1)
        ret x
       |none=>do
        setField (Value.ref I) 2 Value.none
        raiseNew (<-newExc (Value.type "StopIteration") [])) (λfin s'=>∃v,fin=Fin.done (Flow.ret v)/\AE (AF prog w) A (pure (some v)) Q E s')
  (λe s'=>AE (AF prog w) A (do if <-isInstance e (Value.type "StopIteration") then pure none else throw e) Q E s') s):AE (AF prog w) A (pyNext (.ref I)) Q E s:=by
 have hT:=aAi hI;unfold pyNext;refine AA (BF<|AS (name:=Str.ofString "__next__") hT slot_sit_next (AQ slot_sit_next hT yA ?_<|zL _));unfold Builtin.«set_iterator.__next__»;refine AA<|AB (AA<|wpAny_fieldsOf hI rfl ?_);dsimp only;show AE _ _ (setEntries S>>=λes=>if((es.size:Int) !=(ks.length:Int))=true then _ else(setNext S (stK w ks i:Int).toNat (i:Int).toNat (ep:Int).toNat>>=_)) _ _ _;refine AA ?_;unfold setEntries;refine AA (Au ho rfl (aNy hk hl)<|AB ?_);rw[if_neg<|by simp[hl]];rw[cF,cF,cF];exact AA<|aRo hk hl ho hi h
theorem aRs{I S:BJ}{es:List (Int×BH)}{ep:Nat}{ks:List Nat}{c:Int}{v:BH}{Q:Option BH->BI->Prop}(hk:okK ks)(hl:es.length=ks.length)(hI:s.heap.get? I=some (itK w S ks ep i))(ho:s.heap.get? S=some (soK w es ep ks))(hi:i<ks.length)(hv:(oB w S ep es)[i]? =some (c,v))
  (h:∀h',h'.get? I=some (itK w S ks ep<|i+1)->Heap.SameBut I s.heap h'->Q (some v) {s with heap:=h'}):AE (AF prog w) A (pyNext<|.ref I) Q E s:=by
 refine aOu hk hl hI ho (dL hi) ?_;rw[hv];dsimp only[aHo];refine AA<|Ap hI rfl (by simp) ?_;have g1:=cX (Obj.mapFields (·.setIfInBounds 0 (Aq ((stK w ks (i+1):Nat):Int)))) hI rfl;refine AA (Ap (s:={s with heap:=s.heap.update I (Obj.mapFields (·.setIfInBounds 0 (Aq ((stK w ks (i+1):Nat):Int))))}) g1 rfl (by simp) ?_);have g2:=cX (Obj.mapFields (·.setIfInBounds 1 (Aq<|(i:Int)+1))) g1 rfl;refine AB ⟨v,rfl,AB<|h _ (g2.trans ?_) ((Heap.SameBut.update ..).trans<|Heap.SameBut.update ..)⟩;rfl
theorem endK{I S:BJ}{es:List (Int×BH)}{ep:Nat}{ks:List Nat}{Q:Option BH->BI->Prop}(hh:A.handled=none)(hk:okK ks)(hl:es.length=ks.length)(hI:s.heap.get? I=some (itK w S ks ep ks.length))(ho:s.heap.get? S=some (soK w es ep ks))(ho2:(oB w S ep es).length=ks.length)
  (h:∀h',Heap.ExtBut I s.heap h'->Q none {s with heap:=h'}):AE (AF prog w) A (pyNext<|.ref I) Q E s:=by
 refine aOu hk hl hI ho (aR _) ?_;rw[dJ<|by omega];dsimp only[aHo];refine AA (Ap hI rfl (by simp)<|AA ?_);simp only[newExc,newTuple];refine AA (AK (AA (m:=BD _ _)<|Ao (a:=Value.none) (by first|rfl|(simp only[BD];rfl)) (AK ?_<|by size_fits))<|by size_fits);simp only[raiseNew];refine AA<|wpAny_handled ?_;rw[show A.in1.handled=none from hh];refine AA (AB<|wpAny_throw ?_);refine AA (Aw (T:="StopIteration") (b:=true) ⟨_,aS _ rfl,rfl⟩ isSubtype_stop<|AB ?_);exact h _<|((Heap.SameBut.update ..).extBut.push _).push _
theorem aRT{S:BJ}{es:List (Int×BH)}{ep:Nat}{ks:List Nat}{Q:BH->BI->Prop}(hk:okK ks)(hl:es.length=ks.length)(ho:s.heap.get? S=some (soK w es ep ks))
  (h:Q (.ref s.heap.objs.size) {s with heap:=s.heap.push (itK w S ks ep 0)}):AE (AF prog w) A (pyIter<|.ref S) Q E s:=by
 have hT:s.TypeIs (.ref S) "set":=⟨_,ho,rfl⟩;refine wpAny_pyIter_slot hT F.slot_set_iter (AQ F.slot_set_iter hT aCW ?_<|F.args_set_iter_1 _);unfold Builtin.«frozenset.__iter__»;refine AA (AA<|AB (AB<|AA ?_));unfold Builtin.Frozenset.sizeOf setEntries;refine AA (AA<|Au ho rfl (aNy hk hl) (AB<|AB ?_));refine AA ?_;unfold setDrawn;refine AA<|Au ho rfl (aNy hk hl) ?_;dsimp only;refine AA ?_;unfold setsByText;refine AA<|BE (AB<|AB ?_)
 have dr:∀ (b:Bool) (t t':Sem Fin) (Q:Fin->BI->Prop) (E:BH->BI->Prop),AE (AF prog w) A.in1 t' Q E s->AE (AF prog w) A.in1 (if(b&&(!(kS (!byT w) ks).plain&&decide (es.toArray.size>1)))=true then t else t') Q E s:=λb t t' Q E ht=>by
  have:(b&&(!(kS (!byT w) ks).plain&&decide (es.toArray.size>1)))=false:=by rw[(plK _ ks).1];simp
  rw[this];exact ht
 refine dr _ _ _ _ _ (AA<|AB (AA<|wpAny_setEpoch_of ho rfl (aNy hk hl) ?_));refine AA (AK<|AB ⟨_,rfl,"set_iterator",_,⟨_,aS _ rfl,rfl⟩,slot_sit_next.lookup, ?_⟩);have e0:stK w ks 0=0:=by unfold stK;split<;>rfl
 have e:({cls:=Value.type "set_iterator",data:=.fields [Aq 0,Aq 0,Value.ref S,Aq (es.toArray.size:Int),Aq (ep:Int)].toArray}:BM)=itK w S ks ep 0:=by unfold itK;rw[e0];simp[hl]
 exact e▸h
theorem aRC{I S:BJ}{ks:List Nat}{ep:Nat}{Q:BH->BI->Prop}(hI:s.heap.get? I=some (itK w S ks ep i))(h:Q (.ref I) s):AE (AF prog w) A (pyIter<|.ref I) Q E s:=by have hT:=aAi hI;refine wpAny_pyIter_slot hT qL (AQ qL hT yR ?_<|zF _);exact AB ⟨_,rfl,"set_iterator",_,hT,slot_sit_next.lookup,h⟩
theorem rL{S:BJ}{ep:Nat}{es:List (Int×BH)}{ks:List Nat}(hk:okK ks)(hl:es.length=ks.length):(oB w S ep es).length=ks.length:=by rw[(aAp (w:=w) (S:=S) (ep:=ep) es).length_eq,hl]
theorem aOK(hh:A.handled=none){I S:BJ}{es:List (Int×BH)}{ep:Nat}{ks:List Nat}(hk:okK ks)(hl:es.length=ks.length)(hne:S≠I):
  Walks prog w A I [I,S] [I] ks.length (λi v=>∃c,(oB w S ep es)[i]? =some (c,v)) (λi h=>h.get? I=some (itK w S ks ep i)/\h.get? S=some (soK w es ep ks)) where
 sub:=λb hb=>by simp at hb;simp[hb]
 frame:=λ_ _ _ st kp=>⟨kp I (by simp) _ st.1,kp S (by simp) _ st.2⟩
 item:=λi s Q E hi st k=>by
  have hi':i<(oB w S ep es).length:=by rw[rL hk hl];exact hi
  obtain⟨⟨c,v⟩,hx⟩:∃p,(oB w S ep es)[i]? =some p:=⟨(oB w S ep es)[i],by simp[hi']⟩;refine aRs hk hl st.1 st.2 hi hx λh' g sb=>k v h' s.toks ⟨c,hx⟩ ⟨g, ?_⟩ λb o hb g=> ?_
  ·rw[sb.2 S hne];exact st.2
  ·rw[sb.2 b λz=>hb<|by simp[z]];exact g
 done:=λs Q E st k=>endK hh hk hl st.1 st.2 (rL hk hl) λh' eb=>k h' s.toks λb o hb g=>eb b o (λz=>hb<|by simp[z]) g
 self:=λ_ _ _ _ st k=>aRC st.1 k
theorem aRc{r:BJ}{Q:Bool->BI->Prop}(hT:s.TypeIs (.ref r) "set")(h:Q false s):AE (AF prog w) A (Builtin.List.listLengthHint<|.ref r) Q E s:=by
 unfold Builtin.List.listLengthHint;refine AA<|As hT F.slot_set_len.lookup ?_;generalize q:("set.__len__":String)=i0
 wp_delta
 rw[show splitId i0=some ("set","__len__") from by subst q;decide+kernel];subst q;refine AA (Aw (T:="set") (b:=true) hT sub_set_self<|Aj (λz=>absurd z<|by decide) λ_=> ?_);refine Aj (λ_=>AA (wpAny_typeOf hT<|AB h)) λz=>absurd (by decide+kernel) z
theorem srcK{S:BJ}{es:List (Int×BH)}{ep:Nat}{ks:List Nat}(hk:okK ks)(hl:es.length=ks.length):PySem.W.KdlSrc prog w "set" S S ks.length (λi v=>∃c,(oB w S ep es)[i]? =some (c,v)) (λh=>h.get? S=some (soK w es ep ks)) where
 type:=λ_ hm=>⟨_,hm,rfl⟩
 there:=λ_ hm=>⟨aO hm,aO hm⟩
 keep:=λ_ _ hm kp=>kp S (.inl rfl) _ hm
 notList:=by decide
 notTuple:=by decide
 hint:=λ_ _ _ _ hm q=>aRc ⟨_,hm,rfl⟩ q
 iter:=λ_ _ hh hm=>⟨_,_,(λ_ _ q=>aRT hk hl hm q),aOK hh hk hl (bM<|aO hm),⟨aS _ rfl,aD _ hm⟩⟩
theorem aBe:∀ {vs:List BH}{ns:List Int},IntsAre vs ns->Vals (ns.map V.int) vs
 |_,_,.nil=>.nil
 |_,_,.cons n t h=>.cons ⟨t,rfl⟩<|aBe h
theorem aDw{ks:List Nat}(h:okK ks):(ks.map eZ).Pairwise (·<=·):=by obtain⟨b,hb,rfl⟩:=h;exact subS b hb
theorem aFA{S:BJ}{o:BM}{ks:List Nat}{Q:BH->BI->Prop}(hh:A.handled=none)(hk:okK ks)(ho:s.heap.get? S=some o)(sm:SmS w o ks)
  (h:∀ (h':BL) (tk:Nat) (D:BJ) (vs:List BH) (n:Nat),(∀b x,s.heap.get? b=some x->h'.get? b=some x)->S<D->h'.get? D=some {cls:=.type "list",data:=.seq vs.toArray n}->IntsAre vs (ks.map eZ)->Q (.ref D) {s with heap:=h',toks:=tk}):
  AE (AF prog w) A (call (.builtin "sorted") [.ref S]) Q E s:=by
 obtain⟨es,ep,rfl,e1,e2⟩:=sm.ex
 have hl:es.length=ks.length:=by have:=congrArg qM e1;simpa using this
 have l2:ks.length<=6:=(pY hk).1;refine Calls.call_function_entry kind_sorted plain_sorted entry_sorted (args_sorted1 _) ?_;unfold Builtin.«sorted»;refine AA (m:=checkCount "sorted" 1 1 _)<|AB (AA<|PySem.W.kdu_collect (srcK hk hl) (by simpa using hh) ho (by rw[AU];omega) λh1 tk acc kp it=> ?_)
 have al:acc.toList=(oB w S ep es).map (·.2):=by
  apply kH;intro j
  by_cases hj:j<acc.toList.length
  ·have e3:acc.toList[j]? =some acc.toList[j]:=by simp[hj]
   obtain⟨c,q⟩:=it.2 j acc.toList[j] (by rw[<-eM];exact e3);rw[e3,aY,q];rfl
  ·have a1:acc.toList.length=ks.length:=by rw[cZ];exact it.1
   have a2:=rL (w:=w) (S:=S) (ep:=ep) hk hl;rw[dJ<|by omega,dJ<|by rw[aB];omega]
 have pm:=aAp (w:=w) (S:=S) (ep:=ep) es
 have ia:IntsAre acc.toList ((oB w S ep es).map (·.1)):=by
  rw[al]
  have g:∀l:List (Int×BH),(∀e∈l,∃t,e.2=Value.int e.1 t)->IntsAre (l.map (·.2)) (l.map (·.1)):=λl=>by
   induction l with
   |nil=>intro _;exact .nil
   |cons e l ih=>intro hh;obtain⟨t,q⟩:=hh e aH;rw[aV,aV,q];exact .cons _ t (ih λe he=>hh e<|aE _ he)
  exact g _ λe he=>e2 e<|pm.mem_iff.mp he
 have len:acc.toList.length<=6:=by rw[al,aB,rL hk hl];exact l2
 refine AA (wpAny_newList ?_<|by rw[AU];omega);have hoL:(h1.push {cls:=.type "list",data:=.seq acc.toList.toArray}).get? h1.objs.size=some (AZ "list" acc.toList.toArray 0):=aS _ rfl;refine AA<|AT (AQ PyProof.Rows.slot_list_sort ⟨_,hoL,rfl⟩ PyProof.Rows.entry_list_sort (list_sort_tree hoL ia (by omega) λout ns' a1 a2 a3=>⟨_,rfl,AB ⟨_,rfl, ?_⟩⟩)<|args_list_sort _)
 have en:ns'=ks.map eZ:=by have p1:ns'.Perm (ks.map eZ):=a2.trans (by rw[<-e1];exact pm.map _);exact List.Perm.eq_of_pairwise (le:=(·<=·)) (λa b _ _ h1 h2=>by omega) a3 (aDw hk) p1
 rw[en] at a1;have sz:h1.objs.size<(h1.push {cls:=.type "list",data:=.seq acc.toList.toArray}).objs.size:=by rw[size_push'];omega
 have keep:∀ (b:BJ) (x:BM),b≠h1.objs.size->h1.get? b=some x->(sortedHeap (h1.push {cls:=.type "list",data:=.seq acc.toList.toArray}) h1.objs.size acc.toList out).get? b=some x:=λb x hb g=>by unfold sortedHeap;rw[cP _ _<|Ne.symm hb];refine aD _<|aD _ ?_;rw[cP _ _<|Ne.symm hb];exact aD _ g
 obtain⟨n1,g1⟩:∃n1,((h1.push {cls:=.type "list",data:=.seq acc.toList.toArray}).update h1.objs.size<|Obj.mapSeq λ_=> #[]).get? h1.objs.size=some (AZ "list" #[] n1):=⟨_,BG hoL λ_=> #[]⟩;obtain⟨n2,g2⟩:∃n2,(sortedHeap (h1.push {cls:=.type "list",data:=.seq acc.toList.toArray}) h1.objs.size acc.toList out).get? h1.objs.size=some (AZ "list" out n2):=⟨_,BG (aD _<|aD _ g1) λ_=>out⟩;have le:S<h1.objs.size:=aO<|kp _ _ ho;exact h _ tk h1.objs.size out.toList n2 (λb x g=>keep b x (λz=>absurd (aO<|kp b x g)<|by rw[z];exact dZ _)<|kp b x g) le (by simpa using g2) a1
variable {e:Expr}{pos:Pos}
theorem wY{p p2 q2:Pos}{vs:List Nat}(hg:Gl X "sorted")(hm:X.mg "sorted"=none)(hg2:Gl X "set")(hm2:X.mg "set"=none)(ha:PEd X sd e (.val (.tup<|vs.map λ(k:Nat)=>D.int (k:Int))))(h6:∀v∈vs,v<6)
  (hc:X.calm=true:=by rfl) (hst:AC [e] X.env=(false,eval e X.env)::AC [] X.env:=by rfl) (hst2:AC [.Call (.Name "set" p2) [e] [] q2] X.env=(false,eval (.Call (.Name "set" p2) [e] [] q2) X.env)::AC [] X.env:=by rfl):
  PEd X sd (.Call (.Name "sorted" p) [.Call (.Name "set" p2) [e] [] q2] [] pos) (.own<|(fH [] vs).map λ(k:Nat)=>D.int (k:Int)):=.mk λσ F H S pins s I=>by
 refine AJ<|hX I hg hm boot_sorted ?_;refine PyProof.Rows.callWith_builtin1 ?_ hst2 rfl;rw[hst2];refine Calls.spliced_cons (AJ<|hX I hg2 hm2 PyProof.Rows.boot_set ?_);refine PyProof.Rows.callWith_type1 (thn ((dP (te:=wE X e) eV pa_nil hst) q2 pins s σ H (λus H1=>∃v F1,us=[v]/\StF X.K X.B₀ F1 H1 σ sd/\Same F F1/\ResOk X.K F1 H1 sd (.val (.tup<|vs.map λ(k:Nat)=>D.int (k:Int))) v) I<|(ha σ F H S).imp λv H1 ⟨F1,S1,s1,q1⟩=>⟨v,F1,rfl,S1,s1,q1⟩) λus s1 hus=> ?_) hst rfl;obtain⟨ws,H1,I1,rv,v,F1,rfl,S1,sF,q1⟩:=hus;obtain⟨u,rfl,ru⟩:=mL rv;simp only[ResOk,Rep] at q1;obtain⟨l,xs,rfl,hl,rl⟩:=q1;cases ru
 have rl':RepL X.K F1 ((vs.map λ(k:Nat)=>(k:Int)).map D.int) xs:=by rw[aN];exact rl
 have ex:=rl'.ints;subst ex;obtain⟨its,rv2,ht,hz⟩:=I1.tuple (.of<|S1.sub _ _ hl)
 have ln:its.length=vs.length:=by have:=rv2.length;simpa using this.symm
 refine aRv vs (by simpa using ln.symm) h6 (λi v hv=> ?_) (I1.ok.hd hc) ht λh' tk o' kp g sm=> ?_
 ·obtain⟨q,t,q2⟩:=aAV rv2 (by simpa using hv);refine⟨t, ?_⟩;rw[q2];congr 1;have qi:i<vs.length:=by simpa using q
  simp[bF,qi]
 ·refine Calls.spliced_nil ?_;refine aFA (s:={s1 with heap:=h',toks:=tk}) (I1.ok.hd hc) (mK nY h6) g sm λh3 tk3 dd ws n kp3 le g3 ia=> ?_
  have I2:Inv X pins σ H1 {s1 with heap:=h3,toks:=tk3}:=I1.kept λb o g=>kp3 b o<|kp b o g
  have le2:s1.heap.objs.size<=dd:=dL le;have hD:H1 dd=none:=I1.hok.fresh le2
  have I3:Inv X pins σ (upd H1 dd (.lst<|((fH [] vs).map eZ).map V.int)) {s1 with heap:=h3,toks:=tk3}:=
   I1.laid (fun b o g=>kp3 b o (kp b o g)) le2 ⟨by
    rw[AU,aB,aB];have:=(pY<|mK nY h6).1
    omega,ws,n,aBe ia,g3⟩
  obtain⟨S4,fp,no⟩:=S1.layO (xs:=((fH [] vs).map eZ).map V.int) hD;refine⟨.ref dd,_,I3,rfl,F1,S4,sF,dd,_,rfl,fp,bL, ?_,no⟩
  have gg:∀ks:List Nat,RepL X.K F1 (ks.map λ(k:Nat)=>D.int (k:Int)) ((ks.map eZ).map V.int):=λks=>by
   induction ks with
   |nil=>exact .nil
   |cons k ks ih=>exact .cons (by simp only[Rep];rfl) ih
  exact gg _
theorem aBC{p p2 q2:Pos}{vs:List Nat}(hg:Gl X "sorted")(hm:X.mg "sorted"=none)(hg2:Gl X "set")(hm2:X.mg "set"=none)(ha:PEd X sd e (.bor<|vs.map λ(k:Nat)=>D.int (k:Int)))(h6:∀v∈vs,v<6)
  (hc:X.calm=true:=by rfl) (hst:AC [e] X.env=(false,eval e X.env)::AC [] X.env:=by rfl) (hst2:AC [.Call (.Name "set" p2) [e] [] q2] X.env=(false,eval (.Call (.Name "set" p2) [e] [] q2) X.env)::AC [] X.env:=by rfl):
  PEd X sd (.Call (.Name "sorted" p) [.Call (.Name "set" p2) [e] [] q2] [] pos) (.own<|(fH [] vs).map λ(k:Nat)=>D.int (k:Int)):=.mk λσ F H S pins s I=>by
 refine AJ<|hX I hg hm boot_sorted ?_;refine PyProof.Rows.callWith_builtin1 ?_ hst2 rfl;rw[hst2];refine Calls.spliced_cons (AJ<|hX I hg2 hm2 PyProof.Rows.boot_set ?_);refine PyProof.Rows.callWith_type1 (thn ((dP (te:=wE X e) eV pa_nil hst) q2 pins s σ H (λus H1=>∃v F1,us=[v]/\StF X.K X.B₀ F1 H1 σ sd/\Same F F1/\ResOk X.K F1 H1 sd (.bor<|vs.map λ(k:Nat)=>D.int (k:Int)) v) I<|(ha σ F H S).imp λv H1 ⟨F1,S1,s1,q1⟩=>⟨v,F1,rfl,S1,s1,q1⟩) λus s1 hus=> ?_) hst rfl;obtain⟨ws,H1,I1,rv,v,F1,rfl,S1,sF,q1⟩:=hus;obtain⟨u,rfl,ru⟩:=mL rv;obtain⟨l,xs,rfl,hl,rl,_⟩:=q1;cases ru
 have rl':RepL X.K F1 ((vs.map λ(k:Nat)=>(k:Int)).map D.int) xs:=by rw[aN];exact rl
 have ex:=rl'.ints;subst ex;obtain⟨its,rv2,ht0,hz⟩:=I1.list<|.of hl;have ht:s1.heap.IsList l its.toArray:=ht0.isList
 have ln:its.length=vs.length:=by have:=rv2.length;simpa using this.symm
 refine aRu vs (by simpa using ln.symm) h6 (λi v hv=> ?_) (I1.ok.hd hc) ht λh' tk o' kp g sm=> ?_
 ·obtain⟨q,t,q2⟩:=aAV rv2 (by simpa using hv);refine⟨t, ?_⟩;rw[q2];congr 1;have qi:i<vs.length:=by simpa using q
  simp[bF,qi]
 ·refine Calls.spliced_nil ?_;refine aFA (s:={s1 with heap:=h',toks:=tk}) (I1.ok.hd hc) (mK nY h6) g sm λh3 tk3 dd ws n kp3 le g3 ia=> ?_
  have I2:Inv X pins σ H1 {s1 with heap:=h3,toks:=tk3}:=I1.kept λb o g=>kp3 b o<|kp b o g
  have le2:s1.heap.objs.size<=dd:=dL le;have hD:H1 dd=none:=I1.hok.fresh le2
  have I3:Inv X pins σ (upd H1 dd (.lst<|((fH [] vs).map eZ).map V.int)) {s1 with heap:=h3,toks:=tk3}:=
   I1.laid (fun b o g=>kp3 b o (kp b o g)) le2 ⟨by
    rw[AU,aB,aB];have:=(pY<|mK nY h6).1
    omega,ws,n,aBe ia,g3⟩
  obtain⟨S4,fp,no⟩:=S1.layO (xs:=((fH [] vs).map eZ).map V.int) hD;refine⟨.ref dd,_,I3,rfl,F1,S4,sF,dd,_,rfl,fp,bL, ?_,no⟩
  have gg:∀ks:List Nat,RepL X.K F1 (ks.map λ(k:Nat)=>D.int (k:Int)) ((ks.map eZ).map V.int):=λks=>by
   induction ks with
   |nil=>exact .nil
   |cons k ks ih=>exact .cons (by simp only[Rep];rfl) ih
  exact gg _
theorem slot_rvs_next:PySem.Slot "reversed" "__next__" "reversed.__next__":=
 .of (owner:="reversed") (n:="__next__") (by rw[Am,AW];kernel_rfl) (by decide+kernel) (by decide+kernel) (by decide+kernel) (by first|exact .inl (by decide+kernel)|exact .inr (by decide+kernel)) (by rw[AY];kernel_rfl)
theorem oW:entryFor table "reversed.__next__"=some Builtin.«reversed.__next__»:=entryFor_of_tree (by kernel_rfl)
theorem qJ(a:BH):argsOk "reversed.__next__" ⟨[a],[]⟩:=by unfold argsOk;kernel_rfl
theorem qK:PySem.Slot "reversed" "__iter__" "reversed.__iter__":=
 .of (owner:="reversed") (n:="__iter__") (by rw[Am,AW];kernel_rfl) (by decide+kernel) (by decide+kernel) (by decide+kernel) (by first|exact .inl (by decide+kernel)|exact .inr (by decide+kernel)) (by rw[AY];kernel_rfl)
theorem wR:entryFor table "reversed.__iter__"=some Builtin.«dict_keyiterator.__iter__»:=entryFor_alias (id':="dict_keyiterator.__iter__") (by kernel_rfl) (by first|rfl|decide+kernel|(unfold String.splitOn;simp+decide [String.splitOnAux])) (by decide+kernel) (by kernel_rfl)
theorem zA(a:BH):argsOk "reversed.__iter__" ⟨[a],[]⟩:=by unfold argsOk;kernel_rfl
theorem zB:PySem.Slot "reversed" "__init__" "object.__init__":=
 .of (owner:="object") (n:="__init__") (by rw[Am,AW];kernel_rfl) (by decide+kernel) (by decide+kernel) (by decide+kernel) (by first|exact .inl (by decide+kernel)|exact .inr (by decide+kernel)) (by rw[AY];kernel_rfl)
theorem aCT:TypeCalled "reversed" "reversed.__new__" "object.__init__":=
 ⟨by decide+kernel,by decide+kernel,⟨_,_,F.mro_reversed⟩,F.made_reversed,by decide+kernel,F.sub_reversed_self,zB⟩
noncomputable def rvO(l:BJ)(i:Int):BM:={cls:=.type "reversed",data:=.fields #[.ref l,Aq i]}
theorem aGc:typeLookup (.type "tuple") "__reversed__"=pure none:=by rw[Am,AW];kernel_rfl
theorem aDx:isSubtype (.type "tuple") (.type "dict")=pure false:=by rw[AY];kernel_rfl
theorem aIS{it t:BJ}{items:Array BH}{x:BH}{Q:Option BH->BI->Prop}(hit:s.heap.get? it=some (rvO t (i:Int)))(ht:IsTup s.heap t items)(hx:items[i]? =some x)(hz:items.size<=AH)
  (hQ:∀h',h'.get? it=some (rvO t<|(i:Int)-1)->Heap.SameBut it s.heap h'->Q (some x) {s with heap:=h',toks:=s.toks+1}):AE (AF prog w) A (pyNext<|.ref it) Q E s:=by
 have hT:s.TypeIs (.ref it) "reversed":=⟨_,hit,rfl⟩;have il:i<items.size:=(Array.getElem?_eq_some_iff.mp hx).1;unfold pyNext;refine AA (BF<|AS (name:=Str.ofString "__next__") hT slot_rvs_next (AQ slot_rvs_next hT oW ?_<|qJ _));unfold Builtin.«reversed.__next__»;refine AA<|Ao (a:=(Value.ref it,[])) rfl ?_;dsimp only;refine AA<|BC hit rfl (x:=.ref t) rfl ?_;refine AA<|BC hit rfl (x:=Aq (i:Int)) rfl ?_;show AE _ _ (if(i:Int)<0 then _ else _) _ _ s;rw[if_neg<|by omega];refine AA<|As ht.typeIs slot_tuple_getitem.lookup ?_;simp only[aHf,cJ,if_false];refine AA<|wpAny_mkInt ?_;have hn:=wU;refine AA (BF<|getItem_tuple (s:={s with toks:=s.toks+1}) (j:=i) ht (by omega) (by omega) ((aBl<|by unfold ixN;rw[if_pos<|by omega,if_pos<|by omega];rfl).1) hx ?_);dsimp only;refine AA<|BC (s:={s with toks:=s.toks+1}) hit rfl (x:=Aq (i:Int)) rfl ?_;refine AA<|Ap (s:={s with toks:=s.toks+1}) hit rfl (by simp) ?_;refine AB ⟨x,rfl,AB (hQ _ ?_<|Heap.SameBut.update ..)⟩;exact(cX (Obj.mapFields (·.setIfInBounds 1 (Aq<|(i:Int)-1))) hit rfl).trans rfl
theorem aMm{it t:BJ}{Q:Option BH->BI->Prop}(hh:A.handled=none)(hit:s.heap.get? it=some (rvO t (-1)))
  (hQ:∀h',Heap.ExtBut it s.heap h'->Q none {s with heap:=h'}):AE (AF prog w) A (pyNext<|.ref it) Q E s:=by
 have hT:s.TypeIs (.ref it) "reversed":=⟨_,hit,rfl⟩;unfold pyNext;refine AA (BF<|AS (name:=Str.ofString "__next__") hT slot_rvs_next (AQ slot_rvs_next hT oW ?_<|qJ _));unfold Builtin.«reversed.__next__»;refine AA<|Ao (a:=(Value.ref it,[])) rfl ?_;dsimp only;refine AA<|BC hit rfl (x:=.ref t) rfl ?_;refine AA<|BC hit rfl (x:=Aq (-1)) rfl ?_;show AE _ _ (if(-1:Int)<0 then _ else _) _ _ s;rw[if_pos<|by decide];refine AA<|wpAny_rule ?_;refine AA (AA<|Ap hit rfl (by simp) ?_);have g1:=cX (Obj.mapFields (·.setIfInBounds 1 (Aq (-1)))) hit rfl;refine Ap (s:={s with heap:=s.heap.update it (Obj.mapFields (·.setIfInBounds 1 (Aq (-1))))}) g1 rfl (by simp) ?_;refine AA ?_;show AE _ _ (newExc (.type "StopIteration") []>>=_) _ _ _;refine AA ?_;simp only[newExc,newTuple];refine AA (AK ?_<|by size_fits);refine AA (m:=BD _ _)<|Ao (a:=Value.none) (by first|rfl|(simp only[BD];rfl)) ?_;refine AK ?_ (by size_fits);simp only[raiseNew];refine AA<|wpAny_handled ?_;rw[show A.in1.handled=none from hh];refine AA (AB<|wpAny_throw ?_);refine AA<|Aw (T:="StopIteration") (b:=true) ⟨_,aS _ rfl,rfl⟩ isSubtype_stop ?_;exact AB (hQ _<|(((Heap.SameBut.update ..).trans<|Heap.SameBut.update ..).extBut.push _).push _)
theorem aCs{it t:BJ}{i:Int}{Q:BH->BI->Prop}(hit:s.heap.get? it=some (rvO t i))(h:Q (.ref it) s):AE (AF prog w) A (pyIter<|.ref it) Q E s:=by have hT:s.TypeIs (.ref it) "reversed":=⟨_,hit,rfl⟩;refine wpAny_pyIter_slot hT qK (AQ qK hT wR ?_<|zA _);show AE _ _ (ret<|.ref it) _ _ s;exact AB ⟨_,rfl,"reversed",_,hT,slot_rvs_next.lookup,h⟩
theorem aMS(t:BJ)(items:Array BH)(hz:items.size<=AH):Meets (Builtin.«reversed.__new__» ⟨[.type "reversed",.ref t],[]⟩) (λ_ R s=>IsTup s.heap t items/\R (.ok (.ret<|.ref s.heap.objs.size)) {s with heap:=s.heap.push (rvO t<|(items.size:Int)-1),toks:=s.toks+1+1}):=
 .of_wp λprog w A R s h=>by
  obtain⟨ht,h⟩:=h;unfold Builtin.«reversed.__new__»;refine AA<|Ao (newClass_reversed _) ?_;dsimp only;refine AA<|Ao (a:=()) (by first|rfl|kernel_rfl) ?_;refine AA<|Ao (a:=()) (by first|rfl|kernel_rfl) ?_;refine AA<|As ht.typeIs aGc ?_;refine AA ?_
  wp_delta
  refine AA<|Aw ht.typeIs aDx ?_;simp only[cJ,if_false];refine AA<|As ht.typeIs slot_tuple_getitem.lookup ?_;refine Aj (λ_=>AB ?_) λz=>absurd (by decide+kernel) z;simp only[Bool.not_true,cJ,if_false];have hn:=wU;refine AA<|PyProof.Rows.len_tuple ht (by omega) ?_;refine AA<|Ao (a:=some (items.size:Int)) rfl ?_;dsimp only;refine AA ?_;unfold Builtin.SmallTypes.newRecord;refine AK ?_;exact AB ⟨_,rfl,h⟩
theorem aHS{t:BJ}{items:Array BH}{Q:BH->BI->Prop}(ht:IsTup s.heap t items)(hz:items.size<=AH)
  (h:Q (.ref s.heap.objs.size) {s with heap:=s.heap.push (rvO t<|(items.size:Int)-1),toks:=s.toks+1+1}):AE (AF prog w) A (call (.type "reversed") [.ref t]) Q E s:=
 callType_new aCT (by decide) (F.typeCall_reversed_1 _) (F.newCall_reversed_1 _) (λobj=>F.args_object_init_2 obj _) F.entry_reversed_new (aMS t items hz) ⟨ht,⟨_,aS _ rfl,rfl⟩,h⟩
noncomputable def Itv(K:aA)(a:BJ)(n:Nat):It:=
 ⟨λi H=>i<n/\∃xs x,SqT K H a xs/\xs.length=n/\xs[n-1-i]? =some x,λi H x H'=>H'=H/\∀xs,SqT K H a xs->xs[n-1-i]? =some x,λi H=>n<=i⟩
theorem aHX{tg:Expr}(a it:BJ)(n:Nat):aJH P w K tg (Itv K a n) [it] it (λi h=>i<=n/\h.get? it=some (rvO a<|(n:Int)-1-(i:Int))) where
 mem:=by simp
 obj:=λi h st b hb=>by
  have e:b=it:=by simpa using hb
  subst e
  exact ⟨_,st.2,fun v z=>by
   have z':Data.fields _=Data.cell v:=z
   cases z'⟩
 keep:=λi h h' st k=>⟨st.1,k it (by simp) _ st.2⟩
 item:=by
  intro X hP hw hK hc i pins s σ H E I hf st hg;subst hP hw hK;obtain⟨hin,xs,x,hq,hl,hx⟩:=hg;obtain⟨its,rv,p,hz⟩:=I.tuple hq;obtain⟨u,hu,ru⟩:=rv.get hx;obtain⟨f0,f1,f2,f3,f4,f5⟩:=hf it (by simp);have e:(n:Int)-1-(i:Int)=((n-1-i:Nat):Int):=by omega
  have st2:=st.2;rw[e] at st2;have hz':its.toArray.size<=AH:=by rw[aK,<-rv.length];exact hz
  refine aIS st2 p (x:=u) (by simpa using hu) hz' λh' st' sb=> ?_
  have I1:Inv X pins σ H {s with heap:=h',toks:=s.toks+1}:=I.turned (t':=s.toks+1) (λb o hb e=>(sb.2 b hb).trans e) f0 f1 f3 f4 f5;refine⟨u,rfl,aHx (s:={s with heap:=h',toks:=s.toks+1}) st' rfl rfl (by decide) ⟨x,H,I1,ru,⟨rfl,λys hy=>by rw[I.tuple_inj hy hq];exact hx⟩,⟨hin, ?_⟩,λb hb=>(hf b hb).1⟩⟩;have e2:((n-1-i:Nat):Int)-1=(n:Int)-1-((i+1:Nat):Int):=by omega
  rw[e2] at st';exact st'
 done:=by
  intro X hP hw hK hc i pins s σ H E I hf st hg;subst hP hw hK;obtain⟨f0,f1,f2,f3,f4,f5⟩:=hf it (by simp);have hg:n<=i:=hg;have e:(n:Int)-1-(i:Int)= -1:=by have:=st.1;omega
  have st2:=st.2;rw[e] at st2;exact aMm (I.ok.hd hc) st2 λh' eb=>⟨rfl,I.turned (t':=s.toks) (λb o hb e=>eb b o hb e) f0 f1 f3 f4 f5⟩
 self:=λ_ _ _ _ _ st h=>aCs st.2 h
section
variable {X:Cx}{sd:List Slot}{e a b c tg iter:Expr}{es:List Expr}{pos:Pos}{r ra rb:R}{d:D}{ds:List D}{st:BN}{rest:List BN}{E:iT}
theorem aPQ{ta:TA}{p:Pos}(hg:Gl X "reversed")(hm:X.mg "reversed"=none)(ha:PA X [a] ta)(hs:AC [a] X.env=[(false,eval a X.env)]:=by rfl):PI X tg (.Call (.Name "reversed" p) [a] [] pos) (λσ H R=>ta σ H λvs H1=>∃l xs,vs=[.ref l]/\SqT X.K H1 l xs/\R (Itv X.K l xs.length) H1):=by
 intro pins s σ H R I h;refine Call_ (hX I hg hm boot_reversed<|PyProof.Rows.callWith_type1 (thn (ha pos pins s σ H _ I h) λus s1 ⟨vs,H1,I1,r1,q1⟩=> ?_) hs rfl);obtain⟨l,xs,rfl,hq,q⟩:=q1;cases r1 with
 |cons r rr=>
  cases rr;cases r;obtain⟨its,rv,p,hz⟩:=I1.tuple hq;have hln:=rv.length;refine aHS (items:=its.toArray) p (by rw[aK];omega) ?_;refine aCs (aS _ rfl) ?_;refine⟨s1.heap.objs.size,[s1.heap.objs.size],_,_,H1,rfl,I1.kept (t':=s1.toks+1+1) λb o e=>aD _ e,aHX l _ xs.length,⟨cD _, ?_⟩,λb hb=> ?_,q⟩
  ·have:(xs.length:Int)-1-((0:Nat):Int)=(its.toArray.size:Int)-1:=by rw[aK,hln];omega
   rw[this];exact aS _ rfl
  ·have e:b=s1.heap.objs.size:=by simpa using hb
   subst e;exact I1.fpOk (aR _) (I1.hok.fresh<|aR _)
theorem aJt{p:Pos}{es:List D}(hg:Gl X "reversed")(hm:X.mg "reversed"=none)(h:PEd X sd a (.val<|.tup ds))(he:es=ds.reverse)(hst:AC [a] X.env=[(false,eval a X.env)]:=by rfl):PId X sd PT0 tg (.Call (.Name "reversed" p) [a] [] pos) es:=.mk λσ F H S=>by
 subst he;refine(aPQ hg hm rC hst).to<|(aC h aM trivial (by rw[hst];rfl) σ F H S).imp λvs H1 ⟨F1,S1,s1,q1⟩=> ?_;cases q1 with
 |cons q1 q2=>
  cases q2;simp only[ResOk,Rep] at q1;obtain⟨l,xs,rfl,hl,rl⟩:=q1;refine⟨l,xs,rfl,.of<|S1.sub _ _ hl,F1,S1,s1,λF' H' sF sH sm _ i=> ?_⟩;have hl':=sH _ _<|sF _ _ hl;have ln:=rl.len;refine⟨λhi=> ?_,λhi=> ?_,λx H2 d hd y=> ?_⟩
  ·rw[fZ,<-ln] at hi;exact⟨hi,xs,xs[xs.length-1-i]'(by omega),.of hl',rfl,by simp⟩
  ·rw[fZ,<-ln] at hi;exact hi
  ·obtain⟨rfl,y⟩:=y;have hi:i<ds.reverse.length:=(aI.mp hd).1;rw[fZ] at hi;rw[qA hi] at hd;obtain⟨v,hv,rv⟩:=rl.get hd;have:=y xs<|.of hl';rw[ln] at this;rw[this] at hv;cases hv;exact⟨F',Same.refl _,rv.mono sF,λ_ _ _ S=>S⟩
end
theorem aGW:typeLookup (.type "list_reverseiterator") "__len__"=pure none:=by rw[Am,AW];kernel_rfl
theorem aHN:typeLookup (.type "list_reverseiterator") "__length_hint__"=pure (some<|.builtin "list_reverseiterator.__length_hint__"):=by rw[Am,AW];kernel_rfl
theorem aJk:isSubtype (.type "list_reverseiterator") (.type "list_reverseiterator")=pure true:=by rw[AY];kernel_rfl
theorem aRK{r:BJ}{Q:Bool->BI->Prop}(hT:s.TypeIs (.ref r) "list_reverseiterator")(h:Q false s):AE (AF prog w) A (Builtin.List.listLengthHint<|.ref r) Q E s:=by
 unfold Builtin.List.listLengthHint;refine AA<|As hT aGW ?_;dsimp only;refine AA<|As hT aHN ?_;generalize q:("list_reverseiterator.__length_hint__":String)=i0
 wp_delta
 rw[show splitId i0=some ("list_reverseiterator","__length_hint__") from by subst q;decide+kernel];subst q;refine AA (Aw (T:="list_reverseiterator") (b:=true) hT aJk<|Aj (λz=>absurd z<|by decide) λ_=> ?_);refine Aj (λ_=> ?_) λz=>absurd (by decide+kernel) z;exact Aj (λz=>absurd z<|by decide) λ_=>AB h
theorem aCS{R:Result->BI->Prop}{it:BJ}{items:Array BH}(hh:A.handled=none)(hit:s.heap.IsRevIter it l ((items.size:Int)-1))(hl:s.heap.IsList l items)(hne:l≠it)(S:BJ)(hSr:S≠it)(hSd:S≠l)(res:BH)(c₀:Nat)(hS:s.heap.get? S=some {cls:=.type "list",data:=.seq #[] c₀})
  (hR:∀h' tk acc' c',(∀b o,b≠S->b≠it->s.heap.get? b=some o->h'.get? b=some o)->h'.get? S=some {cls:=.type "list",dict:=none,data:=.seq acc' c',slots:= #[]}->ItemsOf (λi v=>items[items.size-1-i]? =some v) acc' items.size->R (.ok<|.ret res) {s with heap:=h',toks:=tk}) (hn:items.size<=AH):
  AE (AF prog w) A.in1 (Builtin.List.listExtendWith (.ref S) (.ref it) res)
   (λfin s'=>match fin with | .done f=>R (.ok f) s' | .again c'=>c'.quiet=true/\At (AF prog w) A c' R s') (λe s'=>R (.error e) s') s:=by
 have hSf:S∉[it,l]:=by simp only[aU,dO,or_false,not_or];exact⟨hSr,hSd⟩
 have W:=Walks.listRev (prog:=prog) (w:=w) (A:=A.in1) hh it l hne items;have st:0<=items.size/\s.heap.IsRevIter it l ((items.size:Int)-1-((0:Nat):Int))/\s.heap.IsList l items:=⟨cD _,by rw[show(items.size:Int)-1-((0:Nat):Int)=(items.size:Int)-1 by omega];exact hit,hl⟩
 have key:∀ (h:BL) (c₁ tk:Nat),(0<=items.size/\h.IsRevIter it l ((items.size:Int)-1-((0:Nat):Int))/\h.IsList l items)->(∀b o,b≠S->s.heap.get? b=some o->h.get? b=some o)->
   h.get? S=some {cls:=.type "list",data:=.seq #[] c₁}->At (AF prog w) A (.builtin "list.extend.loop" ⟨[.ref S,.ref it,res],[]⟩) R {s with heap:=h,toks:=tk}:=by
  intro h c₁ tk hst hk hS₁;refine codeAny_extend_loopS W.toS hn S hSf res items.size 0 _ #[] c₁ rfl (cD _) hst hS₁ (ItemsOf.nil _) λs' acc' c' hm hS' hacc=> ?_
  rw[Moved.eq_with hm];refine hR s'.heap s'.toks acc' c' (λb o hb hb2 e=>hm.heap b o (λhmem=> ?_)<|hk b o hb e) hS' hacc
  rcases aU.mp hmem with e'|hmem
  ·exact hb e'
  ·exact hb2<|aF.mp hmem
 unfold Builtin.List.listExtendWith;refine AA<|wpAny_typeOf (T:="list_reverseiterator") hit.typeIs ?_;have h1:Builtin.List.listSameRef (.ref S) (.ref it)=false:=by simp[Builtin.List.listSameRef,hSr]
 have h2:(Value.type "list_reverseiterator"==Value.type "list")=false:=by decide
 have h3:(Value.type "list_reverseiterator"==Value.type "tuple")=false:=by decide
 simp only[h1,h2,h3,Bool.or_false,cJ,if_false];refine AA<|wpAny_pyIter_revIter hit ?_;refine AA (AT<|aRK hit.typeIs ?_);refine Aj (λz=>absurd z<|by decide+kernel) λ_=>AB ⟨Av PySem.F.plain_extend_loop _,key _ c₀ _ st (λb o _ e=>e) hS⟩
theorem aJx{it:BJ}{items:Array BH}{Q:BH->BI->Prop}(hh:A.handled=none)(hit:s.heap.IsRevIter it l ((items.size:Int)-1))(hl:s.heap.IsList l items)(hne:l≠it)(hn:items.size<=AH)
  (hQ:∀h' tk acc' c',(∀b o,b≠it->s.heap.get? b=some o->h'.get? b=some o)->h'.get? s.heap.objs.size=some {cls:=.type "list",dict:=none,data:=.seq acc' c',slots:= #[]}->ItemsOf (λi v=>items[items.size-1-i]? =some v) acc' items.size->Q (.ref s.heap.objs.size) {s with heap:=h',toks:=tk}):
  AE (AF prog w) A (call (.type "list") [.ref it]) Q E s:=by
 have i1:it<s.heap.objs.size:=by obtain⟨o,ho,_⟩:=hit;exact aO ho
 have l1:l<s.heap.objs.size:=by obtain⟨o,ho,_⟩:=hl;exact aO ho
 refine callType_codes (Q₁:=λobj s₁=>obj=.ref s.heap.objs.size/\s₁={s with heap:=s.heap.push {cls:=.type "list",data:=.seq #[]}}) PySem.F.called_list (PySem.F.typeCall_list_1 _) PySem.F.entry_list_init
  (code_list_new _ ⟨rfl,rfl⟩) λobj s₁ h₁=> ?_
 obtain⟨rfl,rfl⟩:=h₁;have hS:(s.heap.push {cls:=.type "list",data:=.seq #[]}).get? s.heap.objs.size=some {cls:=.type "list",data:=.seq #[]}:=aS _ rfl;refine⟨⟨_,hS,rfl⟩,PySem.F.args_list_init_2 _ _, ?_⟩;show AE _ _ (do let old <-Builtin.List.listItems (.ref s.heap.objs.size);Builtin.List.listUpdate (.ref s.heap.objs.size) (λ_=> #[]);letGo old.toList.reverse;Builtin.List.listExtendWith (.ref s.heap.objs.size) (.ref it) .none) _ _ _;refine AA ?_;unfold Builtin.List.listItems;refine AA (wpAny_seqItems hS rfl<|AB ?_);show AE _ _ (updateSeq s.heap.objs.size (λ_=> #[])>>=λ_=>letGo (#[]:Array BH).toList.reverse>>=λ_=>Builtin.List.listExtendWith (.ref s.heap.objs.size) (.ref it) .none) _ _ _;refine AA<|wpAny_updateSeq hS rfl ?_;have hS₂:=cX (Obj.mapSeq λ_=>(#[]:Array BH)) hS rfl
 have oth:∀b o,b≠s.heap.objs.size->s.heap.get? b=some o->((s.heap.push {cls:=.type "list",data:=.seq #[]}).update s.heap.objs.size<|Obj.mapSeq λ_=>(#[]:Array BH)).get? b=some o:=
  λb o hb e=>(cP _ _<|Ne.symm hb).trans<|aD _ e
 refine AA<|wpAny_letGo ?_;refine aCS (A:=A.in1) hh (hit.at λo e=>oth it o (bM i1) e) (hl.at λo e=>oth l o (bM l1) e) hne _ (iE i1) (iE l1) .none _ hS₂ (λh' tk acc' c' hk hS' hacc=> ?_) hn;exact⟨rfl,hQ h' tk acc' c' (λb o hb e=>hk b o (bM<|aO e) hb<|oth b o (bM<|aO e) e) hS' hacc⟩
section
variable {X:Cx}{sd:List Slot}{e a b c tg iter:Expr}{es:List Expr}{pos:Pos}{r ra rb:R}{d:D}{ds:List D}{st:BN}{rest:List BN}{E:iT}
theorem aDa{p p2 q2:Pos}(hg:Gl X "list")(hm:X.mg "list"=none)(hg2:Gl X "reversed")(hm2:X.mg "reversed"=none)(ha:PEd X sd e (.bor ds))(h1:ds.length<=1000)
  (hc:X.calm=true:=by rfl) (hst:AC [e] X.env=(false,eval e X.env)::AC [] X.env:=by rfl) (hst2:AC [.Call (.Name "reversed" p2) [e] [] q2] X.env=(false,eval (.Call (.Name "reversed" p2) [e] [] q2) X.env)::AC [] X.env:=by rfl):
  PEd X sd (.Call (.Name "list" p) [.Call (.Name "reversed" p2) [e] [] q2] [] pos) (.own ds.reverse):=.mk λσ F H S pins s I=>by
 refine AJ<|hX I hg hm PyProof.Rows.boot_list ?_;refine PyProof.Rows.callWith_type1 ?_ hst2 rfl;rw[hst2];refine Calls.spliced_cons (AJ<|hX I hg2 hm2 boot_reversed ?_);refine PyProof.Rows.callWith_type1 (thn ((dP (te:=wE X e) eV pa_nil hst) q2 pins s σ H (λus H1=>∃v F1,us=[v]/\StF X.K X.B₀ F1 H1 σ sd/\Same F F1/\ResOk X.K F1 H1 sd (.bor ds) v) I<|(ha σ F H S).imp λv H1 ⟨F1,S1,s1,q1⟩=>⟨v,F1,rfl,S1,s1,q1⟩) λus s1 hus=> ?_) hst rfl;obtain⟨ws,H1,I1,rv,v,F1,rfl,S1,sF,q1⟩:=hus;obtain⟨u,rfl,ru⟩:=mL rv;obtain⟨l,xs,rfl,hl,rl,_⟩:=q1;cases ru;obtain⟨its,rv2,ht0,hz⟩:=I1.list<|.of hl;have ht:s1.heap.IsList l its.toArray:=ht0.isList;have ln:its.length=ds.length:=by rw[<-rv2.length,rl.len]
 have sz:its.toArray.size=ds.length:=by rw[aK,ln]
 have ll:l<s1.heap.objs.size:=by obtain⟨o,ho,_⟩:=ht;exact aO ho
 refine call_reversed_list ht<|Calls.spliced_nil ?_;refine aJx (items:=its.toArray) (I1.ok.hd hc) ⟨_,aS _ rfl,rfl,rfl⟩ (ht.push _) (bM ll) (by rw[sz];exact dL<|eG h1) λh' tk acc c' kp g it=> ?_
 have kp2:∀b o,s1.heap.get? b=some o->h'.get? b=some o:=λb o g=>kp b o (bM<|aO g)<|aD _ g
 have le:s1.heap.objs.size<=(s1.heap.push (revObj l<|(its.toArray.size:Int)-1)).objs.size:=by rw[size_push'];exact fK _
 generalize (s1.heap.push (revObj l<|(its.toArray.size:Int)-1)).objs.size=dd at g le;have hD:H1 dd=none:=I1.hok.fresh le
 have al:acc.toList=its.reverse:=by
  apply kH;intro j
  by_cases hj:j<acc.toList.length
  ·have a1:acc.toList.length=its.length:=by rw[cZ,it.1,aK]
   have e3:acc.toList[j]? =some acc.toList[j]:=by simp[hj]
   have q:=it.2 j acc.toList[j] (by rw[<-eM];exact e3);rw[e3,qA<|by omega];rw[aK] at q;simpa using q.symm
  ·have a1:acc.toList.length=its.length:=by rw[cZ,it.1,aK]
   rw[dJ<|by omega,dJ<|by rw[fZ];omega]
 have I3:Inv X pins σ (upd H1 dd<|.lst xs.reverse) {s1 with heap:=h',toks:=tk}:=
  I1.laid kp2 le ⟨by rw[fZ];exact hz,acc.toList,c',by rw[al];exact rv2.reverse,by simpa using g⟩
 obtain⟨S4,fp,no⟩:=S1.layO (xs:=xs.reverse) hD;refine⟨.ref dd,_,I3,rfl,F1,S4,sF,dd,_,rfl,fp,bL, ?_,no⟩
 have gg:∀ {ds:List D}{xs:List V},RepL X.K F1 ds xs->RepL X.K F1 ds.reverse xs.reverse:=by
  intro ds
  induction ds with
  |nil=>intro xs r;simp only[RepL] at r;subst r;exact .nil
  |cons d ds ih=>intro xs r;obtain⟨y,ys,rfl,a,rl⟩:=r.uncons;rw[nH,nH];exact(ih rl).app<|.one a
 exact gg rl
end
noncomputable def lwW(k:Nat)(m a b n:Int):Int:=match k with
 |0=>Builtin.bitAnd a b
 |1=>Builtin.bitOr a b
 |2=>Builtin.bitXor a b
 |3=>a+b
 |4=>a-b
 |5=>b
 |6=>n
 |7=>m-1-a
 |8=>2*a
 |_=>a / 2
noncomputable def lwQ(p:Int×Int)(q:SQ)(ws:List Int):Int:=lwW q.1 ((2^p.1.toNat:Nat):Int) (ws.getD q.2.1.toNat 0) (ws.getD q.2.2.1.toNat 0) q.2.2.2
noncomputable def mdQ(p:Int×Int)(q:SQ)(ws:List Int):List Int:=ws.set q.2.1.toNat<|lwQ p q ws%((2^p.1.toNat:Nat):Int)
noncomputable def dnQ(p:Int×Int)(L:List SK)(row:List Nat)(ws:List Int):List Int:=row.foldl (λf t=>mdQ p (L.getD t AG).1 f) ws
noncomputable def rdQ(q:SQ):List Nat:=if q.1=6 then[] else if q.1=5 then[q.2.2.1.toNat] else if 7<=q.1 then[q.2.1.toNat] else fH [] [q.2.1.toNat,q.2.2.1.toNat]
noncomputable def ahQ(q:SQ)(bs:List Nat):List Nat:=if bs.contains q.2.1.toNat then fH [] (bs.filter (λb=> !decide (b=q.2.1.toNat))++rdQ q) else bs
noncomputable def bqQ(L:List SK)(look:List Nat):List Nat->List Nat
 |[]=>look
 |t::row=>ahQ (L.getD t AG).1<|bqQ L look row
noncomputable def ltQ(L:List SK)(look row:List Nat):List (List Nat):=(aW<|row.length+1).map λi=>bqQ L look<|row.drop i
def xG(bs:List Nat)(ws vs:List Int):Prop:=∀b∈bs,ws.getD b 0=vs.getD b 0
theorem uD(ws:List Int)(i b:Nat)(x:Int):(ws.set i x).getD b 0=if i=b/\b<ws.length then x else ws.getD b 0:=by
 simp only[bF,aKX]
 by_cases e:i=b
 ·subst e
  by_cases h:i<ws.length
  ·simp[h]
  ·simp[h]
 ·simp[e]
theorem aBX(p:Int×Int)(q:SQ)(ws:List Int):(mdQ p q ws).length=ws.length:=by simp[mdQ]
theorem aBL(p:Int×Int)(L:List SK):∀ (row:List Nat) (ws:List Int),(dnQ p L row ws).length=ws.length
 |[],_=>rfl
 |t::row,ws=>by show(dnQ p L row<|mdQ p _ ws).length=_;rw[aBL p L row,aBX]
theorem aMw{p:Int×Int}{q:SQ}(h:q.1<10){ws vs:List Int}(a:xG (rdQ q) ws vs):lwQ p q ws=lwQ p q vs:=by
 obtain⟨k,i,j,n⟩:=q;simp only at h;unfold lwQ;simp only;have ai:(i.toNat∈rdQ (k,i,j,n))->ws.getD i.toNat 0=vs.getD i.toNat 0:=a _;have aj:(j.toNat∈rdQ (k,i,j,n))->ws.getD j.toNat 0=vs.getD j.toNat 0:=a _
 by_cases k5:k=5
 ·subst k5;have:=aj (by simp[rdQ]);show ws.getD j.toNat 0=vs.getD j.toNat 0;exact this
 by_cases k6:k=6
 ·subst k6;rfl
 by_cases k7:7<=k
 ·have e:=ai (by simp[rdQ,k5,k6,k7]);rw[e]
  match k,h,k7 with
  |7,_,_=>rfl
  |8,_,_=>rfl
  |9,_,_=>rfl
 ·have m1:i.toNat∈rdQ (k,i,j,n):=by unfold rdQ;rw[if_neg (by simpa using k6),if_neg (by simpa using k5),if_neg (by simpa using k7),lH];simp
  have m2:j.toNat∈rdQ (k,i,j,n):=by unfold rdQ;rw[if_neg (by simpa using k6),if_neg (by simpa using k5),if_neg (by simpa using k7),lH];simp
  rw[ai m1,aj m2]
theorem aIR{p:Int×Int}{q:SQ}(h:q.1<10){bs:List Nat}{ws vs:List Int}(hl:ws.length=vs.length)(a:xG (ahQ q bs) ws vs):xG bs (mdQ p q ws) (mdQ p q vs):=by
 intro b hb;unfold mdQ;rw[uD,uD,<-hl];unfold ahQ at a
 by_cases c:bs.contains q.2.1.toNat=true
 ·rw[if_pos c] at a
  by_cases e:q.2.1.toNat=b/\b<ws.length
  ·rw[if_pos e,if_pos e,aMw h λx hx=>a x<|by rw[lH];exact .inr<|aX _ hx]
  ·rw[if_neg e,if_neg e]
   by_cases e2:q.2.1.toNat=b
   ·have:¬ b<ws.length:=λz=>e ⟨e2,z⟩
    simp[bF,this,<-hl]
   ·refine a b ?_;rw[lH];refine .inr (cA _<|cS.mpr ⟨hb, ?_⟩);have:¬ b=q.2.1.toNat:=λz=>e2 z.symm
    simp[this]
 ·rw[if_neg c] at a;have e2:¬ q.2.1.toNat=b:=λz=>c (by rw[z];simpa using hb)
  rw[if_neg λz=>e2 z.1,if_neg λz=>e2 z.1];exact a b hb
theorem aLV{p:Int×Int}{q:SQ}{bs:List Nat}(c:bs.contains q.2.1.toNat=false)(ws:List Int):xG bs ws (mdQ p q ws):=by
 intro b hb;unfold mdQ;rw[uD,if_neg];rintro⟨z,_⟩;rw[z] at c;have:bs.contains b=true:=by simpa using hb
 rw[c] at this;cases this
variable {p:Int×Int}{L:List SK}{look:List Nat}
theorem aCD:∀ (row:List Nat) (ws vs:List Int),(∀t∈row,(L.getD t AG).1.1<10)->ws.length=vs.length->xG (bqQ L look row) ws vs->xG look (dnQ p L row ws) (dnQ p L row vs)
 |[],_,_,_,_,a=>a
 |t::row,ws,vs,h,hl,a=>aCD row _ _ (λu hu=>h u<|aE _ hu) (by rw[aBX,aBX,hl])<|aIR (h t aH) hl a
theorem aNN{n:Nat}(hL:∀s∈L,s.1.2.1.toNat<n/\s.1.2.2.1.toNat<n)(hk:∀b∈look,b<n):∀ (row:List Nat),(∀t∈row,t<L.length)->∀b∈bqQ L look row,b<n
 |[],_,b,hb=>hk b hb
 |t::row,hr,b,hb=>by
  have ih:=aNN hL hk row λu hu=>hr u<|aE _ hu
  have ht:=hr t aH;have e:L.getD t AG=L[t]:=by simp[bF,ht]
  obtain⟨h1,h2⟩:=hL L[t]<|fP ht;have hb:b∈ahQ (L.getD t AG).1 (bqQ L look row):=hb;rw[e] at hb;unfold ahQ at hb
  split at hb
  ·rw[lH] at hb
   rcases hb with hb|hb
   ·cases hb
   ·rcases bC.mp hb with hb|hb
    ·exact ih b (cS.mp hb).1
    ·unfold rdQ at hb
     split at hb
     ·cases hb
     ·split at hb
      ·rw[aF.mp hb];exact h2
      ·split at hb
       ·rw[aF.mp hb];exact h1
       ·rw[lH] at hb;simp only[dO,aU,or_false,false_or] at hb
        rcases hb with rfl|rfl
        ·exact h1
        ·exact h2
  ·exact ih b hb
noncomputable def aLk(L:List SK)(look row:List Nat)(k:Nat):Bool:=(bqQ L look (row.drop<|k+1)).contains (L.getD (row.getD k 0) AG).1.2.1.toNat
noncomputable def zG(ns:List Int)(st m:Nat):List Int:=(aW m).map λk=>ns.getD (st+k) 0
def aNX:List D->R->Prop:=λds r=>∃ (ns:List Int) (st m:Nat),st<=100/\m<=100/\ds=[.scr ns,.int (st:Int),.int (m:Int)]/\r=.own ((zG ns st m).map D.int)
def aKS:List D->R->Prop:=λds r=>∃p q ws,SqOk p q/\ws.length=p.2.toNat/\ds=[bW p,sqD q,bN ws]/\r=.val (.int<|lwQ p q ws)
def aNS:List D->R->Prop:=λds r=>∃p q ws,SqOk p q/\ws.length=p.2.toNat/\ds=[bW p,sqD q,bN ws]/\r=.val (bN<|mdQ p q ws)
def aEs:List D->R->Prop:=λds r=>∃p L row ws,p∈bU/\StkOk p L/\(∀t∈row,t<L.length)/\ws.length=p.2.toNat/\ds=[bW p,.lst<|L.map skD,.tup<|bG row,bN ws]/\r=.val (bN<|dnQ p L row ws)
noncomputable def ktN(p:Int×Int)(ns:List Int)(st:Nat)(d:Int):Nat->List SK
 |0=>[]
 |t+1=>if((ktN p ns st d t).map skD |>.map fstQ).any (λz=>deq z (sqD<|vA p (kJ (ns.getD (st+t) 0)<|t+1))) then ktN p ns st d t else ktN p ns st d t++[(vA p (kJ (ns.getD (st+t) 0)<|t+1),1+kJ (ns.getD (st+t) 0) (t+1) / 10^6%d)]
where
 fstQ:D->D
  |.tup (x::_)=>x
  |_=>.non
theorem aBO{p:Int×Int}(hp:p∈bU)(ns:List Int)(st:Nat){d:Int}(h1:1<=d)(h9:d<=9):∀t,(ktN p ns st d t).length<=t/\(0<t->0<(ktN p ns st d t).length)/\∀s∈ktN p ns st d t,SqOk p s.1/\1<=s.2/\s.2<=9
 |0=>⟨aR _,λh=>by omega,λs hs=>by cases hs⟩
 |t+1=>by
  obtain⟨a,b,c⟩:=aBO hp ns st h1 h9 t;unfold ktN
  split
  ·rename_i h;refine⟨by omega,λ_=> ?_,c⟩;cases e:ktN p ns st d t with
   |nil=>rw[e] at h;simp at h
   |cons _ _=>simp
  ·refine⟨by rw[aP];simp;omega,λ_=>by rw[aP];simp,λs hs=> ?_⟩
   rcases bC.mp hs with hs|hs
   ·exact c s hs
   ·have e:=aF.mp hs;subst e;have r1:=dG (kJ (ns.getD (st+t) 0) (t+1) / 10^6) (show d≠0 by omega);have r2:=cK (kJ (ns.getD (st+t) 0) (t+1) / 10^6) (show 0<d by omega);refine⟨aMK hp _, ?_, ?_⟩
    ·show(1:Int)<=1+_;omega
    ·show 1+_<=(9:Int);omega
theorem aRe(hp:p∈bU)(ns:List Int)(st:Nat){d:Int}(h1:1<=d)(h9:d<=9){m:Nat}(m1:0<m)(m8:m<=8):StkOk p (ktN p ns st d m):=by obtain⟨a,b,c⟩:=aBO hp ns st h1 h9 m;exact⟨b m1,by omega,c⟩
def aSu:List D->R->Prop:=λds r=>∃ (ns:List Int) (st m:Nat) (p:Int×Int) (d:Int),p∈bU/\st<=100/\0<m/\m<=8/\1<=d/\d<=9/\ds=[.scr ns,.int (st:Int),bW p,.int (m:Int),.int d]/\r=.own ((ktN p ns st d m).map skD)
noncomputable def rwQ(cs:List Int)(n:Nat):List Nat:=(aW cs.length).map λk=>(kJ (cs.getD k 0) k%(n:Int)).toNat
theorem aPb(cs:List Int){n:Nat}(h:0<n):∀t∈rwQ cs n,t<n:=λt ht=>by obtain⟨k,_,rfl⟩:=aJ.mp ht;have r1:=dG (kJ (cs.getD k 0) k) (show(n:Int)≠0 by omega);have r2:=cK (kJ (cs.getD k 0) k) (show(0:Int)<n by omega);omega
theorem aLF(cs:List Int)(n:Nat):(rwQ cs n).length=cs.length:=by simp[rwQ]
def aSA:List D->R->Prop:=λds r=>∃ (cs:List Int) (L:List SK),0<L.length/\cs.length<=100/\ds=[.lst<|cs.map D.int,.lst<|L.map skD]/\r=.val (.tup (bG<|rwQ cs L.length))
noncomputable def zC(c:Int)(n:Nat):List Nat:=if c%5=0 then aW n else(aW n).filter λb=>decide<|c / 5 / ((2^b:Nat):Int)%2=1
theorem aMp(c:Int)(n:Nat):(zC c n).length<=n/\∀b∈zC c n,b<n:=by
 unfold zC
 split
 ·exact⟨by simp,λb hb=>bE.mp hb⟩
 ·exact⟨bZ (fO _ _)<|by simp,λb hb=>bE.mp (cS.mp hb).1⟩
def aKv:List D->R->Prop:=λds r=>∃c p,p∈bU/\ds=[.int c,bW p]/\r=.own (bG<|zC c p.2.toNat)
def aLt:List D->R->Prop:=λds r=>∃ (bs:List Nat) (ws:List Int),bs.length<=100/\(∀b∈bs,b<ws.length)/\ds=[bN ws,.lst<|bG bs]/\r=.own ((bs.map λj=>ws.getD j 0).map D.int)
theorem aDA{bs:List Nat}{ws vs:List Int}(h:xG bs ws vs):(bs.map λj=>ws.getD j 0)=bs.map λj=>vs.getD j 0:=bQ λb hb=>h b hb
def CRd:List D->R->Prop:=λds r=>∃q:SQ,q.1<10/\(0<=q.2.1/\q.2.1<6)/\(0<=q.2.2.1/\q.2.2.1<6)/\ds=[sqD q]/\r=.own (bG<|rdQ q)
def aKI:List D->R->Prop:=λds r=>∃ (q:SQ) (bs:List Nat),q.1<10/\(0<=q.2.1/\q.2.1<6)/\(0<=q.2.2.1/\q.2.2.1<6)/\bs.length<=100/\(∀b∈bs,b<6)/\ds=[sqD q,.lst<|bG bs]/\r=.own (bG<|ahQ q bs)
noncomputable def lsD(l:List (List Nat)):List D:=l.map λbs=>D.lst<|bG bs
def aJZ:List D->R->Prop:=λds r=>∃p L row o,p∈bU/\StkOk p L/\(∀t∈row,t<L.length)/\row.length<=100/\aJE p o/\ds=[bW p,.lst<|L.map skD,.tup<|bG row,lkD o]/\r=.own (lsD<|ltQ L (bxQ p.2.toNat o) row)
theorem aOJ{q:SQ}{bs:List Nat}(h:bs.length<=100)(hb:∀b∈bs,b<6)(hi:q.2.1.toNat<6)(hj:q.2.2.1.toNat<6):(ahQ q bs).length<=100:=by
 unfold ahQ
 split
 ·refine bZ (pY<|mK nY λv hv=> ?_).1 (by decide)
  rcases bC.mp hv with hv|hv
  ·exact hb v (cS.mp hv).1
  ·unfold rdQ at hv
   split at hv
   ·cases hv
   ·split at hv
    ·rw[aF.mp hv];exact hj
    ·split at hv
     ·rw[aF.mp hv];exact hi
     ·rw[lH] at hv;simp only[dO,aU,or_false,false_or] at hv
      rcases hv with rfl|rfl
      ·exact hi
      ·exact hj
 ·exact h
theorem aJL{p:Int×Int}{L:List SK}{look:List Nat}(hp:p∈bU)(S:StkOk p L)(hk:look.length<=100)(hl:∀b∈look,b<p.2.toNat):∀row:List Nat,(∀t∈row,t<L.length)->(bqQ L look row).length<=100/\∀b∈bqQ L look row,b<p.2.toNat
 |[],_=>⟨hk,hl⟩
 |t::row,hr=>by
  obtain⟨h1,h2,h3,h4,h5⟩:=pE p hp;have ih:=aJL hp S hk hl row λu hu=>hr u<|aE _ hu
  have ht:=hr t aH;have O:=(S.st _<|DL.getD_mem (d:=AG) ht).1;have i0:=O.i0;have j0:=O.j0;refine⟨aOJ ih.1 (λb hb=>by have:=ih.2 b hb;omega) (by omega)<|by omega, ?_⟩;refine aNN (λs hs=> ?_) hl (t::row) hr;have O:=(S.st s hs).1;have i0:=O.i0;have j0:=O.j0;exact⟨by omega,by omega⟩
section
variable {X:Cx}{sd:List Slot}{e a b c tg iter o:Expr}{es:List Expr}{pos:Pos}{r ra rb:R}{d d':D}{ds ls:List D}{st:BN}{rest:List BN}{E:iT}
theorem PEd.valP(h:PEd X sd e (.pr d ls)):PEd X sd e (.val<|.tup [d,.lst ls]):=.mk λσ F H S=>(h σ F H S).imp λv H' ⟨F',S',s,t,l,xs,y,e,ft,ry,n,q,rl,no⟩=>by obtain⟨S2,s2⟩:=S'.freeze q n no;refine⟨_,S2,s.trans s2, ?_⟩;show Rep _ _ _ _;simp only[Rep];refine⟨t,[y,.ref l],e,s2 _ _ ft,.cons (ry.mono s2)<|.one ?_⟩;simp only[Rep];exact⟨l,xs,rfl,bL,rl.mono s2⟩
end
theorem xB:∀ {sd:List Slot}{i:Nat}{z:Slot},(cC sd).Nodup->sd[i]? =some z->(fS z).Nodup
 |[],_,_,_,e=>by simp at e
 |y::zs,0,z,h,e=>by
  have:y=z:=by simpa using e
  subst this;exact(bJ.mp (show(fS y++cC zs).Nodup from h)).1
 |y::zs,i+1,z,h,e=>xB (sd:=zs) (i:=i) (bJ.mp (show(fS y++cC zs).Nodup from h)).2.1 (by simpa using e)
variable {ls:List BJ}{nss:List (List Int)}
theorem StF.setX{as:List BJ}{G:V->Hp->Hp->Prop}(S:StF K H₀ F H σ sd)(i:Nat)(q:eW K F H (.ox as G) (some v))(nd:as.Nodup)(no:∀a∈as,a∉cC sd):StF K H₀ F H (σ.set i (some v)) (sd.set i<|.ox as G):=
 ⟨S.base,S.sub,S.smp,S.slots.set (z:=.ox as G) q i,(jO (z:=.ox as G) i S.nd (λl e=>.inl<|no l e) nd).1⟩
theorem StF.reX{z z':Slot}{o:Option V}(S:StF K H₀ F H σ sd)(hs:sd[i]? =some z)(ho:σ[i]? =some o)(keep:∀b ob,b∉fS z->H b=some ob->H' b=some ob)(sm:Smp H')(q:eW K F H' z' o)(nd:(fS z').Nodup)(no:∀a∈fS z',a∈fS z\/a∉cC sd):StF K H₀ F H' σ (sd.set i z'):=by
 have S0:=S.le<|gU sd i;have mz:∀a∈fS z,a∈cC sd:=λa ha=>dN.mpr ⟨z,bH hs,ha⟩
 refine⟨S.base,λb u e=> ?_,sm, ?_, ?_⟩
 ·refine keep b u (λhb=> ?_)<|S.sub _ _ e;have:=(S.slots.owns<|mz b hb).1;rw[e] at this;cases this
 ·have q1:SlotsOk K F H' (sd.set i .un) σ:=S0.slots.mono (Same.refl _) λa ha=>⟨(S0.slots.owns ha).1,λob e=>keep a ob (λhb=>hV S.nd hs hb ha) e⟩
  have q2:=q1.set (z:=z') (o:=o) q i;rw[jY,lW ho] at q2;exact q2
 ·have:=jO (z:=z') i S0.nd (fun a ha=>by
   rcases no a ha with h|h
   ·exact .inl<|hV S.nd hs h
   ·exact .inl λhm=>h ((gU sd i).own.subset hm)) nd
  rw[jY] at this;exact this.1
noncomputable def inF(F H:Hp)(as:List BJ):Hp:=λb=>if b∈as then H b else F b
theorem aEt{as:List BJ}{b:BJ}(h:b∈as):inF F H as b=H b:=if_pos h
theorem aEj{as:List BJ}{b:BJ}(h:b∉as):inF F H as b=F b:=if_neg h
theorem aMB{as:List BJ}(h:∀a∈as,F a=none):Same F (inF F H as):=λb u e=>by rw[aEj λhb=>by rw[h b hb] at e;cases e];exact e
theorem StF.inN(S:StF K H₀ F H σ sd)(h0:∀a∈l::ls,F a=none)(no:∀a∈l::ls,a∉cC sd):StF K H₀ (inF F H (l::ls)) H σ sd/\Same F (inF F H (l::ls)):=by
 have s1:=aMB (H:=H) h0;refine⟨⟨λb u e=>s1 _ _<|S.base _ _ e,λb u e=> ?_,S.smp,S.slots.mono s1 λa ha=>⟨?_,λob e=>e⟩,S.nd⟩,s1⟩
 ·by_cases h:b∈l::ls
  ·rw[aEt h] at e;exact e
  ·rw[aEj h] at e;exact S.sub _ _ e
 ·rw[aEj λhb=>no a hb ha];exact(S.slots.owns ha).1
section
variable {X:Cx}{sd:List Slot}{e a b c tg iter o:Expr}{es:List Expr}{pos:Pos}{r ra rb:R}{d:D}{ds:List D}{st:BN}{rest:List BN}{E:iT}{l:BJ}{ls:List BJ}{nss:List (List Int)}{ns:List Int}
theorem aMZ{H:Hp}{xs:List V}(h:Smp H)(a:BJ):Smp (upd H a<|.lst xs):=λb u e=>by
 by_cases z:b=a
 ·subst z;rw[bL] at e;cases e;trivial
 ·rw[bD z] at e;exact h _ _ e
end
noncomputable def InD(K:aA)(F H:Hp):List BJ->List (List D)->Prop
 |[],[]=>True
 |a::as,ds::dss=>(∃xs,H a=some (.lst xs)/\RepL K F ds xs)/\InD K F H as dss
 |_,_=>False
theorem InD.len:∀ {as:List BJ}{dss:List (List D)},InD K F H as dss->as.length=dss.length
 |[],[],_=>rfl
 |[],_::_,h=>h.elim
 |_::_,[],h=>h.elim
 |_::as,_::dss,h=>by rw[bP,bP,InD.len h.2]
theorem InD.of:∀ {as:List BJ}{dss:List (List D)},InD K F H as dss->∀a∈as,∃xs,H a=some (.lst xs)
 |[],[],_,a,ha=>by cases ha
 |[],_::_,h,_,_=>h.elim
 |_::_,[],h,_,_=>h.elim
 |b::as,_::dss,h,a,ha=>by
  rcases aU.mp ha with rfl|ha
  ·exact⟨h.1.choose,h.1.choose_spec.1⟩
  ·exact InD.of h.2 a ha
variable {dss:List (List D)}
theorem InD.mono2:∀ {as:List BJ}{dss:List (List D)},InD K F H as dss->Same F F'->(∀a∈as,∀ob,H a=some ob->H' a=some ob)->InD K F' H' as dss
 |[],[],_,_,_=>trivial
 |[],_::_,h,_,_=>h.elim
 |_::_,[],h,_,_=>h.elim
 |a::as,_::dss,h,s,k=>by obtain⟨⟨xs,e,r⟩,h2⟩:=h;exact⟨⟨xs,k a aH _ e,r.mono s⟩,InD.mono2 h2 s λb hb=>k b<|aE _ hb⟩
theorem InD.get:∀ {as:List BJ}{dss:List (List D)}{t:Nat}{a:BJ},InD K F H as dss->as[t]? =some a->∃ds xs,dss[t]? =some ds/\H a=some (.lst xs)/\RepL K F ds xs
 |[],[],t,a,_,e=>by simp at e
 |[],_::_,_,_,h,_=>h.elim
 |_::_,[],_,_,h,_=>h.elim
 |b::as,ds::dss,0,a,h,e=>by
  have:b=a:=by simpa using e
  subst this;obtain⟨⟨xs,e1,r⟩,_⟩:=h;exact⟨ds,xs,rfl,e1,r⟩
 |b::as,ds::dss,t+1,a,h,e=>by obtain⟨ms,xs,e1,e2⟩:=InD.get (t:=t) h.2 (by simpa using e);exact⟨ms,xs,by simpa using e1,e2⟩
theorem InD.set:∀ {as:List BJ}{dss:List (List D)}{t:Nat}{a:BJ}{es:List D}{ys:List V},as.Nodup->InD K F H as dss->as[t]? =some a->RepL K F es ys->InD K F (upd H a<|.lst ys) as (dss.set t es)
 |[],[],t,a,_,_,_,_,e,_=>by simp at e
 |[],_::_,_,_,_,_,_,h,_,_=>h.elim
 |_::_,[],_,_,_,_,_,h,_,_=>h.elim
 |b::as,ds::dss,0,a,es,ys,nd,h,e,r=>by
  have:b=a:=by simpa using e
  subst this;refine⟨⟨ys,bL,r⟩,h.2.mono2 (Same.refl _) λc hc ob q=> ?_⟩;rw[bD (show c≠b from λz=>(bX.mp nd).1<|z▸hc)];exact q
 |b::as,ds::dss,t+1,a,es,ys,nd,h,e,r=>by
  have e':as[t]? =some a:=by simpa using e
  obtain⟨⟨xs,e1,r1⟩,h2⟩:=h;refine⟨⟨xs, ?_,r1⟩,InD.set (bX.mp nd).2 h2 e' r⟩;rw[bD (show b≠a from λz=>(bX.mp nd).1<|z▸bH e')];exact e1
theorem aFx{G:Hp}:∀ {as:List BJ}{dss:List (List D)},InD K G G as dss->RepL K G (dss.map D.lst) (as.map V.ref)
 |[],[],_=>.nil
 |[],_::_,h=>h.elim
 |_::_,[],h=>h.elim
 |a::as,ds::dss,h=>by obtain⟨⟨xs,e,r⟩,h2⟩:=h;rw[aV,aV];refine .cons ?_<|aFx h2;simp only[Rep];exact⟨a,xs,rfl,e,r⟩
noncomputable def qN(f:Nat->Bool)(A:List (List Int)):Option (List Int):=((aW A.length).find? f).map λk=>A.getD k []
theorem aCU{f:Nat->Bool}{A:List (List Int)}{k:Nat}(hk:k<A.length)(h:f k=true)(hn:∀j,j<k->f j=false):qN f A=some (A.getD k []):=by
 unfold qN
 have:(aW A.length).find? f=some k:=by rw[List.find?_range_eq_some];exact⟨h,bE.mpr hk,λj hj=>by rw[hn j hj];rfl⟩
 rw[this];rfl
theorem xX{f:Nat->Bool}{A:List (List Int)}(hn:∀j,j<A.length->f j=false):qN f A=none:=by unfold qN;rw[tJ.mpr λk hk=>by rw[hn k<|bE.mp hk];simp];rfl
noncomputable def wsD:Option (List<|List Int)->D
 |none=>.non
 |some L=>.lst<|L.map bN
def WsOk(p:Int×Int)(o:Option (List<|List Int)):Prop:=∀L,o=some L->0<L.length/\L.length<=100/\∀ws∈L,Fil p ws
structure aBS(p:Int×Int)(w:List (Option (List<|List Int))):Prop where
 len:w.length=(bT p).length
 ok:∀o∈w,WsOk p o
theorem aRG{w:List (Option (List<|List Int))}{k:Nat}(h:k<w.length):(w.map wsD)[k]? =some (wsD<|w.getD k none):=by simp[bF,h]
theorem aMn(o:Option (List Int)):isN (aQf o)=o.isNone:=by cases o<;>rfl
noncomputable def aNs(w:List (Option (List<|List Int)))(T:List (List Int))(k:Nat):Bool:=match w.getD k none with
 |none=>false
 |some L=> !decide (T.getD k []∈L)
noncomputable def rQ(w:List (Option (List<|List Int)))(A T:List (List Int)):Option (List Int):=qN (aNs w T) A
def aOk:List D->R->Prop:=λds r=>∃p w T,p∈bU/\aBS p w/\aCQ p T/\ds=[bW p,.lst<|w.map wsD,.tup<|T.map bN]/\r=.val (aQf<|rQ w (bT p) T)
def aOx:List D->R->Prop:=λds r=>∃p w T,p∈bU/\aBS p w/\aCQ p T/\ds=[bW p,.lst<|w.map wsD,.tup<|T.map bN]/\r=.val (.bl (rQ w (bT p) T).isNone)
theorem aCr(L:List (List Int))(t:List Int):((L.map bN).any λz=>deq z<|bN t)=decide (t∈L):=by
 induction L with
 |nil=>simp
 |cons a L ih=>
  rw[aV,jP,ih,aCa]
  by_cases h:t=a
  ·simp[h]
  ·have h2:¬ a=t:=λq=>h q.symm
   simp[h,h2]
noncomputable def wdQ(bs:List Nat)(f:List Int):List Int:=bs.map λj=>f.getD j 0
theorem xE:∀a:List Nat,plL (bG a)=true/\jZ (bG a)=0
 |[]=>⟨rfl,rfl⟩
 |a::as=>by obtain⟨h1,h2⟩:=xE as;unfold bG at h1 h2 ⊢;simp only[aV,plL,jZ,pl,dep,h1,h2];exact⟨rfl,rfl⟩
structure TurnOk(n:Nat)(τ:List Nat):Prop where
 len:τ.length=n
 lt:∀b∈τ,b<n
 mem:∀b,b<n->b∈τ
 nd:τ.Nodup
noncomputable def jD(τ:List Nat):List Nat:=(aW τ.length).map λb=>τ.idxOf b
noncomputable def tfQ(τ:List Nat)(ws:List Int):List Int:=(jD τ).map λb=>ws.getD b 0
noncomputable def tsQ(τ:List Nat)(q:SQ):SQ:=(q.1,((τ.getD q.2.1.toNat 0:Nat):Int),((τ.getD q.2.2.1.toNat 0:Nat):Int),q.2.2.2)
variable {n:Nat}{τ:List Nat}
theorem TurnOk.at(T:TurnOk n τ)(h:i<n):τ.getD i 0<n:=by
 have h':i<τ.length:=by rw[T.len];exact h
 have e:τ.getD i 0=τ[i]:=by simp[bF,h']
 rw[e];exact T.lt _<|fP h'
theorem TurnOk.idx(T:TurnOk n τ)(h:i<n):τ.idxOf (τ.getD i 0)=i:=by
 have h':i<τ.length:=by rw[T.len];exact h
 have e:τ.getD i 0=τ[i]:=by simp[bF,h']
 rw[e];exact T.nd.idxOf_getElem i h'
theorem TurnOk.idx_lt(T:TurnOk n τ){b:Nat}(h:b<n):τ.idxOf b<n:=by have:=zO<|T.mem b h;rw[T.len] at this;exact this
theorem TurnOk.get_idx(T:TurnOk n τ){b:Nat}(h:b<n):τ.getD (τ.idxOf b) 0=b:=by have h':=zO<|T.mem b h;simp[bF,h']
theorem jC:(jD τ).length=τ.length:=by simp[jD]
theorem oU{b:Nat}(h:b<τ.length):(jD τ).getD b 0=τ.idxOf b:=by simp[jD,bF,h]
theorem TurnOk.back(T:TurnOk n τ):TurnOk n (jD τ):=by
 refine⟨by rw[jC,T.len],λb hb=> ?_,λb hb=> ?_, ?_⟩
 ·obtain⟨c,hc,rfl⟩:=aJ.mp hb;rw[bE,T.len] at hc;exact T.idx_lt hc
 ·refine aJ.mpr ⟨τ.getD b 0, ?_,T.idx hb⟩;rw[bE,T.len];exact T.at hb
 ·unfold jD;refine aAD.mpr<|gP.mpr ?_;have:(aW τ.length).Nodup:=gY;refine(aAD.mp this).imp_of_mem λ{a b} ha hb hne z=>hne ?_
  rw[bE,T.len] at ha hb;have:τ.getD (τ.idxOf a) 0=τ.getD (τ.idxOf b) 0:=by rw[z]
  rwa[T.get_idx ha,T.get_idx hb] at this
theorem aGl(T:TurnOk n τ):jD (jD τ)=τ:=by
 apply kH;intro i
 by_cases h:i<n
 ·have h1:i<(jD<|jD τ).length:=by rw[jC,jC,T.len];exact h
  have h2:i<τ.length:=by rw[T.len];exact h
  have e1:=oU (τ:=jD τ) (b:=i) (by rw[jC,T.len];exact h)
  have e2:(jD τ).idxOf i=τ.getD i 0:=by have:=T.back.idx (i:=τ.getD i 0)<|T.at h;rw[oU (by rw[T.len];exact T.at h),T.idx h] at this;exact this
  rw[e2] at e1;simp only[bF] at e1;rw[dC h1,dC h2] at e1 ⊢;simpa using e1
 ·rw[dJ (by rw[jC,jC,T.len];omega),dJ<|by rw[T.len];omega]
theorem qQ{ws:List Int}:(tfQ τ ws).length=τ.length:=by simp[tfQ,jC]
theorem aHB{ws:List Int}{b:Nat}(h:b<τ.length):(tfQ τ ws).getD b 0=ws.getD (τ.idxOf b) 0:=by simp[tfQ,jD,bF,h]
theorem qP(T:TurnOk n τ){ws:List Int}(h:i<n):(tfQ τ ws).getD (τ.getD i 0) 0=ws.getD i 0:=by rw[aHB (by rw[T.len];exact T.at h),T.idx h]
theorem aCC{as bs:List Int}(hl:as.length=bs.length)(h:∀b,b<as.length->as.getD b 0=bs.getD b 0):as=bs:=by apply gZ hl;intro i h1 h2;have:=h i h1;simpa[bF,h1,h2] using this
theorem aCd(ws:List Int)(i b:Nat)(x:Int)(h:b<ws.length):(ws.set i x).getD b 0=if i=b then x else ws.getD b 0:=by
 simp only[bF,aKX]
 by_cases e:i=b
 ·subst e;simp[h]
 ·simp[e]
theorem aPk(T:TurnOk n τ){ws:List Int}(hw:ws.length=n)(h:i<n)(x:Int):tfQ τ (ws.set i x)=(tfQ τ ws).set (τ.getD i 0) x:=by
 refine aCC (by rw[qQ,aNC,qQ]) λb hb=> ?_
 rw[qQ,T.len] at hb;rw[aHB (by rw[T.len];exact hb),aCd _ _ _ _ (by rw[hw];exact T.idx_lt hb),aCd _ _ _ _ (by rw[qQ,T.len];exact hb),aHB<|by rw[T.len];exact hb]
 by_cases e:i=τ.idxOf b
 ·rw[if_pos e,if_pos];rw[e,T.get_idx hb]
 ·rw[if_neg e,if_neg];intro z;apply e;rw[<-z,T.idx h]
theorem aMa(T:TurnOk n τ){ws:List Int}(hw:ws.length=n):tfQ (jD τ) (tfQ τ ws)=ws:=by
 refine aCC (by rw[qQ,jC,T.len,hw]) λb hb=> ?_
 rw[qQ,jC,T.len] at hb
 have e2:(jD τ).idxOf b=τ.getD b 0:=by have:=T.back.idx (i:=τ.getD b 0)<|T.at hb;rw[oU (by rw[T.len];exact T.at hb),T.idx hb] at this;exact this
 rw[aHB (by rw[jC,T.len];exact hb),e2,qP T hb]
theorem aMj(T:TurnOk n τ){q:SQ}(hi:0<=q.2.1/\q.2.1<n)(hj:0<=q.2.2.1/\q.2.2.1<n):tsQ (jD τ) (tsQ τ q)=q:=by
 obtain⟨k,i,j,m⟩:=q;simp only at hi hj;have h1:i.toNat<n:=by omega
 have h2:j.toNat<n:=by omega
 simp only[tsQ,cF];rw[oU (by rw[T.len];exact T.at h1),oU (by rw[T.len];exact T.at h2),T.idx h1,T.idx h2,mC hi.1,mC hj.1]
theorem aRR{q:SQ}{ws:List Int}(T:TurnOk p.2.toNat τ)(O:SqOk p q)(G:Fil p ws):onQ p (tsQ τ q) (tfQ τ ws)=tfQ τ (onQ p q ws):=by
 have hi:=O.i0;have hj:=O.j0;have h1:q.2.1.toNat<p.2.toNat:=by omega
 have h2:q.2.2.1.toNat<p.2.toNat:=by omega
 unfold onQ;rw[aPk T G.len h1]
 have e:nwQ p (tsQ τ q) (tfQ τ ws)=nwQ p q ws:=by unfold nwQ tsQ;simp only[cF];rw[qP T h1,qP T h2]
 rw[e];simp only[tsQ,cF]
theorem aQT{q:SQ}(T:TurnOk p.2.toNat τ)(O:SqOk p q):SqOk p (tsQ τ q):=by have hi:=O.i0;have hj:=O.j0;have a:=T.at (i:=q.2.1.toNat) (by omega);have b:=T.at (i:=q.2.2.1.toNat) (by omega);exact⟨O.sz,O.k10,⟨by simp only[tsQ];omega,by simp only[tsQ];omega⟩,⟨by simp only[tsQ];omega,by simp only[tsQ];omega⟩,O.n0⟩
theorem aEu{ws:List Int}(T:TurnOk p.2.toNat τ)(G:Fil p ws):Fil p (tfQ τ ws):=by
 refine⟨by rw[qQ,T.len],λx hx=> ?_⟩;obtain⟨b,hb,rfl⟩:=aJ.mp hx;have hb':=T.back.lt b hb;have h':b<ws.length:=by rw[G.len];exact hb'
 have e:ws.getD b 0=ws[b]:=by simp[bF,h']
 rw[e];exact G.wd _<|fP h'
noncomputable def fW(m:Int)(n:Nat):Nat->List Nat×List Nat
 |0=>(aW n,[])
 |t+1=>((fW m n t).1.eraseIdx (m / 7^t%((fW m n t).1.length:Int)).toNat,(fW m n t).2++[(fW m n t).1.getD (m / 7^t%((fW m n t).1.length:Int)).toNat 0])
noncomputable def aHC(m:Int)(n:Nat):List Nat:=(fW m n n).2
theorem wP:∀ (l:List Nat) (i:Nat) (h:i<l.length),(l[i]::l.eraseIdx i).Perm l
 |[],_,h=>by simp at h
 |a::l,0,_=>.refl _
 |a::l,i+1,h=>by show(l[i]'(by simpa using h)::a::l.eraseIdx i).Perm (a::l);exact(List.Perm.swap a _ _).trans<|.cons a (wP l i<|by simpa using h)
theorem yC(m:Int)(n:Nat):∀t,t<=n->(fW m n t).1.length=n-t/\((fW m n t).2++(fW m n t).1).Perm (aW n)
 |0,_=>⟨by simp[fW],by simp[fW]⟩
 |t+1,h=>by
  obtain⟨a,b⟩:=yC m n t (by omega);show((fW m n t).1.eraseIdx (m / 7^t%((fW m n t).1.length:Int)).toNat).length=_/\(((fW m n t).2++[(fW m n t).1.getD (m / 7^t%((fW m n t).1.length:Int)).toNat 0])++(fW m n t).1.eraseIdx (m / 7^t%((fW m n t).1.length:Int)).toNat).Perm _;generalize fW m n t=L at a b;have l0:(0:Int)<(L.1.length:Int):=by omega
  have r1:=dG (m / 7^t)<|gR l0;have r2:=cK (m / 7^t) l0;have r3:(m / 7^t%(L.1.length:Int)).toNat<L.1.length:=by omega
  generalize (m / 7^t%(L.1.length:Int)).toNat=i at r3;refine⟨by rw[aAC r3];omega, ?_⟩;rw[fX];refine List.Perm.trans (List.Perm.append_left L.2 ?_) b;have e:L.1.getD i 0=L.1[i]:=by simp[bF,r3]
  rw[e];exact wP L.1 i r3
theorem aIy(m:Int)(n:Nat):TurnOk n (aHC m n):=by obtain⟨a,b⟩:=yC m n n<|aR _;have e:(fW m n n).1=[]:=dS (by omega);rw[e,cH] at b;refine⟨by have:=b.length_eq;rw[dE] at this;exact this,λx hx=>bE.mp<|b.mem_iff.mp hx,λx hx=>b.mem_iff.mpr<|bE.mpr hx,b.nodup_iff.mpr gY⟩
structure SqN(n:Nat)(q:SQ):Prop where
 k10:q.1<10
 i0:0<=q.2.1/\q.2.1<n
 j0:0<=q.2.2.1/\q.2.2.1<n
theorem SqOk.b{q:SQ}(O:SqOk p q):SqN p.2.toNat q:=by have hi:=O.i0;have hj:=O.j0;exact⟨O.k10,⟨hi.1,by omega⟩,⟨hj.1,by omega⟩⟩
def aOg:List D->R->Prop:=λds r=>∃ (m:Int) (n:Nat),1<=n/\n<=6/\ds=[.int m,.int (n:Int)]/\r=.val (.tup (bG<|aHC m n))
def aKf:List D->R->Prop:=λds r=>∃ (n:Nat) (τ:List Nat) (q:SQ),τ.length=n/\SqN n q/\ds=[.tup<|bG τ,sqD q]/\r=.val (sqD<|tsQ τ q)
noncomputable def tkQ(τ:List Nat)(L:List SK):List SK:=L.map λs=>(tsQ τ s.1,s.2)
def aFE:List D->R->Prop:=λds r=>∃ (n:Nat) (τ:List Nat) (L:List SK),τ.length=n/\L.length<=100/\(∀s∈L,SqN n s.1)/\ds=[.tup<|bG τ,.lst<|L.map skD]/\r=.own ((tkQ τ L).map skD)
noncomputable def tsD(τ:List Nat):D->D
 |.tup [.str x,.int i,.int j]=>if x="put" then .tup [.str x,.int ((τ.getD i.toNat 0:Nat):Int),.int j] else .tup [.str x,.int ((τ.getD i.toNat 0:Nat):Int),.int ((τ.getD j.toNat 0:Nat):Int)]
 |.tup [.str x,.int i]=>.tup [.str x,.int ((τ.getD i.toNat 0:Nat):Int)]
 |_=>.non
theorem aJP(τ:List Nat){q:SQ}(h:q.1<10):tsD τ (sqD q)=sqD (tsQ τ q):=by
 obtain⟨k,i,j,n⟩:=q;simp only at h;show tsD τ (gI k i j n)=gI k _ _ n
 match k,h with
 |0,_=>rfl
 |1,_=>rfl
 |2,_=>rfl
 |3,_=>rfl
 |4,_=>rfl
 |5,_=>rfl
 |6,_=>rfl
 |7,_=>rfl
 |8,_=>rfl
 |9,_=>rfl
noncomputable def tkD(τ:List Nat):D->D
 |.tup [x,y]=>.tup [tsD τ x,y]
 |_=>.non
theorem aKR(τ:List Nat){s:SK}(h:s.1.1<10):tkD τ (skD s)=skD (tsQ τ s.1,s.2):=by show D.tup [tsD τ<|sqD s.1,_]=D.tup [_,_];rw[aJP τ h]
theorem aFp(τ:List Nat):∀L:List SK,(∀s∈L,s.1.1<10)->(L.map skD).map (tkD τ)=(tkQ τ L).map skD
 |[],_=>rfl
 |s::L,h=>by
  have e:=aFp τ L λs hs=>h s<|aE _ hs
  unfold tkQ at e ⊢;simp only[aV];rw[e,aKR τ<|h s aH]
theorem aIp(d:D)(l:List D):DL.cutD (d::l) (some 1) none=l:=by unfold DL.cutD;rw[show HT.sIx (d::l).length 0 (some 1)=1 from(HT.sIx_nat (d::l).length 0 1).trans (by simp),HT.sIx_none];simp
theorem aHV{α β:Type}{xs:List α}{ys:List β}(h:xs.length=ys.length)(x:α)(y:β):(xs++[x]).zip (ys++[y])=xs.zip ys++[(x,y)]:=by rw[aND h];rfl
theorem tS{ks:List Key}{k:Key}(hk:k∉ks):∀ {ks':List Key}{xs:List V},(∀j∈ks',j∈ks)->jE (ks'.zip xs) k=none
 |[],_,_=>rfl
 |_::_,[],_=>rfl
 |j::js,x::xs,h=>by rw[dH,iA (p:=(j,x)) (k:=k) (λe=>hk<|(show j=k from e)▸h j aH)];exact tS hk λi hi=>h i<|aE _ hi
theorem aBf:∀ {ks:List Key}{xs:List V}{n:Nat}{k:Key}{x:V},ks.Nodup->ks[n]? =some k->xs[n]? =some x->jE (ks.zip xs) k=some x
 |[],_,n,_,_,_,h,_=>by simp at h
 |_::_,[],n,_,_,_,_,h=>by simp at h
 |j::js,y::ys,0,k,x,nd,h1,h2=>by
  have e1:j=k:=by simpa using h1
  have e2:y=x:=by simpa using h2
  rw[dH,kA e1,e2]
 |j::js,y::ys,n+1,k,x,nd,h1,h2=>by
  obtain⟨nj,nd⟩:=bX.mp nd;have h1:js[n]? =some k:=by simpa using h1
  have h2:ys[n]? =some x:=by simpa using h2
  rw[dH,iA (p:=(j,y)) (k:=k) (λe=>nj<|(show j=k from e)▸bH h1)];exact aBf nd h1 h2
theorem aCe:∀ {vs:List BH}{ns:List Int},IntsAre vs ns->Vals (ns.map V.int) vs
 |_,_,.nil=>.nil
 |_,_,.cons n t h=>.cons ⟨t,rfl⟩<|aCe h
theorem aCl(h:BL)(vs:List BH)(out:Array BH):(∀b x,h.get? b=some x->(sortedAll h vs out).get? b=some x)/\∃n,(sortedAll h vs out).get? (h.objs.size+1)=some (AZ "list" out n):=by
 have hsz:((h.push<|AZ "list" #[] 0).update h.objs.size (Obj.mapSeq (·++vs.toArray))).objs.size=h.objs.size+1:=by rw[oN,size_push']
 have hoL:(((h.push<|AZ "list" #[] 0).update h.objs.size (Obj.mapSeq (·++vs.toArray))).push<|AZ "list" vs.toArray 0).get? (h.objs.size+1)=some (AZ "list" vs.toArray 0):=by rw[<-hsz];exact aS _ rfl
 constructor
 ·intro b x g;have lt:=aO g;have n1:h.objs.size≠b:=λz=>absurd lt (by rw[z];exact dZ _)
  have n2:h.objs.size+1≠b:=λz=>absurd lt (by rw[<-z];exact aCP.mpr<|fK _)
  unfold sortedAll sortedHeap;rw[cP _ _ n2];refine aD _<|aD _ ?_;rw[cP _ _ n2];refine aD _ ?_;rw[cP _ _ n1];exact aD _ g
 ·obtain⟨n1,g1⟩:∃n1,((((h.push<|AZ "list" #[] 0).update h.objs.size (Obj.mapSeq (·++vs.toArray))).push<|AZ "list" vs.toArray 0).update (h.objs.size+1)<|Obj.mapSeq λ_=> #[]).get? (h.objs.size+1)=some (AZ "list" #[] n1):=⟨_,BG hoL λ_=> #[]⟩;exact⟨_,BG (aD _<|aD _ g1) λ_=>out⟩
theorem aIo{p:Pos}{ns ms:List Int}(hg:Gl X "sorted")(hm:X.mg "sorted"=none)(ha:PEd X sd e (.bor<|ns.map D.int))(h60:ns.length<=60)(hp:ms.Perm ns)(hs:ms.Pairwise (·<=·))
  (hst:AC [e] X.env=(false,eval e X.env)::AC [] X.env:=by rfl):
  PEd X sd (.Call (.Name "sorted" p) [e] [] pos) (.own<|ms.map D.int):=.mk λσ F H S pins s I=>by
 refine AJ<|hX I hg hm boot_sorted ?_;refine PyProof.Rows.callWith_builtin1 (thn ((dP (te:=wE X e) eV pa_nil hst) pos pins s σ H (λus H1=>∃v F1,us=[v]/\StF X.K X.B₀ F1 H1 σ sd/\Same F F1/\ResOk X.K F1 H1 sd (.bor<|ns.map D.int) v) I<|(ha σ F H S).imp λv H1 ⟨F1,S1,s1,q1⟩=>⟨v,F1,rfl,S1,s1,q1⟩) λus s1 hus=> ?_) hst rfl;obtain⟨ws,H1,I1,rv,v,F1,rfl,S1,sF,q1⟩:=hus;obtain⟨u,rfl,ru⟩:=mL rv;obtain⟨l,xs,rfl,hl,rl,_⟩:=q1;cases ru;have ex:=rl.ints;subst ex;obtain⟨z,its,n,r,hl2,eo⟩:=I1.lstM hl;have ia:IntsAre its ns:=aDG r;have il:its.length=ns.length:=by rw[<-r.length,aB]
 refine sorted_ints (l:=l) (vs:=its) ⟨_,eo,rfl,n,rfl⟩ ia (by omega) λout ns' a1 a2 a3=> ?_
 have en:ns'=ms:=List.Perm.eq_of_pairwise (le:=(·<=·)) (λa b _ _ h1 h2=>by omega) a3 hs<|a2.trans hp.symm;subst en;obtain⟨kp,n2,g2⟩:=aCl s1.heap its out;have hD:H1 (s1.heap.objs.size+1)=none:=I1.hok.fresh<|fK _;have len:ns'.length=ns.length:=a2.length_eq
 have I3:Inv X pins σ (upd H1 (s1.heap.objs.size+1) (.lst<|ns'.map V.int)) {s1 with heap:=sortedAll s1.heap its out}:=
  I1.laid (t':=s1.toks) kp (fK _) ⟨by rw[AU,aB];omega,out.toList,n2,aCe a1,by simpa[AZ] using g2⟩
 obtain⟨S4,fp,no⟩:=S1.layO (xs:=ns'.map V.int) hD;refine⟨.ref<|s1.heap.objs.size+1,_,I3,rfl,F1,S4,sF,_,_,rfl,fp,bL, ?_,no⟩
 have gg:∀ks:List Int,RepL X.K F1 (ks.map D.int) (ks.map V.int):=λks=>by
  induction ks with
  |nil=>exact .nil
  |cons k ks ih=>exact .cons (by simp only[Rep]) ih
 exact gg _
noncomputable def exO(l:BJ)(o:BM):HO:=.ext λh=>h.get? l=some o
theorem qZ{h:BL}{o:BM}(g:h.get? l=some o):ObjOk P w H h l (exO l o):=⟨g,⟨o,g⟩,λ_ _ q k=>k _ q⟩
def TDo(P:AD)(w:AI)(F:Hp)(l:BJ)(o:BM)(kvs:List (List Key×V)):Prop:=
 kvs.length<=AH/\(l==AV)=false/\∃xs,KT F kvs xs/\∃es ep,o.ExactDict/\o.data=.dict es ep/\es.toList=xs.map (entryOfKey (Ai<|eP P w))/\(xs.map (·.1)).Nodup
theorem TDo.mono{o:BM}{kvs:List (List Key×V)}(t:TDo P w F l o kvs)(s:Same F F'):TDo P w F' l o kvs:=by obtain⟨z,y,xs,r,q⟩:=t;exact⟨z,y,xs,r.keeps λb ys e=>s _ _ e,q⟩
theorem KT.all{h:BL}(ok:HOk P w H h){l:List (List Key×V)}{m:List (List Key×BJ×BH)}(q:KT H l m):∀x∈m,(Ai<|eP P w).is h x.1 x.2.1:=by
 induction q with
 |nil=>intro x hx;exact nomatch hx
 |@cons p q ps qs hq t ih=>
  intro x hx
  rcases aU.mp hx with e|hx
  ·subst e;exact mS ok (by rw[<-hq.1];exact hq.2.1)
  ·exact ih x hx
noncomputable def kD:Key->D
 |.inl i=>.int i
 |.inr x=>.str x
theorem pB{K:aA}{F:Hp}:∀ {k:List Key}{xs:List V},RepL K F (k.map kD) xs->xs=k.map kV
 |[],xs,r=>by simpa only[eA,RepL] using r
 |a::k,xs,r=>by
  rw[aV] at r;obtain⟨y,ys,rfl,q,rl⟩:=r.uncons;rw[pB rl,aV];congr 1;cases a with
  |inl i=>simp only[kD,Rep] at q;exact q
  |inr x=>simp only[kD,Rep] at q;exact q
theorem tV{α β:Type}{xs:List α}{ys:List β}(h:xs.length=ys.length)(x:α)(y:β):(xs++[x]).zip (ys++[y])=xs.zip ys++[(x,y)]:=by rw[aND h];rfl
theorem aAn{ks:List (List Key)}{k:List Key}(hk:k∉ks):∀ {ks':List (List Key)}{xs:List V},(∀j∈ks',j∈ks)->jE (ks'.zip xs) k=none
 |[],_,_=>rfl
 |_::_,[],_=>rfl
 |j::js,x::xs,h=>by rw[dH,iA (p:=(j,x)) (k:=k) (λe=>hk<|(show j=k from e)▸h j aH)];exact aAn hk λi hi=>h i<|aE _ hi
theorem aFl:∀ {ks:List (List Key)}{xs:List V}{n:Nat}{k:List Key}{x:V},ks.Nodup->ks[n]? =some k->xs[n]? =some x->jE (ks.zip xs) k=some x
 |[],_,n,_,_,_,h,_=>by simp at h
 |_::_,[],n,_,_,_,_,h=>by simp at h
 |j::js,y::ys,0,k,x,nd,h1,h2=>by
  have e1:j=k:=by simpa using h1
  have e2:y=x:=by simpa using h2
  rw[dH,kA e1,e2]
 |j::js,y::ys,n+1,k,x,nd,h1,h2=>by
  obtain⟨nj,nd⟩:=bX.mp nd;have h1:js[n]? =some k:=by simpa using h1
  have h2:ys[n]? =some x:=by simpa using h2
  rw[dH,iA (p:=(j,y)) (k:=k) (λe=>nj<|(show j=k from e)▸bH h1)];exact aFl nd h1 h2
theorem wK:∀ {sd:List Slot}{i:Nat}{z:Slot},(cC sd).Nodup->sd[i]? =some z->(fS z).Nodup
 |[],_,_,_,e=>by simp at e
 |y::zs,0,z,h,e=>by
  have:y=z:=by simpa using e
  subst this;exact(bJ.mp (show(fS y++cC zs).Nodup from h)).1
 |y::zs,i+1,z,h,e=>wK (sd:=zs) (i:=i) (bJ.mp (show(fS y++cC zs).Nodup from h)).2.1 (by simpa using e)
variable {ks:List (List Key)}
theorem StF.setT{as:List BJ}{G:V->Hp->Hp->Prop}(S:StF K H₀ F H σ sd)(i:Nat)(q:eW K F H (.ox as G) (some v))(nd:as.Nodup)(no:∀a∈as,a∉cC sd):StF K H₀ F H (σ.set i (some v)) (sd.set i<|.ox as G):=
 ⟨S.base,S.sub,S.smp,S.slots.set (z:=.ox as G) q i,(jO (z:=.ox as G) i S.nd (λl e=>.inl<|no l e) nd).1⟩
theorem StF.reT{z z':Slot}{o:Option V}(S:StF K H₀ F H σ sd)(hs:sd[i]? =some z)(ho:σ[i]? =some o)(keep:∀b ob,b∉fS z->H b=some ob->H' b=some ob)(sm:Smp H')(q:eW K F H' z' o)(nd:(fS z').Nodup)(no:∀a∈fS z',a∈fS z\/a∉cC sd):StF K H₀ F H' σ (sd.set i z'):=by
 have S0:=S.le<|gU sd i;have mz:∀a∈fS z,a∈cC sd:=λa ha=>dN.mpr ⟨z,bH hs,ha⟩
 refine⟨S.base,λb u e=> ?_,sm, ?_, ?_⟩
 ·refine keep b u (λhb=> ?_)<|S.sub _ _ e;have:=(S.slots.owns<|mz b hb).1;rw[e] at this;cases this
 ·have q1:SlotsOk K F H' (sd.set i .un) σ:=S0.slots.mono (Same.refl _) λa ha=>⟨(S0.slots.owns ha).1,λob e=>keep a ob (λhb=>hV S.nd hs hb ha) e⟩
  have q2:=q1.set (z:=z') (o:=o) q i;rw[jY,lW ho] at q2;exact q2
 ·have:=jO (z:=z') i S0.nd (fun a ha=>by
   rcases no a ha with h|h
   ·exact .inl<|hV S.nd hs h
   ·exact .inl λhm=>h ((gU sd i).own.subset hm)) nd
  rw[jY] at this;exact this.1
theorem mY{o:BM}(h:Smp H)(a:BJ):Smp (upd H a<|exO a o):=λb u e=>by
 by_cases z:b=a
 ·subst z;rw[bL] at e;cases e;trivial
 ·rw[bD z] at e;exact h _ _ e
variable {a b c:Expr}{d:D}{k:List Key}{st:BN}{E:iT}
noncomputable def aHu:BM:={cls:=.type "dict",data:=.dict #[]}
theorem aBZ:PE X (.Dict [] [] pos) (λ_ H Q=>∀p,H p=none->(p==AV)=false->Q (.ref p) (upd H p<|exO p aHu)):=λpins s σ H Q I h=>wpAny_Dict_empty ⟨.ref s.heap.objs.size,_,I.laid (a:=s.heap.objs.size) (o:=exO s.heap.objs.size aHu) (t':=s.toks) (λ_ _ q=>aD _ q) (aR _) (qZ<|aS _ rfl),rfl,h _ (I.hok.fresh<|aR _)<|beq_eq_false_iff_ne.mpr (Ne.symm<|bM I.big)⟩
section
variable {prog:AD}{w:AI}{K:Type}[DecidableEq K]{knd:HeapKind prog w K}{A:BK}{E:BH->BI->Prop}{s:BI}
theorem qF{d a:BJ}{xs:List (K×BJ×BH)}{k:K}{v:BH}{Q:BH->BI->Prop}(hu:knd.room A)(hkey:knd.is s.heap k a)(hm:s.heap.DictOfH knd d xs)
  (hold:∀u,(atKey xs k).map (·.2)=some u->Q u {s with toks:=s.toks+knd.draws k})
  (hnew:atKey xs k=none->∀h',h'.DictOfH knd d (storedH xs k a v)->Heap.SameBut d s.heap h'->Q v {s with heap:=h',toks:=s.toks+knd.draws k})
  (hsz:xs.length<=AH):
  AE (AF prog w) A (dictSetDefault d (.ref a) v) Q E s:=by
 obtain⟨o,es,ep,ho,hc,hd,he,his,hn⟩:=hm;unfold dictSetDefault
 try with_reducible refine AT ?_
 refine AA<|knd.pyHash hu hkey ?_;refine AA<|wpAny_dictFind_heap (s:={s with toks:=s.toks+knd.draws k}) hu hkey ho hd he his hn ?_ ?_
 ·intro hno;have hnot:k∉xs.map (·.1):=not_mem_keys_of_get hno
  refine AA (wpAny_rule (AA (wpAny_updateDictKeys (hz:=by have e:=Ax he; omega) (s:={s with toks:=s.toks+knd.draws k}) ho hd (AB (hnew (atKey_none_of_get hno) _ ⟨_,_,ep+1,cX _ ho (Obj.isFreed_of_dict (Obj.data_mapDictKeys hd _)),
   hc.mapDictKeys _,Obj.data_mapDictKeys hd _, ?_, ?_, ?_⟩ (Heap.SameBut.update ..))))))
  ·rw[storedH_new<|atKey_none_of_get hno];simp[he,entryOfKey]
  ·rw[storedH_new<|atKey_none_of_get hno];intro x hx
   rcases bC.mp hx with hx|hx
   ·exact knd.keeps (his x hx) ho hd<|Heap.SameBut.update ..
   ·simp only[aF] at hx;subst hx;exact knd.keeps hkey ho hd<|Heap.SameBut.update ..
  ·rw[storedH_new<|atKey_none_of_get hno];rw[aZ,bJ];refine⟨hn,by simp, ?_⟩;intro x hx y hy;simp only[aV,eA,aF] at hy;subst hy;exact λe=>hnot<|e▸hx
 ·intro j p hj;refine AA<|Al (s:={s with toks:=s.toks+knd.draws k}) ho hd ?_;rw[entry_at he j,hj];have:=hold p.2 (by rw[atKey_of_get hn hj];rfl);exact AA (wpAny_rule<|AB this)
end
section
variable {prog:AD}{w:AI}{K:Type}[DecidableEq K](knd:HeapKind prog w K)(d a:BJ)
theorem rR(hd:(d==AV)=false)(dflt:BH):
  MeetsIn prog w (Builtin.«dict.setdefault» ⟨[.ref d, .ref a,dflt],[]⟩) (fun A R s=>knd.room A.in1∧∃k xs,knd.is s.heap k a∧s.heap.DictOfH knd d xs∧xs.length≤AH∧
   (∀u,(atKey xs k).map (·.2)=some u->R (.ok<|.ret u) {s with toks:=s.toks+knd.draws k})/\
   (atKey xs k=none->∀h',h'.DictOfH knd d (storedH xs k a dflt)->Heap.SameBut d s.heap h'->R (.ok (.ret dflt)) {s with heap:=h',toks:=s.toks+knd.draws k})):=
 .of_wp λA R s ⟨hu,k,xs,hkey,hm,hz,h1,h2⟩=>by unfold Builtin.«dict.setdefault»;refine AA ?_;unfold Builtin.Dict.keyAndDefault;refine AA<|Ay hm.typeIs ?_;show AE _ _ (pure (d,Value.ref a,some dflt)) _ _ s;refine AB ?_;show AE _ _ (if(d==AV)=true then _ else(dictSetDefault d (.ref a) dflt>>=_)) _ _ s;rw[if_neg<|by rw[hd];exact bO];exact AA<|qF (hsz:=hz) hu hkey hm (λv hv=>AB ⟨v,rfl,h1 v hv⟩) λhn h' hm' hs'=>AB ⟨dflt,rfl,h2 hn h' hm' hs'⟩
end
section
variable {X:Cx}{o e:Expr}{es:List Expr}{to:TE}{t:TA}{name:Str}{apos cpos:Pos}{id:String}{r:V->List V->Hp->VK->Prop}
theorem aOh(pa:PlainAttrs "dict")(slot:PySem.Slot "dict" name id)(hty:typeOf (.builtin id)=pure (.type "method_descriptor"))(hm:MtR X id r)(ho:PE X o to)(ha:PA X (e::es) t)
  (hbase:Ad o name X.env (eval o X.env)=eval o X.env:=by rfl)
  (hfew:((Ae cpos (AC (e::es) X.env)).all (fun x=> !x.1) && (backToKw cpos (keywordEach [] X.env)).all (fun x=>x.1.isSome)
  &&decide ((e::es).length+([]:List Keyword).length+(if([]:List Keyword).isEmpty then 0 else 1)<30))=true:=by rfl)
  (hline:(apos.endLine==cpos.line)=true:=by rfl) (hs:AC (e::es) X.env=(false,eval e X.env)::AC es X.env:=by rfl) (hplain:(Ae cpos<|AC es X.env).any (·.1)=false:=by rfl):
  PE X (.Call (.Attribute o name apos) (e::es) [] cpos) (λσ H Q=>to σ H λx H1=>(∃l ob,x=.ref l/\H1 l=some (exO l ob)/\ob.ExactDict)/\t σ H1 λxs H2=>r x xs H2 Q):=by
 intro pins s σ H Q I h;refine wpAny_Call_method_late hbase hfew hline rfl<|thn (ho pins s σ H _ I h) λv s1 ⟨x,H1,I1,r1,⟨l,ob,e1,e2,e3⟩,q1⟩=> ?_;subst e1;obtain rfl:v=Value.ref l:=r1;have hg:s1.heap.get? l=some ob:=(I1.hok l _ e2).1;refine⟨"dict",id,pa,slot,hty,⟨ob,hg,e3.1⟩,λa q=> ?_, ?_⟩
 ·cases q;exact⟨ob,hg,e3.2.1⟩
 have hA:=ha cpos pins s1 σ H1 _ I1 q1;rw[hs] at hA ⊢;refine Calls.callWith_builtin (by show(false||(Ae cpos<|AC es X.env).any (·.1))=false;rw[hplain]<;>rfl)<|Calls.evalArgs_plain ?_;exact thn hA λus s2 ⟨vs,H2,I2,r2,q2⟩=>hm pins s2 σ H2 (.ref l) vs (.ref l) us Q I2 rfl r2 q2
def rSD(X:Cx):V->List V->Hp->VK->Prop:=λx vs H Q=>∃ (F:Hp) (l ad:BJ) (k:List Key) (y:V) (o:BM) (kvs:List (List Key×V)),x=.ref l/\vs=[.ref ad,y]/\Same F H/\H l=some (exO l o)/\F ad=some (.tup<|k.map kV)/\X.A.units+1<AM/\
 TDo X.prog X.w F l o kvs/\kvs.length+1<=AH/\(∀z,jE kvs k=some z->Q z H)/\(jE kvs k=none->∀o',(∀v,o'.data≠ .cell v)->TDo X.prog X.w F l o' (kvs++[(k,y)])->Q y (upd H l<|exO l o'))
theorem aRP:MtR X "dict.setdefault" (rSD X):=by
 intro pins s σ H x vs v us Q I rx rv h;obtain⟨F,l,ad,k,y,o,kvs,rfl,rfl,sF,hl,ha,hu,⟨z,hm,ts,kt,es,ep,t1,t2,t3,t4⟩,hz1,q1,q2⟩:=h;obtain rfl:v=Value.ref l:=rx;cases rv with
 |cons r1 rv=>
  obtain⟨u,rfl,ru⟩:=Vals.one rv;rename_i b;obtain rfl:b=Value.ref ad:=r1;have ho:s.heap.get? l=some o:=(I.hok l _ hl).1;have ktH:KT H kvs ts:=kt.keeps λb ys e=>sF _ _ e
  have dd:s.heap.DictOfH (Ai<|eP X.prog X.w) l ts:=⟨o,es,ep,ho,t1,t2,t3,KT.all I.hok ktH,t4⟩;have hz:ts.length<=AH:=by rw[<-Paired.length kt];exact z
  refine call_meetsIn vH dd.typeIs PySem.F.entry_dict_setdefault (PySem.F.args_dict_setdefault_3 _ _ _) (rR (Ai<|eP X.prog X.w) l ad hm u) ⟨Ac hu,k,ts,mS I.hok<|sF _ _ ha,dd,hz,λw' hw=> ?_,λhn h' dd' hsm=> ?_⟩
  ·have rl:=ktH.val k;rw[hw] at rl;cases hv:jE kvs k with
   |none=>rw[hv] at rl;cases rl
   |some z'=>rw[hv] at rl;exact⟨z',H,I.tok _,rl,q1 z' hv⟩
  ·have hn':jE kvs k=none:=by
    have rl:=ktH.val k;rw[hn] at rl;cases hv:jE kvs k with
    |none=>rfl
    |some z'=>rw[hv] at rl;cases rl
   obtain⟨q,es',ep',hq,u2,u3,u4,_,u5⟩:=dd';have I4:=pV (t':=s.toks+(Ai<|eP X.prog X.w).draws k) I (ob:=exO l q) (by rw[hl];exact True.intro) hsm ⟨q,hq⟩<|qZ hq;have kt':=kt.put k ha ru;rw[sR y hn'] at kt';exact⟨y,_,I4,ru,q2 hn' q (λv z=>by rw[u3] at z;cases z) ⟨by rw[aP];exact hz1,hm,_,kt',es',ep',u2,u3,u4,u5⟩⟩
end
def Gg(P:AD)(w:AI)(K:aA)(l:BJ)(ks:List (List Key))(ls:List BJ)(dss:List (List D)):V->Hp->Hp->Prop:=λv F H=>v=.ref l/\(∃o,H l=some (exO l o)/\(∀v,o.data≠ .cell v)/\ks.length=ls.length/\TDo P w F l o (ks.zip<|ls.map V.ref))/\InD K F H ls dss
noncomputable def odG(P:AD)(w:AI)(K:aA)(l:BJ)(ks:List (List Key))(ls:List BJ)(dss:List (List D)):Slot:=.ox (l::ls)<|Gg P w K l ks ls dss
noncomputable def goR(P:AD)(w:AI)(K:aA)(ks:List (List Key))(dss:List (List D)):R:=.ox λv as F H=>∃l ls,as=l::ls/\Gg P w K l ks ls dss v F H
def Gf(P:AD)(w:AI)(K:aA)(ks:List (List Key))(ds:List D):V->Hp->Hp->Prop:=λv F _=>∃l o xs,v=.ref l/\F l=some (exO l o)/\RepL K F ds xs/\ks.length=ds.length/\TDo P w F l o (ks.zip xs)
noncomputable def odF(P:AD)(w:AI)(K:aA)(ks:List (List Key))(ds:List D):Slot:=.ox []<|Gf P w K ks ds
theorem zS:∀ {ks:List (List Key)}{xs:List V}{k:List Key}{z:V},jE (ks.zip xs) k=some z->∃n:Nat,ks[n]? =some k/\xs[n]? =some z
 |[],_,_,_,h=>by cases h
 |_::_,[],_,_,h=>by cases h
 |j::js,y::ys,k,z,h=>by
  rw[dH] at h
  by_cases e:j=k
  ·rw[kA (p:=(j,y)) e] at h;exact⟨0,by simp[e],by simpa using h⟩
  ·rw[iA (p:=(j,y)) (k:=k) e] at h;obtain⟨n,h1,h2⟩:=zS h;exact⟨n+1,by simpa using h1,by simpa using h2⟩
theorem aFG:∀ {ks:List (List Key)}{xs:List V}{k:List Key},ks.length=xs.length->jE (ks.zip xs) k=none->k∉ks
 |[],_,_,_,_=>by simp
 |_::_,[],_,h,_=>by cases h
 |j::js,y::ys,k,hl,h=>by
  rw[dH] at h
  by_cases e:j=k
  ·rw[kA (p:=(j,y)) e] at h;cases h
  ·rw[iA (p:=(j,y)) (k:=k) e] at h;have:=aFG (Nat.succ.inj hl) h;exact λhm=>(aU.mp hm).elim (λq=>e q.symm) this
theorem aGU{z:Slot}(h:sd[i]? =some z):sd.set i z=sd:=by obtain⟨hi,e⟩:=aI.mp h;rw[<-e,pZ]
theorem iG(S:StF K H₀ F H σ sd)(hs:sd[i]? =some (odG P w K l ks ls dss)):σ[i]? =some (some<|.ref l)/\(∀a∈l::ls,F a=none)/\(∃o,H l=some (exO l o)/\(∀v,o.data≠ .cell v)/\ks.length=ls.length/\TDo P w F l o (ks.zip<|ls.map V.ref))/\InD K F H ls dss/\(l::ls).Nodup:=by
 obtain⟨o,h1,v,h2,h3,h4⟩:=S.slots.get hs;obtain⟨e,q1,q2⟩:=h4 F H (Same.refl _) λ_ _ _ q=>q
 subst e h2;exact⟨h1,λa ha=>(h3 a ha).1,q1,q2,xB S.nd hs⟩
theorem wQ{o:BM}(hF:∀a∈l::ls,F a=none)(h1:H l=some (exO l o))(nc:∀v,o.data≠ .cell v)(hl:ks.length=ls.length)(t:TDo P w F l o (ks.zip<|ls.map V.ref))(h2:InD K F H ls dss):eW K F H (odG P w K l ks ls dss) (some<|.ref l):=by
 refine⟨.ref l,rfl,λa ha=>⟨hF a ha, ?_⟩,λF' H' s k=>⟨rfl,⟨o,k _ aH _ h1,nc,hl,t.mono s⟩,h2.mono2 s λa ha=>k a<|aE _ ha⟩⟩
 rcases aU.mp ha with rfl|ha
 ·exact⟨_,h1,o,rfl,nc⟩
 ·obtain⟨xs,e⟩:=h2.of a ha;exact⟨.lst xs,e,trivial⟩
theorem StF.wrG{t:Nat}{a:BJ}{es:List D}{ys:List V}(S:StF K H₀ F H σ sd)(hs:sd[i]? =some (odG P w K l ks ls dss))(ht:ls[t]? =some a)(r:RepL K F es ys):StF K H₀ F (upd H a<|.lst ys) σ (sd.set i (odG P w K l ks ls<|dss.set t es)):=by
 obtain⟨g1,g2,⟨o,g3,nc,hl,td⟩,g4,g5⟩:=iG S hs;obtain⟨n1,n2⟩:=bX.mp g5;have ma:=bH ht
 refine S.reX (z':=odG P w K l ks ls (dss.set t es)) hs g1 (fun b ob hb q=> ?_) (aMZ S.smp a) (wQ g2 (by
  rw[bD (show l≠a from λz=>n1<|z▸ma)]
  exact g3) nc hl td (g4.set n2 ht r)) g5 λb hb=>.inl hb
 rw[bD (show b≠a from λz=>hb<|z▸aE _ ma)];exact q
theorem InD.snoc{a:BJ}:∀ {as:List BJ}{dss:List (List D)},InD K F H as dss->H a=some (.lst [])->InD K F H (as++[a]) (dss++[[]])
 |[],[],_,e=>⟨⟨[],e,.nil⟩,trivial⟩
 |[],_::_,h,_=>h.elim
 |_::_,[],h,_=>h.elim
 |_::_,_::_,h,e=>⟨h.1,InD.snoc h.2 e⟩
theorem StF.newG{a:BJ}{o:BM}(S:StF K H₀ F H σ sd)(hs:sd[i]? =some (odG P w K l ks ls dss))(fa:F a=none)(ha:H a=some (.lst []))(na:a∉cC sd)(nc:∀v,o.data≠ .cell v)(td:TDo P w F l o (ks.zip (ls.map V.ref)++[(k,.ref a)])):
  StF K H₀ F (upd H l<|exO l o) σ (sd.set i (odG P w K l (ks++[k]) (ls++[a])<|dss++[[]])):=by
 obtain⟨g1,g2,⟨o',g3,nc',hl,_⟩,g4,g5⟩:=iG S hs;obtain⟨n1,n2⟩:=bX.mp g5;have ml:∀b∈l::ls,b∈cC sd:=λb hb=>dN.mpr ⟨_,bH hs,hb⟩
 have al:a≠l:=λz=>na<|z▸ml l aH
 have als:a∉ls:=λz=>na (ml a<|aE _ z)
 have sp:∀b,b∈l::(ls++[a])->b∈l::ls\/b=a:=λb hb=>by
  rcases aU.mp hb with h|h
  ·exact .inl<|h▸aH
  ·rcases bC.mp h with h|h
   ·exact .inl<|aE _ h
   ·exact .inr<|aF.mp h
 refine S.reX (z':=odG P w K l (ks++[k]) (ls++[a])<|dss++[[]]) hs g1 (λb ob hb q=> ?_) (mY S.smp l) (wQ (λb hb=> ?_) bL nc (by rw[aP,aP,hl];rfl) ?_ ?_) ?_ λb hb=> ?_
 ·rw[bD (show b≠l from λz=>hb<|z▸aH)];exact q
 ·rcases sp b hb with h|rfl
  ·exact g2 b h
  ·exact fa
 ·rw[aZ,aV,eA,tV<|by rw[aB];exact hl];exact td
 ·refine InD.snoc (g4.mono2 (Same.refl _) λb hb ob q=> ?_) ?_
  ·rw[bD (show b≠l from λz=>n1<|z▸hb)];exact q
  ·rw[bD al];exact ha
 ·show(l::(ls++[a])).Nodup;refine bX.mpr ⟨λh=> ?_,bJ.mpr ⟨n2,by simp,λb hb c hc e=>als<|aF.mp hc▸e▸hb⟩⟩
  rcases bC.mp h with h|h
  ·exact n1 h
  ·exact al (aF.mp h).symm
 ·rcases sp b hb with h|rfl
  ·exact .inl h
  ·exact .inr na
theorem aAh(i:Nat){x:Str}{p p2:Pos}(hN:X.N.Nodup)(hi:X.N[i]? =some x)(hx:Loc X.env.scope x)(hE:∀l,E.nx (sd.set i<|odG X.prog X.w X.K l [] [] []))(hs:AX (.Dict [] [] p2) (some<|.Name x p) pos.line X.env=pure false:=by rfl)
  (hf:X.fn x=true\/X.env.scope.names.lookup x=some .local:=by first|exact .inl rfl|exact .inr rfl|assumption):PSd1 X sd (.Assign [.Name x p] (.Dict [] [] p2) pos) E:=.mk λσ F H S=>
 (rB hN hi hx aBZ hs hf).to λq hq hm=>by
  have fp:F q=none:=S.sub.free hq
  have no:q∉cC sd:=λhl=>by obtain⟨_,ob,h,_⟩:=S.slots.owns hl;rw[hq] at h;cases h
  have S1:StF X.K X.B₀ F (upd H q<|exO q aHu) σ sd:=by
   refine⟨S.base,λb u e=> ?_,mY S.smp q,S.slots.mono (Same.refl _) λl hl=> ?_,S.nd⟩
   ·rw[bD<|cE e fp];exact S.sub _ _ e
   ·obtain⟨n,ys,y,_⟩:=S.slots.owns hl;have hne:l≠q:=cE y hq;exact⟨n,λys e=>by rw[bD hne];exact e⟩
  refine⟨_,F,S1.setT i (wQ (P:=X.prog) (w:=X.w) (K:=X.K) (ks:=[]) (ls:=[]) (dss:=[]) (λa ha=>by rw[aF.mp ha];exact fp) bL (λv z=>by cases z) rfl ⟨cD _,hm,[],.nil, #[],0,⟨rfl,rfl,rfl⟩,rfl,rfl,dA⟩ trivial) (by simp) λa ha=> ?_,Same.refl _,hE q⟩;rw[aF.mp ha];exact no
theorem aAd(i:Nat){x:Str}{p ap1 cp1 p5 ap cp:Pos}(hu:X.A.units+1<AM)(hs:sd[i]? =some (odG X.prog X.w X.K l ks ls dss))(hx:PE X (.Name x p) (iQ i))(hb:PEd X sd b (.val (.tup<|k.map kD)))(h:∀z,PEd X (sd.set i z) e<|.val d)(hl:dss.length<=1000)(hl2:∀ds∈dss,ds.length<=1000)
  (hE1:∀n ds,ks[n]? =some k->dss[n]? =some ds->E.nx (sd.set i<|odG X.prog X.w X.K l ks ls (dss.set n<|ds++[d])))
  (hE2:k∉ks->∀a,E.nx<|sd.set i (odG X.prog X.w X.K l (ks++[k]) (ls++[a])<|dss++[[d]]))
  (hm:PE X (.Call (.Attribute (.Call (.Attribute (.Name x p) "setdefault" ap1) [b, .List [] p5] [] cp1) "append" ap) [e] [] cp)
   (tBM X.K "list" sA (λσ H Q=>iQ i σ H λx H1=>(∃l ob,x=.ref l/\H1 l=some (exO l ob)/\ob.ExactDict)/\(nF (wE X b) (nF (wE X (.List [] p5)) yH)) σ H1 λxs H2=>rSD X x xs H2 Q) (nF (wE X e) yH)):=by exact aDQ gW mV mW uH (aOh aAE vH PySem.F.type_dict_setdefault aRP (pv _) (dP eV (dP eV pa_nil))) (dP eV pa_nil))
  (hsw:AX (.Call (.Attribute (.Call (.Attribute (.Name x p) "setdefault" ap1) [b, .List [] p5] [] cp1) "append" ap) [e] [] cp) none pos.line X.env=pure false:=by rfl):
  PSd1 X sd (.Expr (.Call (.Attribute (.Call (.Attribute (.Name x p) "setdefault" ap1) [b, .List [] p5] [] cp1) "append" ap) [e] [] cp) pos) E:=.mk λσ F H S=>
 (sQ hm hsw).to (by
  obtain⟨h1,h2,⟨o,h3,nc,hk,td⟩,h4,h5⟩:=iG S hs;have il:i<sd.length:=(aI.mp hs).1
  have fin:∀ (F2 H2:Hp) (ks2:List (List Key)) (ls2:List BJ) (dss2:List (List D)) (n:Nat) (ad:BJ) (ds:List D),StF X.K X.B₀ F2 H2 σ (sd.set i<|odG X.prog X.w X.K l ks2 ls2 dss2)->Same F F2->ls2[n]? =some ad->dss2[n]? =some ds->ds.length<=1000->E.nx (sd.set i<|odG X.prog X.w X.K l ks2 ls2 (dss2.set n<|ds++[d]))->
    tyV X.K "list" (.ref ad) H2/\(nF (wE X e) yH) σ H2 λxs H3=>sA (.ref ad) xs H3 λ_ H4=>(lft X F E).nx σ H4:=λF2 H2 ks2 ls2 dss2 n ad ds S2 s2 hn hd hdl hE=>by
   have hs2:(sd.set i<|odG X.prog X.w X.K l ks2 ls2 dss2)[i]? =some (odG X.prog X.w X.K l ks2 ls2 dss2):=kF il;obtain⟨g1,g2,_,g4,g5⟩:=iG S2 hs2;obtain⟨ds',xs,e1,e2,e3⟩:=g4.get hn;refine⟨.inl ⟨rfl,xs,.of e2⟩,(h _ σ F2 H2 S2).imp λv H3 ⟨F3,S3,s3,q3⟩=> ?_⟩;obtain⟨f1,f2,_,f4,f5⟩:=iG S3 hs2;obtain⟨ds3,xs3,u1,u2,u3⟩:=f4.get hn;rw[hd] at u1;cases u1;have W:=S3.wrG (es:=ds++[d]) (ys:=xs3++[v]) hs2 hn (u3.app<|.one q3);rw[jY] at W;exact⟨ad,xs3,v,rfl,rfl,u2,by rw[u3.len] ;exact eG hdl,_,F3,W,s2.trans s3,hE⟩
  refine⟨.ref l,h1,⟨l,o,rfl,h3,td.2.2.choose_spec.2.choose_spec.choose_spec.1⟩,(hb σ F H S).imp λv1 H1 ⟨F1,S1,s1,q1⟩=>((pA (ds:=[]) aM (cD _):PEd X sd (.List [] p5) (.own [])) σ F1 H1 S1).imp λv2 H2 ⟨F2,S2,s2,q2⟩=> ?_⟩;obtain⟨g1,g2,⟨o2,g3,nc2,hk2,td2⟩,g4,g5⟩:=iG S2 hs;simp only[ResOk,Rep] at q1;obtain⟨ad,ys,rfl,ha,rl⟩:=q1;rw[pB rl] at ha;obtain⟨a,xs,rfl,fa,ha2,rl2,na⟩:=q2;have xn:xs=[]:=dS (by rw[rl2.len];rfl);subst xn;have zl:(ks.zip<|ls.map V.ref).length=dss.length:=by rw[jT,aB,<-hk2,pH,hk2,g4.len]
  refine⟨F2,l,ad,k,.ref a,o2,ks.zip<|ls.map V.ref,rfl,rfl,S2.sub,g3,s2 _ _ ha,hu,td2,by rw[zl];have:=eG hl;omega,λz hz=> ?_,λhz o' nc' td'=> ?_⟩
  ·obtain⟨n,e1,e2⟩:=zS hz;rw[aY] at e2;obtain⟨an,e3,rfl⟩:=eE.mp e2;obtain⟨ds,xs,d1,d2,d3⟩:=g4.get e3;have S2':StF X.K X.B₀ F2 H2 σ (sd.set i<|odG X.prog X.w X.K l ks ls dss):=by rw[aGU hs];exact S2
   exact fin F2 H2 ks ls dss n an ds S2' (s1.trans s2) e3 d1 (hl2 ds<|bH d1)<|hE1 n ds e1 d1
  ·have S3:=S2.newG hs fa ha2 na nc' td';have hE:=hE2 (aFG (by rw[aB];exact hk2) hz) a;have en:(dss++[[]]).set dss.length ([]++[d])=dss++[[d]]:=by simp
   exact fin F2 _ (ks++[k]) (ls++[a]) (dss++[[]]) dss.length a [] S3 (s1.trans s2) (by rw[<-g4.len];simp) (by simp) (cD _) (by rw[en];exact hE))
theorem aHL(i:Nat){x:Str}{p:Pos}{as:List BJ}{G:V->Hp->Hp->Prop}{G':V->List BJ->Hp->Hp->Prop}(hs:sd[i]? =some (.ox as G))(hx:PE X (.Name x p) (iQ i))(hG:∀v F H,G v F H->G' v as F H)(hE:E.rt (.ox G')):PSd1 X sd (.Return (some<|.Name x p) pos) E:=.mk λσ F H S=>
 (tY hx).to (by
  obtain⟨o,h1,v,h2,h3,h4⟩:=S.slots.get hs
  exact⟨v,by rw[h1,h2],.ox G',⟨F,S.base,S.sub,S.smp,as,wK S.nd hs,λl hl=>⟨(h3 l hl).1,(h3 l hl).2,by simp[cC]⟩,λF' H' s k=>hG _ _ _ (h4 F' H' s k)⟩,hE⟩)
theorem aGO(i:Nat){x:Str}{p:Pos}(hN:X.N.Nodup)(hi:X.N[i]? =some x)(hx:Loc X.env.scope x)(h:PEd X sd e (goR X.prog X.w X.K ks dss))(hE:E.nx (sd.set i (odF X.prog X.w X.K ks<|dss.map D.lst)))(hs:AX e (some<|.Name x p) pos.line X.env=pure false:=by rfl)
  (hf:X.fn x=true\/X.env.scope.names.lookup x=some .local:=by first|exact .inl rfl|exact .inr rfl|assumption):PSd1 X sd (.Assign [.Name x p] e pos) E:=.mk λσ F H S=>
 (rB hN hi hx eV hs hf).to ((h σ F H S).imp fun v H' ⟨F',S',s',as,nd,q,g⟩=>by
  obtain⟨l,ls,rfl,rfl,⟨o,g1,nc,hk,td⟩,g2⟩:=g F' H' (Same.refl _) λ_ _ _ z=>z
  obtain⟨S2,s2⟩:=S'.inN (λa ha=>(q a ha).1) λa ha=>(q a ha).2.2
  have r2:RepL X.K (inF F' H' (l::ls)) (dss.map D.lst) (ls.map V.ref):=aFx (g2.mono2 s2 fun a ha ob e=>by
   rw[aEt<|aE _ ha]
   exact e)
  have f1:(inF F' H' (l::ls)) l=some (exO l o):=by rw[aEt aH];exact g1
  refine⟨_,_,S2.setX (as:=[]) i (v:=.ref l) ⟨.ref l,rfl,λa ha=>(nomatch ha),λF2 H2 s3 _=>⟨l,o,ls.map V.ref,rfl,s3 _ _ f1,r2.mono s3,by rw[aB,hk,g2.len],(td.mono s2).mono s3⟩⟩ dA λa ha=>(nomatch ha),s'.trans s2,hE⟩)
theorem aIO(i:Nat){x:Str}{p:Pos}(hu:X.A.units+1<AM)(hs:sd[i]? =some (odF X.prog X.w X.K ks ds))(hx:PE X (.Name x p) (iQ i))(hb:PEd X sd b (.val (.tup<|k.map kD)))(hn:ks.Nodup)(hk:ks[n]? =some k)(hd:ds[n]? =some d)(hsl:aPZ b):PEd X sd (.Subscript (.Name x p) b pos) (.val d):=.mk λσ F H S pins s I=>by
 obtain⟨ov,h1,v0,h2,_,h4⟩:=S.slots.get hs;obtain⟨l,o0,xs0,rfl,_⟩:=h4 F H (Same.refl _) λ_ _ _ q=>q
 subst h2;refine aEA yY.lookup hsl<|thn (hx pins s σ H (λv H1=>v=.ref l/\H1=H) I ⟨.ref l,h1,rfl,rfl⟩) λu s1 ⟨y,H1,I1,ry,e1,e2⟩=> ?_;subst e1 e2;obtain rfl:u=Value.ref l:=ry;refine thn (hb σ F H1 S pins s1 I1) λiv s2 ⟨y,H2,I2,ry,F2,S2,sF,q2⟩=> ?_
 obtain⟨ov,j1,v1,j2,_,j4⟩:=S2.slots.get hs;obtain⟨l',o,xs,el,g3,g4,g5,z,hm,ts,kt,es,ep,t1,t2,t3,t4⟩:=j4 F2 H2 (Same.refl _) λ_ _ _ q=>q
 subst j2 el;rw[h1] at j1;cases j1;simp only[ResOk,Rep] at q2;obtain⟨ad,ys,rfl,ha,rl⟩:=q2;rw[pB rl] at ha;obtain rfl:iv=Value.ref ad:=ry;have ho:s2.heap.get? l=some o:=(I2.hok l _<|S2.sub _ _ g3).1;have ktH:KT H2 (ks.zip xs) ts:=kt.keeps λb ys e=>S2.sub _ _ e
 have dd:s2.heap.DictOfH (Ai<|eP X.prog X.w) l ts:=⟨o,es,ep,ho,t1,t2,t3,KT.all I2.hok ktH,t4⟩;obtain⟨v,hv,rv⟩:=g4.get hd;obtain⟨w',hw,rw'⟩:=RelO.some_of (v:=v) (o:=(atKey ts k).map (·.2)) (by rw[<-aFl hn hk hv];exact ktH.val k);obtain⟨pr,hp,hp2⟩:=eE.mp hw;refine⟨dd.typeIs,wpAny_getItem_heap (Ac hu) (mS I2.hok<|S2.sub _ _ ha) dd hp ?_⟩;rw[hp2];exact⟨v,H2,I2.tok _,rw',F2,S2,sF,rv⟩
noncomputable def xP(p:Int×Int)(ws:List Int):Nat:=(vC (2^p.1.toNat) ws).toNat
theorem aEl(hp:p∈bU){ws:List Int}(G:Fil p ws):vC (2^p.1.toNat) ws=(xP p ws:Int)/\xP p ws<(bT p).length/\(bT p).getD (xP p ws) []=ws:=by have h:=aKd<|aNT p hp;obtain⟨a,b,c⟩:=aPD h G.len G.wd;refine⟨by unfold xP;omega, ?_,c⟩;show _<(gH _ _).length;rw[h.len];exact b
theorem aKE(hp:p∈bU)(hi:i<(bT p).length):xP p ((bT p).getD i [])=i:=by
 have h:=aKd<|aNT p hp;have hi':i<2^(p.1.toNat*p.2.toNat):=by rw[<-h.len];exact hi
 have:=(h.at_ i hi').2.2.1;unfold xP;show(vC (2^p.1.toNat)<|(gH (2^p.1.toNat) p.2.toNat).getD i []).toNat=i;rw[this];exact cF i
theorem aKL(hp:p∈bU)(S:StkOk p L){row:List Nat}(h:∀t∈row,t<L.length):aCQ p (tabQ p L row):=⟨aJi p L row,aIc hp S h⟩
variable {T U:List (List Int)}
theorem aOM{t:Nat}(h:t<L.length):((tkQ τ L).getD t AG).1=tsQ τ (L.getD t AG).1:=by unfold tkQ;simp[bF,h]
theorem aDY{L:List SK}(S:StkOk p L)(R:TurnOk p.2.toNat τ):∀ (row:List Nat) (ws:List Int),(∀t∈row,t<L.length)->Fil p ws->cY p (tkQ τ L) row (tfQ τ ws)=tfQ τ (cY p L row ws)
 |[],_,_,_=>rfl
 |t::row,ws,hr,G=>by have ht:=hr t aH;have O:=(S.st _<|getD_mem (d:=AG) ht).1;show cY p (tkQ τ L) row (onQ p ((tkQ τ L).getD t AG).1<|tfQ τ ws)=tfQ τ (cY p L row<|onQ p (L.getD t AG).1 ws);rw[aOM ht,aRR R O G];exact aDY S R row _ (λu hu=>hr u<|aE _ hu) (by simpa[cY] using gB S [t] ws (λu hu=>by rw[aF.mp hu];exact ht) G)
theorem aRp(S:StkOk p L)(R:TurnOk p.2.toNat τ):StkOk p (tkQ τ L):=by refine⟨by unfold tkQ;rw[aB];exact S.pos,by unfold tkQ;rw[aB];exact S.le,λs hs=> ?_⟩;obtain⟨q,hq,rfl⟩:=aJ.mp hs;obtain⟨a,b⟩:=S.st q hq;exact⟨aQT R a,b⟩
theorem aOF{k:Nat}{m a c n:Int}(hk:k<10)(h:0<=newW k m a c n/\newW k m a c n<m):lwW k m a c n%m=newW k m a c n:=by
 have key:lwW k m a c n=newW k m a c n\/lwW k m a c n%m=newW k m a c n:=by
  match k,hk with
  |0,_=>left;simp[lwW,newW,rW]
  |1,_=>left;simp[lwW,newW,rW]
  |2,_=>left;simp[lwW,newW,rW]
  |3,_=>right;simp[lwW,newW,rW]
  |4,_=>right;simp[lwW,newW,rW]
  |5,_=>left;simp[lwW,newW,rW]
  |6,_=>left;simp[lwW,newW]
  |7,_=>left;simp[lwW,newW,aDP]
  |8,_=>right;simp[lwW,newW,aDP,Int.mul_comm]
  |9,_=>left;simp[lwW,newW,aDP]
 rcases key with e|e
 ·rw[e];exact Int.emod_eq_of_lt h.1 h.2
 ·exact e
theorem aOb{q:SQ}{ws:List Int}(O:SqOk p q)(G:Fil p ws):mdQ p q ws=onQ p q ws:=by unfold mdQ onQ lwQ;have h:=aEE O G;unfold nwQ at h ⊢;rw[aOF O.k10 h]
theorem qT{p:Int×Int}{L:List SK}(S:StkOk p L):∀ (row:List Nat) (ws:List Int),(∀t∈row,t<L.length)->Fil p ws->dnQ p L row ws=cY p L row ws
 |[],_,_,_=>rfl
 |t::row,ws,hr,G=>by have ht:=hr t aH;have O:=(S.st _<|getD_mem (d:=AG) ht).1;show dnQ p L row (mdQ p (L.getD t AG).1 ws)=cY p L row (onQ p (L.getD t AG).1 ws);rw[aOb O G];exact qT S row _ (λu hu=>hr u<|aE _ hu) (by simpa[cY] using gB S [t] ws (λu hu=>by rw[aF.mp hu];exact ht) G)
def aQz(A:BK)(s:BI)(x y:BH)(b:Bool):Prop:=∀ (prog:AD) (w:AI) (E:BH->BI->Prop) (Q:BH->BI->Prop),Q (.bool b) s->AE (AF prog w) A (richCompare .Lt x y) Q E s
inductive aHs(A:BK)(s:BI)(fin:Bool):List (BH×BH)->Bool->Prop
 |nil:aHs A s fin [] fin
 |eq {x y:BH}{r:List (BH×BH)}{b:Bool}:SeqAt.EqAt A.in1 s x y true->aHs A s fin r b->aHs A s fin ((x,y)::r) b
 |lt {x y:BH}{r:List (BH×BH)}{b:Bool}:SeqAt.EqAt A.in1 s x y false->aQz A.in1 s x y b->aHs A s fin ((x,y)::r) b
section
open PySem.SeqAt
open PySem.AutoSeq1 (wpAny_loadPart')
open PySem.MeetsSeq PySem.MeetsSeq2 PySem.MeetsSeq3
theorem aAy(l b:BJ)(items items2:Array BH)(n n2:Nat)(dd dd2:Option BJ)(sl sl2:Array (Option BH))(res:Bool):
  Meets (Builtin.«tuple.__lt__» ⟨[.ref l,.ref b],[]⟩)
   (fun A R s=>s.heap.get? l=some {cls:= .type "tuple",dict:=dd,data:= .seq items n,slots:=sl}∧s.heap.get? b=some {cls:= .type "tuple",dict:=dd2,data:= .seq items2 n2,slots:=sl2}∧
    aHs A s (decide (items.size<items2.size)) (items.toList.zip items2.toList) res/\R (.ok (.ret (.bool res))) s):=
 .of_wp λprog w A R s h=>by
  obtain⟨hp,g,d,tk,os⟩:=s;obtain⟨hl,hb,hx,h⟩:=h;have f2:=AutoSeq1.sub_tuple_tuple
  wp_walk using wpAny_loadPart' hl,wpAny_loadPart' hb,wpAny_forIn_list _ (λrest b s'=>b.1=none/\s'=⟨hp,g,d,tk,os⟩/\aHs A ⟨hp,g,d,tk,os⟩ (decide<|items.size<items2.size) rest res) _
  case turn=>
   rintro⟨y,x⟩ rest b s' ⟨hb',rfl,hv⟩;cases hv with
   |eq he hr=>
    refine AA<|he prog w _ _ ?_
    wp_walk
    exact⟨rfl,rfl,hr⟩
   |lt he hlt=>
    refine AA<|he prog w _ _ ?_;have hri:=hlt prog w
    wp_walk using hri
    exact⟨_,rfl,by simpa using h⟩
  case fin=>
   rintro⟨b1,b2⟩ s' ⟨hb',rfl,hv⟩;simp only at hb';subst hb';cases hv
   wp_walk
   exact⟨_,rfl,by simpa[Builtin.Tuple.tupleCompareSizes] using h⟩
  case h=>exact⟨rfl,rfl,hx⟩
theorem aDj{A:BK}{s:BI}{l b:BJ}{items items2:Array BH}{res:Bool}(hl:IsTup s.heap l items)(hb:IsTup s.heap b items2)(hx:aHs A s (decide<|items.size<items2.size) (items.toList.zip items2.toList) res)
  (hu:A.units<AM):aQz A s (.ref l) (.ref b) res:=λprog w E Q h=>by
 obtain⟨⟨cls,dd,data,sl⟩,ho,hc,n,hd⟩:=id hl;obtain⟨⟨cls2,dd2,data2,sl2⟩,ho2,hc2,n2,hd2⟩:=id hb;simp only at hc hd hc2 hd2;subst hc hd hc2 hd2
 exact richCompare_meets_room (op:= .Lt) ⟨_,ho,rfl⟩ ⟨_,ho2,rfl⟩ PySem.F.slot_tuple_lt PySem.F.entry_tuple_lt (PySem.F.args_tuple_lt_2 _ _) (aAy l b items items2 n n2 dd dd2 sl sl2 res)
  ⟨ho,ho2,hx,show Value.bool res≠Value.notImplemented/\Q (.bool res) s from⟨(λx=>nomatch x),h⟩⟩ hu
end
mutual
noncomputable def dlt:D->D->Bool
 |.int a,.int b=>decide<|a<b
 |.tup a,.tup b=>qD a b
 |_,_=>false
noncomputable def qD:List D->List D->Bool
 |[],[]=>false
 |[],_::_=>true
 |_::_,[]=>false
 |d::ds,e::es=>if deq d e=true then qD ds es else dlt d e
end
mutual
noncomputable def sV:D->D->Bool
 |.int _,.int _=>true
 |.tup a,.tup b=>zJ a b
 |_,_=>false
noncomputable def zJ:List D->List D->Bool
 |[],_=>true
 |_::_,[]=>true
 |d::ds,e::es=>sV d e&&zJ ds es
end
mutual
theorem aKW(hok:HOk P w H s.heap):∀ (d:D) {d2:D}{v1 v2:V}{u1 u2:BH}{A:BK},sV d d2=true->pl d=true->pl d2=true->Rep K H d v1->Rep K H d2 v2->RelV v1 u1->RelV v2 u2->A.units+dep d<AM->aQz A s u1 u2 (dlt d d2)
 |.int a,d2,v1,v2,u1,u2,A,c,p1,p2,r1,r2,ru1,ru2,hu=>by
  cases d2 with
  |int b=>simp only[Rep] at r1 r2;subst r1 r2;obtain⟨t,rfl⟩:=ru1;obtain⟨t2,rfl⟩:=ru2;simp only[dlt];exact λprog w E Q h=>(PyProof.Rows.lt_int h:AE (AF prog w) A (AO .Lt (.int a t)<|.int b t2) Q E s)
  |_=>simp[sV] at c
 |.tup ds,d2,v1,v2,u1,u2,A,c,p1,p2,r1,r2,ru1,ru2,hu=>by
  cases d2 with
  |tup es=>
   obtain⟨a,xs,its,rfl,rfl,rl,rv,ht⟩:=iC hok r1 ru1;obtain⟨b,ys,jts,rfl,rfl,rl2,rv2,ht2⟩:=iC hok r2 ru2;simp only[dlt];have l1:its.length=ds.length:=by rw[<-rv.length,rl.len]
   have l2:jts.length=es.length:=by rw[<-rv2.length,rl2.len]
   simp only[pl] at p1 p2;simp only[dep] at hu;simp only[sV] at c;refine aDj ht ht2 ?_ (by omega);exact aDU hok ds c p1 p2 rl rl2 rv rv2 (by omega) (by simp[l1,l2])
  |_=>simp[sV] at c
 |.non,d2,_,_,_,_,_,c,_,_,_,_,_,_,_=>by cases d2<;>simp[sV] at c
 |.bl _,d2,_,_,_,_,_,c,_,_,_,_,_,_,_=>by cases d2<;>simp[sV] at c
 |.str _,d2,_,_,_,_,_,c,_,_,_,_,_,_,_=>by cases d2<;>simp[sV] at c
 |.lst _,d2,_,_,_,_,_,c,_,_,_,_,_,_,_=>by cases d2<;>simp[sV] at c
 |.dic,d2,_,_,_,_,_,c,_,_,_,_,_,_,_=>by cases d2<;>simp[sV] at c
 |.dki _ _,d2,_,_,_,_,_,c,_,_,_,_,_,_,_=>by cases d2<;>simp[sV] at c
 |.any _,d2,_,_,_,_,_,c,_,_,_,_,_,_,_=>by cases d2<;>simp[sV] at c
 |.scr _,d2,_,_,_,_,_,c,_,_,_,_,_,_,_=>by cases d2<;>simp[sV] at c
theorem aDU(hok:HOk P w H s.heap):∀ (ds:List D) {es:List D}{xs ys:List V}{its jts:List BH}{A:BK}{fin:Bool},zJ ds es=true->plL ds=true->plL es=true->RepL K H ds xs->RepL K H es ys->Vals xs its->Vals ys jts->A.units+1+jZ ds<AM->fin=decide (ds.length<es.length)->aHs A s fin (its.zip jts) (qD ds es)
 |[],es,xs,ys,its,jts,A,fin,c,p1,p2,r1,r2,v1,v2,hu,hf=>by
  simp only[RepL] at r1;subst r1;cases v1;subst hf;rw[List.zip_nil_left];cases es with
  |nil=>exact .nil
  |cons e es=>
   have:qD [] (e::es)=decide (([]:List D).length<(e::es).length):=by simp[qD]
   rw[this];exact .nil
 |d::ds,[],xs,ys,its,jts,A,fin,c,p1,p2,r1,r2,v1,v2,hu,hf=>by
  simp only[RepL] at r2;subst r2;cases v2;subst hf;rw[List.zip_nil_right];have:qD (d::ds) []=decide ((d::ds).length<([]:List D).length):=by simp[qD]
  rw[this];exact .nil
 |d::ds,e::es,xs,ys,its,jts,A,fin,c,p1,p2,r1,r2,v1,v2,hu,hf=>by
  obtain⟨x,xs,rfl,a1,r1⟩:=r1.uncons;obtain⟨y,ys,rfl,a2,r2⟩:=r2.uncons;simp only[plL,bR] at p1 p2;simp only[zJ,bR] at c;simp only[jZ] at hu;cases v1 with
  |cons q1 v1=>
   cases v2 with
   |cons q2 v2=>
    rw[dH];have he:=aBW (A:=A.in1) hok d p1.1 p2.1 a1 a2 q1 q2 (by show A.units+1+dep d<AM;omega);simp only[qD]
    by_cases z:deq d e=true
    ·rw[if_pos z];rw[z] at he;exact .eq he (aDU hok ds c.2 p1.2 p2.2 r1 r2 v1 v2 (by omega)<|by rw[hf];simp)
    ·rw[if_neg z];rw[aKY.mpr z] at he;exact .lt he (aKW (A:=A.in1) hok d c.1 p1.1 p2.1 a1 a2 q1 q2<|by show A.units+1+dep d<AM;omega)
end
section
variable {prog:AD}{w:AI}{A:BK}{E:BH->BI->Prop}{s:BI}
open HT
end
theorem aMk(d:D)(ds:List D)(p1:pl d=true)(p2:plL ds=true)(hu:X.A.units+1+jZ ds<AM):OpR X (AO .In) (λx y H Q=>Rep X.K H (.tup ds) y/\Rep X.K H d x/\Q (.bl<|ds.any λz=>deq z d) H):=by intro pins s σ H x y v u Q I rx ry h;obtain⟨hl,hd,k⟩:=h;obtain⟨a,xs,its,rfl,rfl,rl,rv,ht⟩:=iC I.hok hl ry;obtain⟨an,h1,h2⟩:=aKB I rx hd rl rv p1 p2 hu;exact SeqAt.in_tupleAt an ht h1 ⟨.bl _,H,I,rfl,by rw[h2];exact k⟩
theorem aJv(ha:PEd X sd a (.val d))(hb:PEd X sd b (.val<|.tup ds))(p1:pl d=true)(p2:plL ds=true)(hu:X.A.units+1+jZ ds<AM)(hk:AR .In b=false:=by with_unfolding_all rfl):PTd X sd (.Compare a [.In] [b] pos) (ds.any λz=>deq z d):=
 jW (aMk d ds p1 p2 hu) ha hb trivial hk λσ F H x u Q S q1 q2 k=>⟨Rep.mono S.sub q2,Rep.mono S.sub q1,k F H S<|Same.refl _⟩
noncomputable def kY(ws:List Int):List Key:=ws.map Sum.inl
theorem aSj(ws:List Int):D.tup ((kY ws).map kD)=bN ws:=by unfold kY bN;rw[aN];rfl
theorem aJN{a b:List Int}(h:kY a=kY b):a=b:=by have:=congrArg (List.map λk:Key=>match k with | .inl i=>i | .inr _=>(0:Int)) h;unfold kY at this;rw[aN,aN] at this;have e:((λk:Key=>match k with | .inl i=>i | .inr _=>(0:Int)) ∘ Sum.inl)=id:=rfl;rw[e,lD,lD] at this;exact this
noncomputable def pD(ks:List (List Int))(w:List Int):List (List Int):=if w∈ks then ks else ks++[w]
noncomputable def jM(W:List (List Int)):List (List Int):=W.foldl pD []
theorem aGP(W:List (List Int))(w:List Int):jM (W++[w])=pD (jM W) w:=by unfold jM;rw[eB];rfl
theorem aLY{ks:List (List Int)}(nd:ks.Nodup)(w:List Int):(pD ks w).Nodup/\∀k,k∈pD ks w↔k∈ks\/k=w:=by
 unfold pD
 split
 ·rename_i h;exact⟨nd,λk=>⟨.inl,λq=>q.elim id λe=>e▸h⟩⟩
 ·rename_i h;refine⟨bJ.mpr ⟨nd,by simp,λa ha b hb e=>h<|aF.mp hb▸e▸ha⟩,λk=> ?_⟩;rw[bC,aF]
theorem yN:∀ (W ks:List (List Int)),ks.Nodup->(W.foldl pD ks).Nodup/\∀k,k∈W.foldl pD ks↔k∈ks\/k∈W
 |[],ks,nd=>⟨nd,λk=>by simp⟩
 |w::W,ks,nd=>by obtain⟨n1,m1⟩:=aLY nd w;obtain⟨n2,m2⟩:=yN W (pD ks w) n1;refine⟨n2,λk=> ?_⟩;show k∈W.foldl pD (pD ks w)↔_;rw[m2 k,m1 k,aU,or_assoc]
theorem xV(W:List (List Int)):(jM W).Nodup:=(yN W [] dA).1
theorem aCK{W:List (List Int)}{k:List Int}:k∈jM W↔k∈W:=by have:=(yN W [] dA).2 k;unfold jM;rw[this];simp
theorem aIq(W:List (List Int)):(jM W).length<=W.length:=by
 have:∀ (W ks:List (List Int)),(W.foldl pD ks).length<=ks.length+W.length:=λW=>by
  induction W with
  |nil=>intro ks;exact aR _
  |cons w W ih=>
   intro ks;refine bZ (ih<|pD ks w) ?_
   have:(pD ks w).length<=ks.length+1:=by
    unfold pD
    split
    ·omega
    ·rw[aP];exact aR _
   rw[bP];omega
 have h:=this W [];rw[fJ,aSJ] at h;exact h
noncomputable def tP(h:List Int->List Int)(A:List (List Int))(k:List Int):List (List Int):=A.filter λg=>decide<|h g=k
noncomputable def oA(h:List Int->List Int)(A:List (List Int))(ks:List (List Int)):List (List D):=ks.map λk=>(tP h A k).map bN
theorem rN(h:List Int->List Int)(A:List (List Int))(f k:List Int):tP h (A++[f]) k=tP h A k++if h f=k then[f] else[]:=by
 unfold tP;rw[tI]
 by_cases e:h f=k
 ·simp[e]
 ·simp[e]
theorem aIQ{h:List Int->List Int}{A:List (List Int)}{k:List Int}(hn:∀g∈A,h g≠k):tP h A k=[]:=by unfold tP;rw[List.filter_eq_nil_iff];exact λg hg=>by simp[hn g hg]
theorem aMH{h:List Int->List Int}{A ks:List (List Int)}{f:List Int}(nd:ks.Nodup)(hk:ks[n]? =some (h f))(hd:(oA h A ks)[n]? =some ds):(oA h A ks).set n (ds++[bN f])=oA h (A++[f]) ks:=by
 have hd':ds=(tP h A<|h f).map bN:=by unfold oA at hd;rw[aY,hk] at hd;exact(bY.inj hd).symm
 subst hd';refine kH λm=> ?_
 have hn:n<ks.length:=(aI.mp hk).1;have ek:ks[n]=h f:=(aI.mp hk).2
 by_cases e:m=n
 ·subst e;rw[kF<|by unfold oA;rw[aB];exact hn];unfold oA;rw[aY,hk,wB,rN,if_pos rfl,aZ];rfl
 ·rw[gO<|Ne.symm e];unfold oA;rw[aY,aY];cases q:ks[m]? with
  |none=>rfl
  |some k=>
   have hm:m<ks.length:=(aI.mp q).1;have eq:ks[m]=k:=(aI.mp q).2;have ne:¬ h f=k:=λz=>e ((kZ (h₀:=hm) (h₁:=hn) nd).mp<|by rw[eq,ek,z])
   rw[wB,wB,rN,if_neg ne,cH]
theorem aMc{h:List Int->List Int}{A ks:List (List Int)}{f:List Int}(hn:h f∉ks)(hA:∀g∈A,h g∈ks):oA h A ks++[[bN f]]=oA h (A++[f]) (ks++[h f]):=by
 unfold oA;rw[aZ];congr 1
 ·refine bQ λk hk=> ?_
  rw[rN,if_neg (λz:h f=k=>hn<|z▸hk),cH]
 ·rw[aV,eA,rN,if_pos rfl,aIQ (λg hg (e:h g=h f)=>hn<|e▸hA g hg)];rfl
def aSe(P:AD)(w:AI)(K:aA):List D->R->Prop:=λds r=>∃ (p:Int×Int) (h:List Int->List Int),p∈bU/\ds=[bW p,.lst<|((bT p).map h).map bN]/\r=goR P w K ((jM<|(bT p).map h).map kY) (oA h (bT p) (jM<|(bT p).map h))
def aKn:List D->R->Prop:=λds r=>∃ (p:Int×Int) (bs:List Nat) (T:List (List Int)),p∈bU/\bs.length<=100/\(∀b∈bs,b<p.2.toNat)/\aCQ p T/\ds=[.lst<|bG bs,.tup<|T.map bN]/\r=.own ((T.map<|wdQ bs).map bN)
def aSo:List D->R->Prop:=λds r=>∃ (row:List Nat) (pl mn:Nat),1<=mn/\pl+mn<=row.length/\ds=[.tup<|bG row,.int (pl:Int),.int (mn:Int)]/\r=.val (.bl true)
noncomputable def wnQ(p:Int×Int)(L:List SK)(row:List Nat)(pl mn:Nat)(bs:List Nat)(f:List Int):Option (List<|List Int):=if f∈tabQ p L (row.take pl) then some (tP (λg=>wdQ bs<|cY p L (row.drop<|pl+mn) g) (bT p) (wdQ bs<|cY p L (row.drop pl) f)) else none
noncomputable def waQ(p:Int×Int)(L:List SK)(row:List Nat)(pl mn:Nat)(bs:List Nat):List (Option (List<|List Int)):=(bT p).map<|wnQ p L row pl mn bs
def aQt:List D->R->Prop:=λds r=>∃ (p:Int×Int) (L:List SK) (row:List Nat) (pl mn:Nat) (o:Option (List Nat)),p∈bU/\StkOk p L/\(∀t∈row,t<L.length)/\row.length<=120/\1<=mn/\pl+mn<=row.length/\aJE p o/\ds=[bW p,.lst<|L.map skD,.tup<|bG row,.int (pl:Int),.int (mn:Int),lkD o]/\r=.own ((waQ p L row pl mn<|bxQ p.2.toNat o).map wsD)
theorem nD(p:Int×Int)(L:List SK)(a b:List Nat)(ws:List Int):cY p L (a++b) ws=cY p L b (cY p L a ws):=by unfold cY;rw[eB]
theorem qW(row:List Nat)(pl mn:Nat):row.drop pl=(row.drop pl).take mn++row.drop (pl+mn):=by rw[<-aPR];exact(gE mn _).symm
theorem aJR(hp:p∈bU)(S:StkOk p L){row:List Nat}(hrow:∀t∈row,t<L.length)(pl mn:Nat)(bs:List Nat){f g:List Int}(G:Fil p f)(Gg:Fil p g):g∈tP (λg=>wdQ bs<|cY p L (row.drop<|pl+mn) g) (bT p) (wdQ bs<|cY p L (row.drop pl) f)↔wdQ bs (cY p L (row.drop<|pl+mn) g)=wdQ bs (cY p L (row.drop<|pl+mn)<|cY p L ((row.drop pl).take mn) f):=by
 unfold tP;have e:cY p L (row.drop pl) f=cY p L (row.drop<|pl+mn) (cY p L ((row.drop pl).take mn) f):=by rw[<-nD,<-qW]
 rw[cS,e]
 constructor
 ·exact λh=>of_decide_eq_true h.2
 ·exact λh=>⟨mE Gg.len Gg.wd,decide_eq_true h⟩
theorem aQZ(hp:p∈bU)(S:StkOk p L){row:List Nat}(hrow:∀t∈row,t<L.length)(pl mn:Nat)(bs:List Nat):aBS p (waQ p L row pl mn bs):=by
 refine⟨by unfold waQ;rw[aB],λo ho M hM=> ?_⟩;obtain⟨f,hf,rfl⟩:=aJ.mp ho;have G:=hW hp hf;unfold wnQ at hM
 split at hM
 ·cases hM;have f9:(bT p).length<=64:=mJ hp;have Gm:=gB S ((row.drop pl).take mn) f (λt ht=>hrow t (eC<|dR ht)) G;exact⟨List.length_pos_of_mem<|(aJR hp S hrow pl mn bs G Gm).mpr rfl,bZ (fO _ _)<|by omega,λws hw=>hW hp (cS.mp hw).1⟩
 ·cases hM
noncomputable def jV(p:Int×Int)(L:List SK)(one oth bs:List Nat):Bool:=(bT p).all λf=>decide<|wdQ bs (cY p L one f)=wdQ bs (cY p L oth f)
theorem aGZ{f:Nat->Bool}{A:List (List Int)}:(qN f A).isNone=true↔∀j,j<A.length->f j=false:=by
 constructor
 ·intro h j hj;cases e:f j with
  |false=>rfl
  |true=>exfalso;unfold qN at h;rw[Option.isNone_map] at h;have:=tJ.mp (Option.isNone_iff_eq_none.mp h) j<|bE.mpr hj;exact this e
 ·intro h;rw[xX h];rfl
theorem aBk(hp:p∈bU)(S:StkOk p L){row oth:List Nat}(hrow:∀t∈row,t<L.length)(hoth:∀t∈oth,t<L.length)(pl mn:Nat)(bs:List Nat):(rQ (waQ p L row pl mn bs) (bT p)<|tabQ p L oth).isNone=jV p L row (row.take pl++oth++row.drop (pl+mn)) bs:=by
 have h1:∀t∈row.take pl,t<L.length:=λt ht=>hrow t<|dR ht
 have key:∀k,k<(bT p).length->aNs (waQ p L row pl mn bs) (tabQ p L oth) k=(decide ((bT p).getD k []∈tabQ p L (row.take pl))&&!decide (wdQ bs (cY p L (row.drop<|pl+mn) (cY p L oth<|(bT p).getD k []))=wdQ bs (cY p L (row.drop<|pl+mn) (cY p L ((row.drop pl).take mn)<|(bT p).getD k [])))):=λk hk=>by
  have e1:(waQ p L row pl mn bs).getD k none=wnQ p L row pl mn bs ((bT p).getD k []):=by unfold waQ;simp[bF,hk]
  have e2:(tabQ p L oth).getD k []=cY p L oth ((bT p).getD k []):=by unfold tabQ;have hk':k<(gH (2^p.1.toNat) p.2.toNat).length:=hk;simp only[bF,aY];show((bT p)[k]?.map _).getD []=_;simp[hk]
  unfold aNs;rw[e1,e2];have G:Fil p ((bT p).getD k []):=hW hp<|getD_mem (d:=[]) hk;generalize (bT p).getD k []=f at G;unfold wnQ
  by_cases hm:f∈tabQ p L (row.take pl)
  ·rw[if_pos hm,decide_eq_true hm,tF];show(!decide (_∈tP _ _ _))=_;rw[decide_eq_decide.mpr (aJR hp S hrow pl mn bs G<|gB S oth f hoth G)]
  ·rw[if_neg hm,decide_eq_false hm];rfl
 have e3:∀f,cY p L row f=cY p L (row.drop<|pl+mn) (cY p L ((row.drop pl).take mn)<|cY p L (row.take pl) f):=λf=>by rw[<-nD,<-qW,<-nD,gE]
 have e4:∀f,cY p L (row.take pl++oth++row.drop (pl+mn)) f=cY p L (row.drop<|pl+mn) (cY p L oth<|cY p L (row.take pl) f):=λf=>by rw[nD,nD]
 rw[gM];unfold rQ jV;rw[aGZ,cW]
 constructor
 ·intro h f hf;have G:=hW hp hf;have Ga:=gB S (row.take pl) f h1 G;have ma:cY p L (row.take pl) f∈bT p:=mE Ga.len Ga.wd;obtain⟨k,hk,ek⟩:=gX ma;have eg:(bT p).getD k []=cY p L (row.take pl) f:=by simp[bF,hk,ek]
  have:=h k hk;rw[key k hk,eg,decide_eq_true (show cY p L (row.take pl) f∈tabQ p L (row.take pl) from aJ.mpr ⟨f,hf,rfl⟩),tF,tO,decide_eq_true_eq] at this;rw[decide_eq_true_eq,e3,e4];exact this.symm
 ·intro h k hk;rw[key k hk]
  by_cases hm:(bT p).getD k []∈tabQ p L (row.take pl)
  ·rw[decide_eq_true hm,tF,tO,decide_eq_true_eq];obtain⟨f,hf,ef⟩:=aJ.mp hm;have:=h f hf;rw[decide_eq_true_eq,e3,e4] at this;rw[<-ef];exact this.symm
  ·rw[decide_eq_false hm];rfl
def aES:List D->R->Prop:=λds r=>∃ (p:Int×Int) (L:List SK) (one oth bs:List Nat),p∈bU/\StkOk p L/\(∀t∈one,t<L.length)/\(∀t∈oth,t<L.length)/\bs.length<=100/\(∀b∈bs,b<p.2.toNat)/\ds=[bW p,.lst<|L.map skD,.tup<|bG one,.tup<|bG oth,.lst<|bG bs]/\r=.val (.bl<|jV p L one oth bs)
theorem aHP{ks:List (List Int)}(h:ks.Nodup):(ks.map kY).Nodup:=List.Pairwise.map kY (λa b q e=>q<|aJN e) h
noncomputable def enF(F:List Int->D):D->D
 |.tup [_,g]=>F<|lC g
 |_=>.non
theorem aMb(p:Int×Int)(F:List Int->D):(mI<|(bT p).map bN).map (enF F)=(bT p).map F:=by
 unfold mI;rw[aN,aB];refine gZ (by simp) λm h1 h2=> ?_
 have hm:m<(bT p).length:=by simpa using h2
 simp only[fQ,tK,Function.comp];have:((bT p).map bN).getD m .non=bN (bT p)[m]:=by simp[bF,hm]
 rw[this];show F (lC<|bN _)=_;rw[iN]
theorem aGL(row:List Nat)(k:Nat):(bG row).take k=bG (row.take k):=by unfold bG;rw[gC]
theorem aAl(row:List Nat)(k:Nat):(bG row).drop k=bG (row.drop k):=by unfold bG;rw[gD]
theorem sX(a:List Nat):(bG a).length=a.length:=by unfold bG;rw[aB]
end DL
namespace DL
open PySem PySem.Spec PySem.Calls PySem.W PyProof.Rows Builtin Builtin.Getset_descriptor Builtin.ObjectAttr
end DL
namespace DL
open PySem PySem.Spec PyProof.Rows L2
noncomputable def shF(v1 v2:V)(m:BJ):List (Str×V):=nC "made" (.ref m) (nC "stock" v2<|nC "size" v1 [])
theorem nsm1:¬ ("size":Str)="made":=by decide+kernel
theorem nsm2:¬ ("stock":Str)="made":=by decide+kernel
theorem nsm3:¬ ("size":Str)="stock":=by decide+kernel
theorem aHK(v1 v2:V)(m:BJ):(shF v1 v2 m).lookup ("size":Str)=some v1:=by unfold shF;rw[fR,if_neg nsm1,fR,if_neg nsm3,fR,if_pos rfl]
theorem aGF(v1 v2:V)(m:BJ):(shF v1 v2 m).lookup ("stock":Str)=some v2:=by unfold shF;rw[fR,if_neg nsm2,fR,if_pos rfl]
theorem aIX{H:Hp}{x m:BJ}{a b e c:HO}:upd (upd (upd (upd H x a) x b) m e) x c=upd (upd H m e) x c:=by
 funext z;unfold upd
 by_cases h1:z=x
 ·simp[h1]
 ·by_cases h2:z=m
  ·simp[h1,h2]
  ·simp[h1,h2]
structure sJ(K:aA)(mg:Str->Option BH)(C:BJ):Prop where
 cl:Cls K C
 nZ:NoAttr K C "size"
 nS:NoAttr K C "stock"
 nM:NoAttr K C "made"
 mgC:mg "Shelf"=some (.ref C)
theorem Inv.reB{X:Cx}{pins:List (BJ×BM)}{σ:St}{H H':Hp}{s:BI}(I:Inv X pins σ H s)(hn:∀b,H b=none->H' b=none)(h0:Same X.B₀ H')(ok:HOk X.prog X.w H' s.heap):Inv X pins σ H' s:=by
 refine⟨I.ok,I.os,I.bare,⟨I.base.keep,I.base.slot,λb u e n hx=>hn b<|I.base.free b u e n hx,I.base.there,λb xs e=>h0 _ _<|X.hB _ _ e trivial,λb u xs e=>h0 _ _<|X.hB _ _ e trivial,λb ps e=>⟨#[], ?_⟩⟩,I.loc,I.cell,hn _ I.free,λx c e=>hn _<|I.freeC x c e,λp hp=> ?_,ok,I.len⟩
 ·rw[h0 _ _<|X.hB _ _ e trivial];simp
 ·obtain⟨e,n,r⟩:=I.pin p hp;exact⟨e,hn _ n,r⟩
def ShD(K:aA)(C:BJ)(fs:List (Str×D))(m:BJ):V->Hp->Prop:=λv F=>∃ (x dx:BJ) (od:BM) (mA:Str->Option BH),v=.ref x/\F x=some (exO x<|cN C dx)/\F dx=some (exO dx od)/\dx≠x/\(∀h:BL,h.get? dx=some od->h.Ns1 dx mA)/\(∀f d,fs.lookup f=some d->∃y u,mA f=some u/\RelV y u/\Rep K F d y)/\mA "made"=some (.ref m)/\mA "book_up_to"=none
theorem ShD.mono{K:aA}{C m:BJ}{fs:List (Str×D)}{v:V}{F F':Hp}(h:ShD K C fs m v F)(s:Same F F'):ShD K C fs m v F':=by obtain⟨x,dx,od,mA,e,h1,h2,ne,n,q,r⟩:=h;exact⟨x,dx,od,mA,e,s _ _ h1,s _ _ h2,ne,n,λf d hf=>let ⟨y,u,a,b,c⟩:=q f d hf;⟨y,u,a,b,c.mono s⟩,r⟩
def mdO(K:aA)(m:BJ)(ks:List Key)(ds:List D)(F H:Hp):Prop:=∃xs,H m=some (.dK<|ks.zip xs)/\ks.length=ds.length/\RepL K F ds xs
noncomputable def shX(K:aA)(C:BJ)(fs:List (Str×D))(x m:BJ)(ks:List Key)(ds:List D):Slot:=.ox [m] λv F H=>v=.ref x/\ShD K C fs m v F/\mdO K m ks ds F H
variable {X:Cx}{sd:List Slot}{e a b c:Expr}{pos p pa:Pos}{d:D}{ds:List D}{ks:List Key}{fs:List (Str×D)}{C m q0:BJ}{E:iT}{y f:Str}{j:Nat}{σ:St}{F H:Hp}
theorem aDO(S:StF X.K X.B₀ F H σ sd)(hj:sd[j]? =some (shX X.K C fs q0 m ks ds)):∃v,σ[j]? =some (some v)/\F m=none/\v=.ref q0/\ShD X.K C fs m v F/\mdO X.K m ks ds F H:=by
 obtain⟨o,h1,v,h2,q,g⟩:=S.slots.get hj;obtain⟨g0,g1,g2⟩:=g F H (Same.refl _) λl hl ob e=>e
 exact⟨v,by rw[h1,h2],(q m<|by simp).1,g0,g1,g2⟩
theorem aFu(j:Nat)(hj:sd[j]? =some (shX X.K C fs q0 m ks ds))(hy:PE X (.Name y p) (iQ j))(hc:Cls X.K C)(hn:NoAttr X.K C f)(hf:fs.lookup f=some d)(hb:Ad (.Name y p) f X.env (eval (.Name y p) X.env)=eval (.Name y p) X.env:=by rfl):
  PEd X sd (.Attribute (.Name y p) f pos) (.val d):=.mk λσ F H S pins s I=>by
 obtain⟨v,h1,_,_,⟨x,dx,od,mA,rfl,e1,e2,ne,ns,q,_⟩,_⟩:=aDO S hj;obtain⟨y0,u0,hm,ru,rp⟩:=q f d hf;refine aBu hb<|thn (hy pins s σ H (λv' H'=>v'=.ref x/\H'=H) I ⟨.ref x,h1,rfl,rfl⟩) λu s1 ⟨v',H',I1,r1,ev,eH⟩=> ?_;subst ev eH;cases(show u=Value.ref x from r1);have g1:s1.heap.get? x=some (cN C dx):=(I1.hok x _<|S.sub _ _ e1).1;have g2:s1.heap.get? dx=some od:=(I1.hok dx _<|S.sub _ _ e2).1;exact aAZ I1.kIn ⟨g1,ns _ g2,ne⟩ (hc.get f) hc.hd hn hm (uI ru) ⟨y0,H',I1.tok _,ru,F,S,Same.refl _,rp⟩
theorem aBt(S:StF X.K X.B₀ F H σ sd)(hj:sd[j]? =some (shX X.K C fs q0 m ks ds))(hy:PE X (.Name y p) (iQ j))(hc:Cls X.K C)(hn:NoAttr X.K C "made")(hb:Ad (.Name y p) "made" X.env (eval (.Name y p) X.env)=eval (.Name y p) X.env:=by rfl):
  wE X (.Attribute (.Name y p) "made" pa) σ H λv H'=>v=.ref m/\H'=H:=λpins s I=>by
 obtain⟨v,h1,_,_,⟨x,dx,od,mA,rfl,e1,e2,ne,ns,_,hm,_⟩,_⟩:=aDO S hj;refine aBu hb<|thn (hy pins s σ H (λv' H'=>v'=.ref x/\H'=H) I ⟨.ref x,h1,rfl,rfl⟩) λu s1 ⟨v',H',I1,r1,ev,eH⟩=> ?_;subst ev eH;cases(show u=Value.ref x from r1);have g1:s1.heap.get? x=some (cN C dx):=(I1.hok x _<|S.sub _ _ e1).1;have g2:s1.heap.get? dx=some od:=(I1.hok dx _<|S.sub _ _ e2).1;exact aAZ I1.kIn ⟨g1,ns _ g2,ne⟩ (hc.get "made") hc.hd hn hm (uI (v:=.ref m) rfl) ⟨.ref m,H',I1.tok _,rfl,rfl,rfl⟩
theorem wJ{n:Nat}{k:Int}(j:Nat)(hu:X.A.units+1<AM)(hj:sd[j]? =some (shX X.K C fs q0 m ks ds))(hy:PE X (.Name y p) (iQ j))(hc:Cls X.K C)(hn:NoAttr X.K C "made")(hb:PEd X sd b (.val<|.int k))(nd:ks.Nodup)(hk:ks[n]? =some (.inl k))(hd:ds[n]? =some d)(hs:aPZ b)(hab:Ad (.Name y p) "made" X.env (eval (.Name y p) X.env)=eval (.Name y p) X.env:=by rfl):
  PEd X sd (.Subscript (.Attribute (.Name y p) "made" pa) b pos) (.val d):=.mk λσ F H S=>
 (aMC hu eV eV hs).to ((aBt S hj hy hc hn hab).imp fun v H1 ⟨e1,e2⟩=>by
  subst e1 e2;refine(hb σ F H1 S).imp λu H2 ⟨F2,S2,s2,q2⟩=> ?_
  simp only[ResOk,Rep] at q2;subst q2;obtain⟨_,_,_,_,_,xs,q,ln,rl⟩:=aDO S2 hj;obtain⟨w,hw,rw'⟩:=rl.get hd;have g:aNq H2 m (kV<|.inl k) (jE (ks.zip xs)<|.inl k):=.inl ⟨_,.inl k,.inl q,rfl,rfl⟩;rw[aBf nd hk hw] at g
  exact⟨m,w,rfl,g,F2,S2,s2,rw'⟩)
theorem aBA{k:Int}{p2:Pos}(j:Nat)(hu:X.A.units+1<AM)(hj:sd[j]? =some (shX X.K C fs q0 m ks ds))(hy:PE X (.Name y p) (iQ j))(hc:Cls X.K C)(hn:NoAttr X.K C "made")(h:PEd X sd e (.val d))(hb:PEd X sd b (.val<|.int k))(hk:(.inl k:Key)∉ks)(hl:ds.length<=1000)(hE:E.nx (sd.set j (shX X.K C fs q0 m (ks++[.inl k])<|ds++[d])))
  (hab:Ad (.Name y p) "made" X.env (eval (.Name y p) X.env)=eval (.Name y p) X.env:=by rfl) (hsw:AX e (some<|.Subscript (.Attribute (.Name y p) "made" pa) b p2) pos.line X.env=pure false:=by rfl):
  PSd1 X sd (.Assign [.Subscript (.Attribute (.Name y p) "made" pa) b p2] e pos) E:=.mk λσ F H S=>
 (aLO hu eV eV eV hsw).to ((h σ F H S).imp fun v H1 ⟨F1,S1,s1,q1⟩=>by
  refine(aBt S1 hj hy hc hn hab).imp λv2 H2 ⟨e1,e2⟩=> ?_
  subst e1 e2;refine(hb σ F1 H2 S1).imp λu H3 ⟨F2,S2,s2,q2⟩=> ?_
  simp only[ResOk,Rep] at q2;subst q2;obtain⟨w,hw,fm,ew,sh,xs,q,ln,rl⟩:=aDO S2 hj;have lz:ks.length=xs.length:=by rw[ln,rl.len]
  have vn:jE (ks.zip xs) (.inl k)=none:=tS hk λ_ z=>z
  refine⟨m,_,rfl,DPut.k (k:=.inl k) q (by rw[jT,<-lz,pH,ln];exact eG hl), ?_⟩;rw[sR v vn,<-aHV lz];refine⟨_,F2,S2.reX (z':=shX X.K C fs q0 m (ks++[.inl k])<|ds++[d]) hj hw (λc o hc' e=>by rw[bD (λz=>hc'<|by rw[z];simp[shX,fS])];exact e) (λc o e=> ?_) ⟨w,rfl,λl hl=> ?_,λF' H' sF kp=>⟨ew,sh.mono sF,xs++[v],kp m (by simp) _ bL,by rw[aP,aP,ln];rfl,(rl.app (.one<|Rep.mono s2 q1)).mono sF⟩⟩ (by simp[shX,fS]) (λl hl=>.inl<|by simpa[shX,fS] using hl),s1.trans s2,hE⟩
  ·by_cases z:c=m
   ·subst z;rw[bL] at e;cases e;trivial
   ·rw[bD z] at e;exact S2.smp _ _ e
  ·rw[aF.mp hl]
   exact⟨fm,_,bL,trivial⟩)
noncomputable def VP:R->Prop
 |.val _=>True
 |.pr _ _=>True
 |_=>False
theorem ResOk.chg{K:aA}{H':Hp}{sd':List Slot}{r:R}{v:V}(hr:VP r)(h:ResOk K F H sd r v)(s:Same H H')(ho:∀l∈cC sd',l∈cC sd\/H l=none):ResOk K F H' sd' r v:=by
 cases r with
 |val d=>exact h
 |pr d ls=>
  obtain⟨t,l,xs,y,e,f,g,n,q,rl,no⟩:=h;refine⟨t,l,xs,y,e,f,g,n,s _ _ q,rl,λhl=> ?_⟩
  rcases ho l hl with z|z
  ·exact no z
  ·rw[q] at z;cases z
 |_=>exact hr.elim
variable {K:aA}(Z:Lent K)
noncomputable def aQe(n:Nat)(C:Z.α->List D->R->Prop):Sp:=λvs H Q _=>vs.length=n/\∃ (v:V) (us:List V) (F:Hp) (a:Z.α) (ds:List D) (r:R),vs=v::us/\Same F H/\(∀b,b∉Z.own a->H b=F b)/\Smp H/\eW K F H (Z.sl a) (some v)/\(Z.own a).Nodup/\RepL K F ds us/\C a ds r/\VP r/\
 ∀v' H',(∃F',Same F F'/\Same F' H'/\Smp H'/\eW K F' H' (Z.sl a) (some v)/\ResOk K F' H' [Z.sl a] r v')->Q v' H'
noncomputable def aSC(n:Nat)(C:Z.α->List D->R->Prop):Sp:=λvs H Q _=>vs.length=n/\Smp H/\∃ (v:V) (us:List V) (F:Hp) (a:Z.α) (ds:List D) (r:R),vs=v::us/\Same F H/\eW K F H (Z.sl a) (some v)/\(Z.own a).Nodup/\RepL K F ds us/\C a ds r/\VP r/\
 ∀v' F' H',Same F F'->Same F' H'->Smp H'->eW K F' H' (Z.sl a) (some v)->(∀sd,(∀b∈cC sd,b∈Z.own a\/(∃o,H b=some o)/\F b=none)->ResOk K F' H' sd r v')->(∀b o,b∉Z.own a->H b=some o->H' b=some o)->(∀b o,b∉Z.own a->H b=some o->F b=none->F' b=none/\b∉Z.own a)->Q v' H'
def vlC(C:Z.α->List D->D->Prop):Z.α->List D->R->Prop:=λa ds r=>∃d,r=.val d/\C a ds d
noncomputable def aNt(n:Nat)(C:Z.α->List D->D->Prop):Sp:=aQe Z n<|vlC Z C
noncomputable def aQn(n:Nat)(C:Z.α->List D->D->Prop):Sp:=λvs H Q _=>vs.length=n/\Smp H/\∃ (v:V) (us:List V) (F:Hp) (a:Z.α) (ds:List D) (d:D),vs=v::us/\Same F H/\eW K F H (Z.sl a) (some v)/\(Z.own a).Nodup/\RepL K F ds us/\C a ds d/\
 ∀v' F' H',Same F F'->Same F' H'->Smp H'->eW K F' H' (Z.sl a) (some v)->Rep K F' d v'->(∀b o,b∉Z.own a->H b=some o->H' b=some o)->(∀b o,b∉Z.own a->H b=some o->F b=none->F' b=none/\b∉Z.own a)->Q v' H'
noncomputable def rtV(a:Z.α)(d:D):R:=.ox λv as F H=>as=Z.own a/\Rep K F d v/\Z.G a (.ref<|Z.ad a) F H
noncomputable def rtR(a:Z.α):R->R
 |.pr d ls=>.ox λv as F H=>∃t l xs y,as=Z.own a++[l]/\v=.ref t/\F t=some (.tup [y,.ref l])/\Rep K F d y/\H l=some (.lst xs)/\RepL K F ls xs/\∀F2 H2,Same F F2->(∀b∈Z.own a,∀ob,H b=some ob->H2 b=some ob)->Z.G a (.ref<|Z.ad a) F2 H2
 |.val d=>rtV Z a d
 |r=>r
theorem FnOk.framedR{P:AD}{w:AI}{Z:Lent K}{mg:Str->Option BH}{base:BL}{k n:Nat}{f:BJ}{fd:AL}{ps:List Str}{C:Z.α->List D->R->Prop}(G:FnOk P w K mg base CX0 k f fd ps (aQe Z n C)):FnOk P w K mg base CX0 k f fd ps (aSC Z n C):=by
 have res:∀ {F H:Hp}{a:Z.α}{v:V},Same F H->eW K F H (Z.sl a) (some v)->Same F (oO (Z.own a) F H)/\Same (oO (Z.own a) F H) H/\eW K F (oO (Z.own a) F H) (Z.sl a) (some v):=λ{F H a v} sF so=>by
  obtain⟨v',ev,ow,gg⟩:=so;refine⟨λb o e=> ?_,λb o e=> ?_,v',ev,λb hb=>⟨(ow b hb).1, ?_⟩,λF' H' s k=>gg F' H' s λb hb ob e=>k b hb ob<|by rw[pM hb];exact e⟩
  ·by_cases h:b∈Z.own a
   ·rw[(ow b h).1] at e;cases e
   ·rw[kQ h];exact e
  ·by_cases h:b∈Z.own a
   ·rw[pM h] at e;exact e
   ·rw[kQ h] at e;exact sF b o e
  ·rw[pM hb];exact(ow b hb).2
 refine⟨λvs H Q E h=> ?_,λA outer s H args us vs Q E hr e0 hb rv h=> ?_⟩
 ·obtain⟨hl,sm,v,us,F,a,ds,d,e,sF,so,nd,rl,c,vp,_⟩:=h;obtain⟨q1,q2,q3⟩:=res sF so;exact G.len vs (oO (Z.own a) F H) (λ_ _=>True) E ⟨hl,v,us,F,a,ds,d,e,q1,λb hb=>kQ hb,sm.sub q2,q3,nd,rl,c,vp,λ_ _ _=>trivial⟩
 ·obtain⟨hl,sm,v,us',F,a,ds,d,ev,sF,so,nd,rl,c,vp,q⟩:=h;obtain⟨q1,sU,q3⟩:=res sF so;obtain⟨_,_,ow,_⟩:=id so;have nU:∀b,b∉Z.own a->F b=none->oO (Z.own a) F H b=none:=λb hbl n=>by rw[kQ hbl];exact n
  have e1:Env0 P w K mg base A outer s (oO (Z.own a) F H):=⟨e0.frames,e0.mod,λb o e=>⟨(e0.bs b o e).1,sU.free (e0.bs b o e).2⟩,e0.bsz,e0.funs,λb hb=>sU.free<|e0.frf b hb,λb o e=>(e0.hok b o<|sU b o e).smp (sm b o<|sU b o e),e0.bare⟩;refine Ah (G.run A outer s (oO (Z.own a) F H) args us vs (λv3 F3=>∃F',Same F F'/\Same F' F3/\Smp F3/\eW K F' F3 (Z.sl a) (some v)/\ResOk K F' F3 [Z.sl a] d v3) E hr e1 hb rv ⟨hl,v,us',F,a,ds,d,ev,q1,λb hb=>kQ hb,sm.sub sU,q3,nd,rl,c,vp,λv' H' z=>z⟩) λrr s' hrr=> ?_
  cases rr with
  |error e=>exact hrr
  |ok flw=>
   cases flw with
   |ret u=>
    obtain⟨v3,F3,ho,ha,un,hk,ru,F2,s1,s2,sm3,so3,rp3⟩:=hrr
    have keepF:∀b o,b∉Z.own a->H b=some o->F b=none->F3 b=none:=λb o hbl e n=>by
     have lt:=e0.hok.lt e;cases g:s.heap.get? b with
     |none=>
      exfalso;have ob:=e0.hok b o e;have z:=sm b o e;cases o with
      |lst xs=>obtain⟨_,_,_,_,g'⟩:=ob;rw[g] at g';cases g'
      |tup xs=>obtain⟨_,_,_,oo,g',_⟩:=ob;rw[g] at g';cases g'
      |dK kvs=>obtain⟨_,_,_,_,oo,_,_,g',_⟩:=ob;rw[g] at g';cases g'
      |frz o2 u2=>obtain⟨g',_⟩:=ob;rw[g] at g';cases g'
      |ext φ=>obtain⟨_,⟨oo,g'⟩,_⟩:=ob;rw[g] at g';cases g'
      |_=>exact z
     |some ob=>exact un.free b ob g (nU b hbl n)<|by simp
    have keepO:∀b o,b∉Z.own a->H b=some o->F b=none->∀ob,s.heap.get? b=some ob->s'.heap.get? b=some ob:=λb o hbl e n ob g=>un.keep b ob g (nU b hbl n) (λhb=>by have:=e0.frf b hb;rw[e] at this;cases this)<|by simp
    have sH:∀b o,b∉Z.own a->H b=some o->iD (Z.own a) F3 H b=some o:=λb o hbl e=>by
     cases g:F b with
     |none=>rw[kU hbl<|keepF b o hbl e g];exact e
     |some o'=>have:=sF b o' g;rw[e] at this;cases this;exact gT _ _ (s2 _ _<|s1 _ _ g)
    have nl:∀ {b:BJ}{o:HO},H b=some o->¬ Wr b o->b∉Z.own a:=λe no z=>by obtain⟨_,ob,g,wr⟩:=ow _ z;rw[e] at g;cases g;exact no wr
    have nn:∀ {b:BJ},H b=none->b∉Z.own a:=λe z=>by obtain⟨_,ob,g,_⟩:=ow _ z;rw[e] at g;cases g
    have smM:Smp (iD (Z.own a) F3 H):=λb o e=>by
     by_cases hbl:b∈Z.own a
     ·unfold iD at e;rw[if_pos hbl] at e;exact sm3 _ o e
     ·cases g:F3 b with
      |some o'=>have:=gT (as:=Z.own a) (H:=H) b o' g;rw[e] at this;cases this;exact sm3 b o g
      |none=>rw[kU hbl g] at e;exact sm b o e
    have soM:eW K F2 (iD (Z.own a) F3 H) (Z.sl a) (some v):=by obtain⟨v',ev,ow3,gg⟩:=so3;refine⟨v',ev,λb hb=>⟨(ow3 b hb).1, ?_⟩,λF' H' s k=>gg F' H' s λb hb ob e=>k b hb ob<|gT _ _ e⟩;obtain⟨_,ob,g,wr⟩:=ow3 b hb;exact⟨ob,gT _ _ g,wr⟩
    refine⟨v3,iD (Z.own a) F3 H,ho,ha,⟨λb o g n hb hx=>un.keep b o g (sU.free n) hb hx,λb o g n hb hx=>un.slot b o g (sU.free n) hb hx,λb o g n hx=> ?_,un.there,λb xs e=>sH _ _ (nl e λz=>z) e,λb o u e=>sH _ _ (nl e λz=>z) e,λb ps e=>⟨#[],by rw[sH _ _ (nl e λz=>z) e];simp⟩⟩,λb o e=> ?_,ru, ?_⟩
    ·rw[kU (nn n)<|un.free b o g (sU.free n) hx];exact n
    ·have z:=smM b o e
     by_cases hbl:b∈Z.own a
     ·have e':F3 b=some o:=by unfold iD at e;rw[if_pos hbl] at e;exact e
      exact(hk b o e').smp z
     ·cases g:F3 b with
      |some o'=>have:=gT (as:=Z.own a) (H:=H) b o' g;rw[e] at this;cases this;exact(hk b o g).smp z
      |none=>
       rw[kU hbl g] at e
       have n:F b=none:=by
        cases g2:F b with
        |none=>rfl
        |some o2=>rw[s2 _ _<|s1 _ _ g2] at g;cases g
       have st:=(e0.hok b o e).smp (F:=λ_=>none) z
       have:ObjOk P w (fun _=>none) s'.heap b o:=st.stay (fun b2 u hb2 gg=>by
        rcases hb2 with rfl|hb2
        ·exact keepO _ o hbl e n u gg
        ·cases hb2) (λb2 hb2=>nomatch hb2) λb2 xs hb2=>nomatch hb2
       exact this.smp z
    ·refine q v3 F2 (iD (Z.own a) F3 H) s1 (s2.trans gT) smM soM (λsd hsd=>rp3.chg vp gT λb hb=>(hsd b hb).elim (λz=>.inl<|by simpa[cC,fS,Lent.sl] using z) λz=>if hbl:b∈Z.own a then .inl (by simpa[cC,fS,Lent.sl] using hbl) else .inr (let ⟨o,e⟩:=z.1;keepF b o hbl e z.2)) sH λb o hbl e n=> ?_
     have n3:=keepF b o hbl e n;refine⟨s2.free n3,λhb=> ?_⟩;obtain⟨_,_,ow3,_⟩:=so3;obtain⟨_,ob,g,_⟩:=ow3 b hb;rw[n3] at g;cases g
   |_=>exact hrr
theorem FnOk.weak{P:AD}{w:AI}{mg:Str->Option BH}{base:BL}{k:Nat}{f:BJ}{fd:AL}{ps:List Str}{S1 S2:Sp}(G:FnOk P w K mg base CX0 k f fd ps S1)(h:∀vs H Q E,S2 vs H Q E->S1 vs H Q E):FnOk P w K mg base CX0 k f fd ps S2:=⟨λvs H Q E z=>G.len vs H Q E<|h _ _ _ _ z,λA outer s H args us vs Q E hr e0 hb rv z=>G.run A outer s H args us vs Q E hr e0 hb rv<|h _ _ _ _ z⟩
theorem FnOk.framedV{P:AD}{w:AI}{Z:Lent K}{mg:Str->Option BH}{base:BL}{k n:Nat}{f:BJ}{fd:AL}{ps:List Str}{C:Z.α->List D->D->Prop}(G:FnOk P w K mg base CX0 k f fd ps (aNt Z n C)):FnOk P w K mg base CX0 k f fd ps (aQn Z n C):=FnOk.weak (FnOk.framedR G) λvs H Q E h=>by obtain⟨hl,sm,v,us,F,a,ds,d,ev,sF,so,nd,rl,c,q⟩:=h;exact⟨hl,sm,v,us,F,a,ds,.val d,ev,sF,so,nd,rl,⟨d,rfl,c⟩,trivial,λv' F' H' s1 s2 sm' so' res kp kf=>q v' F' H' s1 s2 sm' so' (res [] λb hb=>by cases hb) kp kf⟩
theorem aKs{P:AD}{w:AI}{Z:Lent K}{mg:Str->Option BH}{base:BL}{x qual:Str}{st:BN}{f:BJ}{fd:AL}{N ps:List Str}{k:Nat}{C:Z.α->List D->R->Prop}(F:Fun K x qual st f fd)(S:kR N ps (bK st))
  (body:∀ (cdv:BH) (A:BK) (outer:List Env) (s:BI) (H:Hp) (E:XK) (B:Hp) (hB:∀b o,H b=some o→rA o→B b=some o),Room k (A.deeper (envOfC qual (bK st) s.heap.objs.size f cdv))→∀a ds r,ds.length+1=ps.length→C a ds r→
   PSd (reB (qG CX0 P w K mg base N qual (bK st) f cdv A outer s H E).nox B hB) (nR Z N.length a ds) (dY st) {nx:=λ_=>False,rt:=λr'=>r'=rtR Z a r})
  (hw:∀ (a:Z.α) (v:V) (F H:Hp) (b:BJ) (o:HO),Z.G a v F H->b∈Z.own a->H b=some o->¬ rA o):FnOk P w K mg base CX0 (k+1) f fd ps (aQe Z ps.length C):=by
 refine F.ok S (λvs H Q E h=>h.1) λcdv A outer s H vs Q E hr h=> ?_
 obtain⟨hl,v,us,F0,a,ds,d,rfl,sF,hH,sm,so,nd,rl,c,vp,q⟩:=h;have hds:ds.length+1=ps.length:=by rw[<-rl.len];exact hl
 have hB:∀b o,H b=some o->rA o->F0 b=some o:=λb o e no=>by
  by_cases hbl:b∈Z.own a
  ·obtain⟨_,_,_,gg⟩:=so;exact absurd no<|hw a _ F0 H b o (gg F0 H (Same.refl _) λ_ _ _ e=>e) hbl e
  ·rw[<-hH b hbl];exact e
 refine⟨_,pss_w,aFd (B:=F0) (hb:=hB) ?_⟩;have hlen:N.length-(us.length+1)=N.length-(ds.length+1):=by rw[rl.len]
 have S0:StF K F0 F0 H (L2.start N (v::us)) (nR Z N.length a ds):=by
  refine⟨Same.refl _,sF,sm, ?_, ?_⟩
  ·unfold L2.start nR;show SlotsOk K F0 _ (_::_) (some v::(us.map some++fF (N.length-(us.length+1)) none));rw[hlen];exact⟨_,_,rfl,so,lU (m:=0) rl⟩
  ·unfold nR;rw[nX,lP,cH];exact nd
 refine(body cdv A outer s _ E F0 hB hr a ds d hds c (L2.start N (v::us)) F0 _ S0).imp (λ_ _ ⟨_,_,_,_,z⟩=>z.elim) ?_ (λ_ _ ⟨_,_,_,_,z⟩=>z) λ_ _ ⟨_,_,_,_,z⟩=>z
 rintro v' H' ⟨r',ro,e⟩;have e:r'=rtR Z a d:=e;subst e;obtain⟨v0,ev,_,g0⟩:=so;cases ev;have e0:=Z.hv<|g0 F0 H (Same.refl _) λ_ _ _ e=>e;cases d with
 |val d=>
  obtain⟨F',b1,b2,b3,as,nd',ow,gg⟩:=ro;obtain⟨e1,e2,e3⟩:=gg F' H' (Same.refl _) λ_ _ _ e=>e
  subst e1;refine q v' H' ⟨F',b1,b2,b3,⟨v,rfl,λl hl=>⟨(ow l hl).1,(ow l hl).2.1⟩,λF2 H2 s2 k2=> ?_⟩,e2⟩;rw[e0];exact(gg F2 H2 s2 k2).2.2
 |pr d ls=>
  obtain⟨F',b1,b2,b3,as,nd',ow,gg⟩:=ro;obtain⟨t,l,xs,y,e1,e2,e3,e4,e5,e6,e7⟩:=gg F' H' (Same.refl _) λ_ _ _ e=>e
  subst e1;have nl:l∉Z.own a:=λz=>(bJ.mp nd').2.2 l z l (by simp) rfl
  refine q v' H' ⟨F',b1,b2,b3,⟨v,rfl,λl hl=>⟨(ow l<|cA _ hl).1,(ow l<|cA _ hl).2.1⟩,λF2 H2 s2 k2=> ?_⟩,t,l,xs,y,e2,e3,e4,(ow l<|by simp).1,e5,e6,by simpa[cC,fS,Lent.sl] using nl⟩;rw[e0];exact e7 F2 H2 s2 k2
 |_=>exact vp.elim
theorem aEd{P:AD}{w:AI}{Z:Lent K}{mg:Str->Option BH}{base:BL}{x qual:Str}{st:BN}{f:BJ}{fd:AL}{N ps:List Str}{k:Nat}{C:Z.α->List D->D->Prop}(F:Fun K x qual st f fd)(S:kR N ps (bK st))
  (body:∀ (cdv:BH) (A:BK) (outer:List Env) (s:BI) (H:Hp) (E:XK) (B:Hp) (hB:∀b o,H b=some o→rA o→B b=some o),Room k (A.deeper (envOfC qual (bK st) s.heap.objs.size f cdv))→∀a ds d,ds.length+1=ps.length→C a ds d→
   PSd (reB (qG CX0 P w K mg base N qual (bK st) f cdv A outer s H E).nox B hB) (nR Z N.length a ds) (dY st) {nx:=λ_=>False,rt:=λr=>r=rtV Z a d})
  (hw:∀ (a:Z.α) (v:V) (F H:Hp) (b:BJ) (o:HO),Z.G a v F H→b∈Z.own a→H b=some o→¬ rA o):FnOk P w K mg base CX0 (k+1) f fd ps (aNt Z ps.length C):=aKs (C:=vlC Z C) F S (fun cdv A outer s H E B hB hr a ds r hl c=>by
 obtain⟨d,rfl,c⟩:=c
 exact body cdv A outer s H E B hB hr a ds d hl c) hw
noncomputable def shL(K:aA)(C:BJ)(fs:List (Str×D))(J:List Key->List D->Prop):Lent K where
 α:=BJ×BJ
 ad a:=a.1
 own a:=[a.2]
 G a v F H:=v=.ref a.1/\ShD K C fs a.2 v F/\∃ks ds,J ks ds/\mdO K a.2 ks ds F H
 hv h:=h.1
variable {es:List Expr}{J:List Key->List D->Prop}{sts:List BN}
theorem aGS(i:Nat){a:BJ×BJ}(hs:sd[i]? =some ((shL X.K C fs J).sl a))(h:∀ks ds,J ks ds->PSd X (sd.set i<|shX X.K C fs a.1 a.2 ks ds) sts E):PSd X sd sts E:=.mk λσ F H S=>by
 obtain⟨o,h1,v,h2,q,g⟩:=S.slots.get hs;obtain⟨ev,g1,ks,ds,hj,xs,q1,q2,q3⟩:=g F H (Same.refl _) λ_ _ _ e=>e
 have S2:StF X.K X.B₀ F H σ (sd.set i<|shX X.K C fs a.1 a.2 ks ds):=S.reX (z':=shX X.K C fs a.1 a.2 ks ds) hs h1 (λ_ _ _ e=>e) S.smp ⟨v,h2,q,λF' H' sF k=>⟨ev,g1.mono sF,xs,k _ (by simp) _ q1,q2,q3.mono sF⟩⟩ (by simp[shX,fS]) (λl hl=>.inl<|by simpa[shX,fS,Lent.sl,shL] using hl);exact h ks ds hj σ F H S2
theorem sP{Z:Lent X.K}{a:Z.α}(i:Nat)(hs:sd[i]? =some (Z.sl a))(h:PEd X sd e (.val d))(hE:E.rt (rtV Z a d)):PSd1 X sd (.Return (some e) pos) E:=.mk λσ F H S=>
 (tY eV).to ((h σ F H S).imp fun v H1 ⟨F1,S1,s1,q1⟩=>by
  obtain⟨o,h1,v0,h2,ow,gg⟩:=S1.slots.get hs;have ev:=Z.hv<|gg F1 H1 (Same.refl _) λ_ _ _ e=>e;subst ev
  exact⟨rtV Z a d,⟨F1,S1.base,S1.sub,S1.smp,Z.own a,iL S1.nd hs,λl hl=>⟨(ow l hl).1,(ow l hl).2,by simp[cC]⟩,λF' H' sF k=>⟨rfl,Rep.mono sF q1,gg F' H' sF k⟩⟩,hE⟩)
theorem aCF{a:BJ×BJ}(i:Nat)(hs:sd[i]? =some (shX X.K C fs a.1 a.2 ks ds))(hJ:J ks ds)(h:PEd X sd e (.val d))(hE:E.rt (rtV (shL X.K C fs J) a d)):PSd1 X sd (.Return (some e) pos) E:=.mk λσ F H S=>
 (tY eV).to ((h σ F H S).imp fun v H1 ⟨F1,S1,s1,q1⟩=>by
  obtain⟨o,h1,v0,h2,ow,gg⟩:=S1.slots.get hs
  exact ⟨rtV (shL X.K C fs J) a d,⟨F1,S1.base,S1.sub,S1.smp,[a.2],iL S1.nd hs,fun l hl=>⟨(ow l hl).1,(ow l hl).2,by simp [cC]⟩,fun F' H' sF k=>⟨rfl,Rep.mono sF q1,by
   obtain⟨g0,g1,g2⟩:=gg F' H' sF k;subst g0
   exact⟨rfl,g1,ks,ds,hJ,g2⟩⟩⟩,hE⟩)
theorem vJ{a:BJ×BJ}(j:Nat)(hj:sd[j]? =some ((shL X.K C fs J).sl a))(hy:PE X (.Name y p) (iQ j))(hc:Cls X.K C)(hn:NoAttr X.K C f)(hf:fs.lookup f=some d)(hb:Ad (.Name y p) f X.env (eval (.Name y p) X.env)=eval (.Name y p) X.env:=by rfl):
  PEd X sd (.Attribute (.Name y p) f pos) (.val d):=.mk λσ F H S pins s I=>by
 obtain⟨o,h1,v,h2,_,gg⟩:=S.slots.get hj;obtain⟨_,⟨x,dx,od,mA,rfl,e1,e2,ne,ns,q,_⟩,_⟩:=gg F H (Same.refl _) λ_ _ _ e=>e
 obtain⟨y0,u0,hm,ru,rp⟩:=q f d hf;refine aBu hb<|thn (hy pins s σ H (λv' H'=>v'=.ref x/\H'=H) I ⟨.ref x,by rw[h1,h2],rfl,rfl⟩) λu s1 ⟨v',H',I1,r1,ev,eH⟩=> ?_;subst ev eH;cases(show u=Value.ref x from r1);have g1:s1.heap.get? x=some (cN C dx):=(I1.hok x _<|S.sub _ _ e1).1;have g2:s1.heap.get? dx=some od:=(I1.hok dx _<|S.sub _ _ e2).1;exact aAZ I1.kIn ⟨g1,ns _ g2,ne⟩ (hc.get f) hc.hd hn hm (uI ru) ⟨y0,H',I1.tok _,ru,F,S,Same.refl _,rp⟩
theorem uW{k:Int}(j:Nat)(hu:X.A.units+1<AM)(hj:sd[j]? =some (shX X.K C fs q0 m ks ds))(hy:PE X (.Name y p) (iQ j))(hc:Cls X.K C)(hn:NoAttr X.K C "made")(hb:PEd X sd b (.val<|.int k))(t:Bool)(ht:∀xs:List V,ks.length=xs.length->(jE (ks.zip xs)<|.inl k).isSome= !t)(hab:Ad (.Name y p) "made" X.env (eval (.Name y p) X.env)=eval (.Name y p) X.env:=by rfl)(hbm:AR .NotIn (.Attribute (.Name y p) "made" pa)=false:=by rfl):
  PTd X sd (.Compare b [.NotIn] [.Attribute (.Name y p) "made" pa] pos) t:=.mk λσ F H S=>
 (aPF (aFW hu eV eV) hbm).to ((hb σ F H S).imp fun u H1 ⟨F1,S1,s1,q1⟩=>by
  simp only[ResOk,Rep] at q1;subst q1;refine(aBt S1 hj hy hc hn hab).imp λv H2 ⟨e1,e2⟩=> ?_
  subst e1 e2;obtain⟨_,_,_,_,_,xs,q,ln,rl⟩:=aDO S1 hj;refine⟨m,jE (ks.zip xs)<|.inl k,rfl,.inl ⟨_,.inl k,.inl q,rfl,rfl⟩, ?_⟩;rw[ht xs<|by rw[ln,rl.len]]
  exact⟨t,by simp,rfl,F1,S1,s1⟩)
structure lI(P:AD)(w:AI)(K:aA)(Z:Lent K)(mg:Str->Option BH)(base:BL)(x:Str)(k n:Nat)(C:Z.α->List D->D->Prop):Prop where
 ex:∃ (f:BJ) (fd:AL) (ps:List Str),mg x=some (.ref f)/\cU K (.ref f)=true/\Binds K fd ps []/\FnOk P w K mg base CX0 k f fd ps (aNt Z n C)
def aNO(K:aA)(C:BJ)(m:Str)(x:BJ)(F:Hp):Prop:=∃ (dx:BJ) (od:BM) (mA:Str->Option BH),F x=some (exO x<|cN C dx)/\F dx=some (exO dx od)/\dx≠x/\(∀h:BL,h.get? dx=some od->h.Ns1 dx mA)/\mA m=none
variable {p2 apos:Pos}{Cl f:BJ}{fd:AL}{ps:List Str}{x m g:Str}{k n:Nat}
theorem aSs{Z:Lent X.K}{C:Z.α->List D->D->Prop}{a:Z.α}{v:V}{us:List V}{Q:VK}{E:XK}(i:Nat)(hs:sd[i]? =some (Z.sl a))(S:StF X.K X.B₀ F H σ sd)(hv:σ[i]? =some (some v))(rl:RepL X.K F ds us)(hc:C a ds d)(hn:ds.length+1=n)
  (q:∀v' F' H',StF X.K X.B₀ F' H' σ sd->Same F F'->Rep X.K F' d v'->Q v' H'):aQn Z n C (v::us) H Q E:=by
 obtain⟨o1,g1,so⟩:=S.slots.get hs
 have eo:o1=some v:=by rw[hv] at g1;exact(bY.inj g1).symm
 subst eo;refine⟨by rw[bP,rl.len];exact hn,S.smp,v,us,F,a,ds,d,rfl,S.sub,so,iL S.nd hs,rl,hc,λv' F' H' s2 s3 sm so' rp kp kf=>q v' F' H' ?_ s2 rp⟩;have S2:=S.le<|gU sd i;have no:∀b,b∈cC (sd.set i .un)->b∉Z.own a:=λb hb z=>hV S.nd hs (show b∈fS (Z.sl a) from z) hb
 have S3:StF X.K X.B₀ F' H' σ (sd.set i .un):=⟨fun b o e=>s2 _ _ (S.base _ _ e),s3,sm,S2.slots.mono s2 fun b hb=>by
  obtain⟨n1,ob,e,_⟩:=S2.slots.owns hb
  exact⟨(kf b ob (no b hb) e n1).1,λxs e'=>kp b xs (no b hb) e'⟩,S2.nd⟩
 have S4:=S3.setT i so' (iL S.nd hs) λb hb hb2=>by obtain⟨n1,ob,e,_⟩:=S2.slots.owns hb2;exact(kf b ob (no b hb2) e n1).2 hb
 rw[jY,lW g1] at S4
 have es:sd.set i (Slot.ox (Z.own a)<|Z.G a)=sd:=by obtain⟨hi,e⟩:=aI.mp hs;rw[show Slot.ox (Z.own a) (Z.G a)=sd[i] from e.symm];exact pZ hi
 rw[es] at S4;exact S4
theorem wN{Z:Lent X.K}{C:Z.α->List D->D->Prop}{a:Z.α}(i:Nat)(hs:sd[i]? =some (Z.sl a))(hxi:PE X (.Name x p2) (iQ i))(G:lI X.prog X.w X.K Z X.mg X.base g k n C)(hr:Room k X.A)(hg:Gl X g)(ha:PAd X sd es (ds.map R.val))(hc:C a ds d)(hn:ds.length+1=n)
  (hdb:(g==("__debug__":Str))=false:=by decide) (he:AC (.Name x p2::es) X.env=(false,eval (.Name x p2) X.env)::AC es X.env:=by rfl) (hpl:(Ae pos<|AC es X.env).any (·.1)=false:=by rfl):
  PEd X sd (.Call (.Name g p) (.Name x p2::es) [] pos) (.val d):=.mk λσ F H S=>by
 obtain⟨fa,fd,ps,hm,hkp,bd,G⟩:=G.ex;obtain⟨o0,h1,v,h2,_⟩:=S.slots.get hs;refine(vS (FnOk.framedV G) hr hg hm hkp bd .nil zZ (dP hxi rC he) hdb he hpl).to ⟨v,by rw[h1,h2],(ha σ F H S).imp λus H1 ⟨F1,S1,s1,q1⟩=> ?_⟩;show aQn Z n C (v::us++[]) H1 _ _;rw[cH];exact aSs i hs S1 (by rw[h1,h2]) q1.vals hc hn λv' F' H' S' s' r'=>⟨F',S',s1.trans s',r'⟩
theorem aJA{pl:Sem Bool}{Z:Lent X.K}{C:Z.α->List D->D->Prop}{a:Z.α}(i:Nat)(hs:sd[i]? =some (Z.sl a))(hxi:PE X (.Name x p2) (iQ i))(hi:∀F H,Z.G a (.ref<|Z.ad a) F H->aNO X.K Cl m (Z.ad a) F)(c:Cls X.K Cl)(hm:aQd X.K Cl m f)(G:FnOk X.prog X.w X.K X.mg X.base CX0 k f fd ps (aNt Z n C))(hr:Room k X.A)(bd:Binds X.K fd ps [])(ha:PAd X sd (e::es) (ds.map R.val))(hc:C a ds d)(hn:ds.length+1=n)
  (hst:AC (e::es) X.env=(false,eval e X.env)::AC es X.env:=by rfl) (hpl:(Ae pos<|AC es X.env).any (·.1)=false:=by rfl)
  (ht:eval (.Call (.Attribute (.Name x p2) m apos) (e::es) [] pos) X.env=(do
   let ov <-eval (.Name x p2) X.env
   standAt apos.atName
   let (f,first) <-holding [ov] (getMethod ov m pl)
   callWith pos f first (Ae pos (AC (e::es) X.env)) (backToKw pos (keywordEach [] X.env))):=by rfl):
  PEd X sd (.Call (.Attribute (.Name x p2) m apos) (e::es) [] pos) (.val d):=.mk λσ F H S pins s I=>by
 obtain⟨o0,h1,v,h2,_,gg⟩:=S.slots.get hs;have g0:=gg F H (Same.refl _) λ_ _ _ e=>e
 have ev:=Z.hv g0;subst h2 ev;obtain⟨dx,od,mA,e1,e2,ne,ns,hmA⟩:=hi F H g0;refine PySem.W.methodCall_KW (pl:=pl) (thn (hxi pins s σ H (λv' H'=>v'=.ref (Z.ad a)/\H'=H) I ⟨.ref<|Z.ad a,h1,rfl,rfl⟩) λu s1 ⟨v',H',I1,r1,ev,eH⟩=> ?_) ht;subst ev eH;cases(show u=Value.ref (Z.ad a) from r1);have g1:s1.heap.get? (Z.ad a)=some (cN Cl dx):=(I1.hok _ _<|S.sub _ _ e1).1;have g2:s1.heap.get? dx=some od:=(I1.hok dx _<|S.sub _ _ e2).1;refine aIm I1.kIn ⟨g1,ns _ g2,ne⟩ (c.get m) hm.at_ hm.fn hmA ?_;refine rE (first:=[.ref<|Z.ad a]) (h₀:=X.base) I.ok.mod.kin hm.kp (thn ((rC:PA X (e::es) _) pos pins s1 σ H' _ I1<|ha σ F H' S) λus s2 ⟨vs,H2,I2,r,F1,S1,s1',q1⟩=>⟨I2.kIn, ?_⟩) hst hpl;refine aJW (us:=.ref (Z.ad a)::us) (vs:=.ref (Z.ad a)::vs) (FnOk.framedV G) hr bd .nil zZ I2 (.cons rfl r) ?_;rw[cH];exact aSs i hs S1 h1 q1.vals hc hn λv' F' H' S' s' r'=>⟨F',S',s1'.trans s',r'⟩
structure PSo(X:Cx)(sd:List Slot)(e:Expr)(Z:Lent X.K):Prop where
 run:∀ (σ:St) (F H:Hp),StF X.K X.B₀ F H σ sd->wE X e σ H λv H'=>∃F' a,StF X.K X.B₀ F' H' σ sd/\Same F F'/\eW X.K F' H' (Z.sl a) (some v)/\(Z.own a).Nodup/\∀l∈Z.own a,l∉cC sd
noncomputable def aHt:List Nat->TA
 |[]=>yH
 |j::js=>nF (iQ j)<|aHt js
theorem StF.layW{H₀:Hp}{p:BJ}{o:HO}(S:StF K H₀ F H σ sd)(hp:H p=none)(ho:aPY o):StF K H₀ F (upd H p o) σ sd/\F p=none/\p∉cC sd:=by
 have fp:F p=none:=S.sub.free hp;refine⟨⟨S.base,λb u e=> ?_,λb u e=> ?_,S.slots.mono (Same.refl _) λl hl=> ?_,S.nd⟩,fp,λhl=> ?_⟩
 ·rw[bD<|cE e fp];exact S.sub _ _ e
 ·by_cases h:b=p
  ·subst h;rw[bL] at e;cases e;exact ho
  ·rw[bD h] at e;exact S.smp _ _ e
 ·obtain⟨n,ys,q,_⟩:=S.slots.owns hl;have hne:l≠p:=cE q hp;exact⟨n,λys e=>by rw[bD hne];exact e⟩
 ·obtain⟨n,ys,q,_⟩:=S.slots.owns hl;rw[hp] at q;cases q
theorem zY{K:aA}{H₀ F H:Hp}{σ:St}{sd:List Slot}(S:StF K H₀ F H σ sd):∀ {js:List Nat}{ds:List D},js.map (λj=>sd[j]?)=ds.map (λd=>some<|Slot.val d)->∃us,RepL K F ds us/\∀H1 Q,Q us H1->aHt js σ H1 Q
 |[],[],_=>⟨[],.nil,λ_ _ q=>q⟩
 |[],_::_,h=>by cases h
 |_::_,[],h=>by cases h
 |j::js,d::ds,h=>by obtain⟨h1,h2⟩:=aDJ.inj h;obtain⟨us,r,q⟩:=zY S h2;obtain⟨o,g1,v,g2,rp⟩:=S.slots.get h1;exact⟨v::us,.cons rp r,λH1 Q qq=>⟨v,by rw[g1,g2],q H1 _ qq⟩⟩
structure aAQ(P:AD)(w:AI)(K:aA)(Z:Lent K)(mg:Str->Option BH)(base:BL)(x:Str)(k n:Nat)(C:Z.α->List D->R->Prop):Prop where
 ex:∃ (f:BJ) (fd:AL) (ps:List Str),mg x=some (.ref f)/\cU K (.ref f)=true/\Binds K fd ps []/\FnOk P w K mg base CX0 k f fd ps (aQe Z n C)
theorem aAk{e0:Expr}{r:R}{Z:Lent X.K}{C:Z.α->List D->R->Prop}(js:List Nat)(h0:PSo X sd e0 Z)(G:aAQ X.prog X.w X.K Z X.mg X.base g k n C)(hr:Room k X.A)(hg:Gl X g)(ha:PA X es (aHt js))(hj:js.map (λj=>sd[j]?)=ds.map λd=>some<|Slot.val d)(hc:∀a,C a ds r)(hv:VP r)(hn:ds.length+1=n)
  (hdb:(g==("__debug__":Str))=false:=by decide) (he:AC (e0::es) X.env=(false,eval e0 X.env)::AC es X.env:=by rfl) (hpl:(Ae pos<|AC es X.env).any (·.1)=false:=by rfl):
  PEd X sd (.Call (.Name g p) (e0::es) [] pos) r:=.mk λσ F H S=>by
 obtain⟨fa,fd,ps,hm,hkp,bd,G⟩:=G.ex;refine(vS (FnOk.framedR G) hr hg hm hkp bd .nil zZ (dP eV ha he) hdb he hpl).to<|(h0.run σ F H S).imp λv H1 ⟨F1,a,S1,s1,so,nd,no⟩=> ?_;obtain⟨us,rl,q⟩:=zY S1 hj;refine q H1 _ ?_;show aSC Z n C (v::us++[]) H1 _ _;rw[cH];refine⟨by rw[bP,rl.len];exact hn,S1.smp,v,us,F1,a,ds,r,rfl,S1.sub,so,nd,rl,hc a,hv,λv' F' H' s2 s3 sm so' rp kp kf=>⟨F', ?_,s1.trans s2,rp sd λb hb=>.inr ?_⟩⟩
 ·exact ⟨fun b o e=>s2 _ _ (S1.base _ _ e),s3,sm,S1.slots.mono s2 fun b hb=>by
   obtain⟨n1,ob,e,_⟩:=S1.slots.owns hb
   exact⟨(kf b ob (λz=>no b z hb) e n1).1,λxs e'=>kp b xs (λz=>no b z hb) e'⟩,S1.nd⟩
 ·obtain⟨n1,ob,e,_⟩:=S1.slots.owns hb;exact⟨⟨ob,e⟩,n1⟩
theorem aGh{e0:Expr}{Z:Lent X.K}{C:Z.α->List D->D->Prop}(js:List Nat)(h0:PSo X sd e0 Z)(G:lI X.prog X.w X.K Z X.mg X.base g k n C)(hr:Room k X.A)(hg:Gl X g)(ha:PA X es (aHt js))(hj:js.map (λj=>sd[j]?)=ds.map λd=>some<|Slot.val d)(hc:∀a,C a ds d)(hn:ds.length+1=n)
  (hdb:(g==("__debug__":Str))=false:=by decide) (he:AC (e0::es) X.env=(false,eval e0 X.env)::AC es X.env:=by rfl) (hpl:(Ae pos<|AC es X.env).any (·.1)=false:=by rfl):
  PEd X sd (.Call (.Name g p) (e0::es) [] pos) (.val d):=aAk (C:=vlC Z C) js h0 ⟨G.ex⟩ hr hg ha hj (λa=>⟨d,rfl,hc a⟩) trivial hn hdb he hpl
theorem nsm4:¬ ("book_up_to":Str)="made":=by decide+kernel
theorem nsm5:¬ ("book_up_to":Str)="stock":=by decide+kernel
theorem nsm6:¬ ("book_up_to":Str)="size":=by decide+kernel
theorem aIY(v1 v2:V)(m:BJ):(shF v1 v2 m).lookup ("made":Str)=some (.ref m):=by unfold shF;rw[fR,if_pos rfl]
theorem aIC(v1 v2:V)(m:BJ):(shF v1 v2 m).lookup ("book_up_to":Str)=none:=by unfold shF;rw[fR,if_neg nsm4,fR,if_neg nsm5,fR,if_neg nsm6];rfl
noncomputable def wZ(C:BJ):Sp:=λvs H Q _=>∃ (x dx:BJ) (v1 v2:V),vs=[.ref x,v1,v2]/\H x=some (.ins C dx [])/\∀m,H m=none->Q .non (upd (upd H m<|.dK []) x (.ins C dx<|shF v1 v2 m))
theorem aCJ{e1 e2:Expr}{d1 d2:D}(hJ:J [] [])(T:sJ X.K X.mg C)(M:Mk X.K C f)(G:FnOk X.prog X.w X.K X.mg X.base CX0 1 f fd ["self","size","stock"] (wZ C))(hb:Binds X.K fd ["self","size","stock"] [])(hr:Room 2 X.A)(hg:Gl X "Shelf")(ha:PAd X sd [e1,e2] [.val d1,.val d2])
  (he:AC (e1::[e2]) X.env=(false,eval e1 X.env)::AC [e2] X.env:=by rfl) (hpl:(Ae pos<|AC [e2] X.env).any (·.1)=false:=by rfl):
  PSo X sd (.Call (.Name "Shelf" p) [e1,e2] [] pos) (shL X.K C [("size",d1),("stock",d2)] J):=⟨fun σ F H S pins s I=>by
 refine thn ((aMd M G hr hg T.mgC hb .nil zZ rC (by decide) he hpl) pins s σ H (λv H2=>∃ (x dx m:BJ) (v1 v2:V) (F1 H1:Hp),v=.ref x/\StF X.K X.B₀ F1 H1 σ sd/\Same F F1/\Rep X.K F1 d1 v1/\Rep X.K F1 d2 v2/\H1 x=none/\H1 dx=none/\H1 m=none/\dx≠x/\m≠x/\m≠dx/\H2=upd (upd (upd (upd H1 dx<|.own x) x<|.ins C dx []) m<|HO.dK []) x (.ins C dx<|shF v1 v2 m)) I ?_) λu s1 ⟨v,H2,I2,r,x,dx,m,v1,v2,F1,H1,ev,S1,s1',q1,q2,n1,n2,n3,ne,ne2,ne3,eH⟩=> ?_
 ·refine(ha σ F H S).imp λvs H1 ⟨F1,S1,s1,q⟩=> ?_
  intro x dx n1 n2 ne
  obtain⟨v1,vs1,rfl,a1,t1⟩:∃v1 vs1,vs=v1::vs1/\ResOk X.K F1 H1 sd (.val d1) v1/\RsOk X.K F1 H1 sd [.val d2] vs1:=by
   cases q with
   |cons a b=>exact⟨_,_,rfl,a,b⟩
  obtain⟨v2,vs2,rfl,a2,t2⟩:∃v2 vs2,vs1=v2::vs2/\ResOk X.K F1 H1 sd (.val d2) v2/\RsOk X.K F1 H1 sd [] vs2:=by
   cases t1 with
   |cons a b=>exact⟨_,_,rfl,a,b⟩
  cases t2;refine⟨x,dx,v1,v2,rfl,bL,λm hm=>⟨rfl,x,dx,m,v1,v2,F1,H1,rfl,S1,s1,a1,a2,n1,n2, ?_,ne, ?_, ?_,rfl⟩⟩
  ·by_cases h1:m=x
   ·subst h1;rw[bL] at hm;cases hm
   ·by_cases h2:m=dx
    ·subst h2;rw[bD h1,bL] at hm;cases hm
    ·rw[bD h1,bD h2] at hm;exact hm
  ·intro h1;subst h1;rw[bL] at hm;cases hm
  ·intro h2;subst h2;rw[bD ne,bL] at hm;cases hm
 ·subst ev eH;obtain⟨mA,O,rel,_,_,_⟩:=aAO I2.hok bL;obtain⟨od,es,ep,ho,rest⟩:=id O.ns;have hx:=O.obj
  have keep:∀b o,H1 b=some o->(upd (upd (upd H1 m<|HO.dK []) x (exO x<|cN C dx)) dx<|exO dx od) b=some o:=λb o e=>by rw[bD<|cE e n2,bD<|cE e n1,bD<|cE e n3];exact e
  have I3:Inv X pins σ (upd (upd (upd H1 m<|HO.dK []) x (exO x<|cN C dx)) dx<|exO dx od) s1:=by
   refine Inv.reB I2 (λb hb=> ?_) (λb o e=>keep b o (S1.sub _ _<|S1.base _ _ e)) λb o e=> ?_
   ·by_cases h1:b=x
    ·subst h1;rw[bL] at hb;cases hb
    ·by_cases h2:b=m
     ·subst h2;rw[bD h1,bL] at hb;cases hb
     ·by_cases h3:b=dx
      ·subst h3;rw[bD h1,bD h2,bD h1,bL] at hb;cases hb
      ·rw[bD h1,bD h2,bD h1,bD h3] at hb;rw[bD h3,bD h1,bD h2];exact hb
   ·by_cases h3:b=dx
    ·subst h3;rw[bL] at e;cases e;exact qZ ho
    ·by_cases h1:b=x
     ·subst h1;rw[bD h3,bL] at e;cases e;exact qZ hx
     ·by_cases h2:b=m
      ·subst h2;rw[bD h3,bD h1,bL] at e;cases e;exact(I2.hok b (HO.dK [])<|by rw[bD ne2,bL]).smp trivial
      ·rw[bD h3,bD h1,bD h2] at e;exact(I2.hok b o<|by rw[bD h1,bD h2,bD h1,bD h3];exact e).smp<|S1.smp _ _ e
  obtain⟨A1,fm,om⟩:=S1.layW (o:=HO.dK []) n3 trivial;obtain⟨A2,t2⟩:=A1.lay (p:=x) (o:=exO x<|cN C dx) (by rw[bD<|Ne.symm ne2];exact n1) trivial;obtain⟨A3,t3⟩:=A2.lay (p:=dx) (o:=exO dx od) (by rw[bD ne,bD<|Ne.symm ne3];exact n2) trivial;have tt:=t2.trans t3
  have hmade:mA "made"=some (.ref m):=by obtain⟨u1,hu,ru⟩:=RelO.some_of (v:=.ref m) (o:=mA "made") (by rw[<-aIY v1 v2 m];exact rel "made");rw[hu];exact congrArg some ru
  have sh:ShD X.K C [("size",d1),("stock",d2)] m (.ref x) (upd (upd F1 x (exO x<|cN C dx)) dx<|exO dx od):=by
   refine⟨x,dx,od,mA,rfl,by rw[bD<|Ne.symm ne,bL],bL,ne,λh hh=>⟨od,es,ep,hh,rest⟩,λg d hg=> ?_,hmade,RelO.none_of<|by rw[<-aIC v1 v2 m];exact rel "book_up_to"⟩
   by_cases g1:g="size"
   ·subst g1;have:d1=d:=bY.inj hg;subst this;obtain⟨u1,hu,ru⟩:=RelO.some_of (v:=v1) (o:=mA "size") (by rw[<-aHK v1 v2 m];exact rel "size");exact⟨v1,u1,hu,ru,q1.mono tt⟩
   ·by_cases g2:g="stock"
    ·subst g2;have:d2=d:=bY.inj hg;subst this;obtain⟨u1,hu,ru⟩:=RelO.some_of (v:=v2) (o:=mA "stock") (by rw[<-aGF v1 v2 m];exact rel "stock");exact⟨v2,u1,hu,ru,q2.mono tt⟩
    ·have b1:(g==("size":Str))=false:=beq_eq_false_iff_ne.mpr g1;have b2:(g==("stock":Str))=false:=beq_eq_false_iff_ne.mpr g2;simp only[iW,b1,b2] at hg;cases hg
  have hH:upd (upd (upd H1 m<|HO.dK []) x (exO x<|cN C dx)) dx (exO dx od) m=some (.dK []):=by rw[bD ne3,bD ne2,bL]
  have hF:upd (upd F1 x (exO x<|cN C dx)) dx (exO dx od) m=none:=by rw[bD ne3,bD ne2];exact fm
  exact⟨.ref x,_,I3,r,_,(x,m),A3,s1'.trans tt,⟨.ref x,rfl,λl hl=>by rw[aF.mp hl];exact⟨hF,_,hH,trivial⟩,λF' H' sF kp=>⟨rfl,sh.mono sF,[],[],hJ,[],kp m (cQ m) _ hH,rfl,.nil⟩⟩,bX.mpr ⟨by simp,dA⟩,λl hl=>by rw[aF.mp hl];exact om⟩⟩
theorem aNm{i:Nat}(ha:PEd X sd a (.val<|.tup ds))(hb:PEd X sd b (.val<|.int (i:Int)))(hc:PEd X sd c (.val<|.int (j:Int))):PEd X sd (.Subscript a (.Slice (some b) (some c) none p2) pos) (.val<|.tup ((ds.drop i).take<|j-i)):=by
 have e:DL.cutD ds (some (i:Int)) (some (j:Int))=(ds.drop i).take (j-i):=by
  unfold DL.cutD;rw[HT.sIx_nat,HT.sIx_nat]
  by_cases q:i<=ds.length
  ·rw[zP q,List.take_eq_take_iff];simp;omega
  ·rw[kG (show ds.length<=min i ds.length by omega),kG<|by omega];simp
 by_cases w:HT.sIx ds.length 0 (some (i:Int))=0/\HT.sIx ds.length ds.length (some (j:Int))=ds.length
 ·refine PEd.cast (aBq (ol:=some (i:Int)) (oh:=some (j:Int)) ha hb hc w) ?_;rw[<-e];unfold DL.cutD;rw[w.1,w.2];simp
 ·exact PEd.cast (mO (ol:=some (i:Int)) (oh:=some (j:Int)) ha hb hc w) (by rw[e])
noncomputable abbrev Ch:=Nat×Nat×List Nat
noncomputable def chD(c:Ch):D:=.tup [.int (c.1:Int),.int (c.2.1:Int),.tup<|bG c.2.2]
noncomputable def wcQ(row:List Nat)(c:Ch):List Nat:=row.take c.1++c.2.2++row.drop (c.1+c.2.1)
noncomputable def aQA(L:List SK)(row:List Nat):Int:=xU<|sG L row
noncomputable def zK(p:Int×Int)(L:List SK)(row:List Nat)(o:Option (List Nat)):List (List Int):=(bT p).map λws=>match o with
 |none=>cY p L row ws
 |some l=>l.map λj=>(cY p L row ws).getD j 0
noncomputable def aSw(row:List Nat)(c:Ch):Bool:=decide<|1<=c.2.1/\c.1+c.2.1<=row.length
noncomputable def hoQ(p:Int×Int)(L:List SK)(row:List Nat)(c:Ch)(o:Option (List Nat)):Bool:=aSw row c&&(decide (aQA L c.2.2<aQA L ((row.drop c.1).take c.2.1))&&decide (zK p L (wcQ row c) o=zK p L row o))
def RowOk(L:List SK)(row:List Nat):Prop:=∀t∈row,t<L.length
theorem RowOk.wc{L:List SK}{row:List Nat}{c:Ch}(h:RowOk L row)(hc:RowOk L c.2.2):RowOk L (wcQ row c):=λt ht=>by
 unfold wcQ at ht
 rcases bC.mp ht with ht|ht
 ·rcases bC.mp ht with ht|ht
  ·exact h t<|dR ht
  ·exact hc t ht
 ·exact h t<|eC ht
def xM:List D->R->Prop:=λds r=>∃ (row:List Nat) (i m:Nat),ds=[.tup<|bG row,.int (i:Int),.int (m:Int)]/\r=.val (.tup (bG<|(row.drop i).take m))
def aFv:List D->R->Prop:=λds r=>∃ (row:List Nat) (c:Ch),row.length+c.2.2.length<=900/\ds=[.tup<|bG row,chD c]/\r=.val (.tup (bG<|wcQ row c))
theorem aOn{G K:Prop}(h:K->G)(k:K):G:=h k
section
variable {prog:AD}{w:AI}{κ:Type}[DecidableEq κ](knd:KeyKind prog w κ)
variable {knd}
variable {A:BK}{E:BH->BI->Prop}{s:BI}
end
structure HK(P:AD)(w:AI)(κ:Type)[DecidableEq κ] where
 kind:HeapKind P w κ
 rel:Hp->κ->BJ->Prop
 mono:∀ {F F':Hp}{k:κ}{a:BJ},Same F F'->rel F k a->rel F' k a
 ok:∀ {H:Hp}{h:BL}{k:κ}{a:BJ},HOk P w H h->rel H k a->kind.is h k a
 room:∀ {A:BK},A.units+2<AM->kind.room A.in1
 dat:κ->D
 key:∀ {K:aA}{F:Hp}{k:κ}{v:V},Rep K F (dat k) v->∃a,v=.ref a/\rel F k a
 back:∀ {K:aA}{F:Hp}{k:κ}{a:BJ},rel F k a->Rep K F (dat k) (.ref a)
theorem yO{K:aA}{F:Hp}:∀k:List Key,RepL K F (k.map kD) (k.map kV)
 |[]=>.nil
 |a::k=>by refine .cons ?_ (yO k);cases a<;>simp only[kD,kV,Rep]
noncomputable def tD(k:List Key):D:=.tup<|k.map kD
noncomputable def hkT(P:AD)(w:AI):HK P w (List Key) where
 kind:=Ai<|eP P w
 rel:=λF k a=>F a=some (.tup<|k.map kV)
 mono:=λs h=>s _ _ h
 ok:=λok h=>mS ok h
 room:=λhu=>Ac<|by omega
 dat:=tD
 key:=λr=>by simp only[tD,Rep] at r;obtain⟨a,ys,rfl,ha,rl⟩:=r;rw[pB rl] at ha;exact⟨a,rfl,ha⟩
 back:=λ{K F k a} h=>by simp only[tD,Rep];exact⟨a,_,rfl,h,yO k⟩
section
variable {P:AD}{w:AI}{κ:Type}[DecidableEq κ](hk:HK P w κ)
abbrev KG(F:Hp):List (κ×V)->List (κ×BJ×BH)->Prop:=Paired λp q=>p.1=q.1/\hk.rel F p.1 q.2.1/\RelV p.2 q.2.2
def TG(K:aA)(F:Hp)(l:BJ)(o:BM)(ks:List κ)(ds:List D):Prop:=
 ks.length=ds.length/\ks.length<=AH/\(l==AV)=false/\ks.Nodup/\∃ (vs:List V) (xs:List (κ×BJ×BH)) (es:Array DictEntry) (ep:Nat),RepL K F ds vs/\KG hk F (ks.zip vs) xs/\o.ExactDict/\o.data=.dict es ep/\es.toList=xs.map (entryOfKey hk.kind)/\(xs.map (·.1)).Nodup
variable {hk}{K:aA}{F F' H:Hp}{l:BJ}{o:BM}{ks:List κ}{ds:List D}
theorem KG.mono{kvs:List (κ×V)}{xs:List (κ×BJ×BH)}(s:Same F F')(r:KG hk F kvs xs):KG hk F' kvs xs:=Paired.mapP r λ_ _ z=>⟨z.1,hk.mono s z.2.1,z.2.2⟩
theorem TG.mono(s:Same F F')(t:TG hk K F l o ks ds):TG hk K F' l o ks ds:=by obtain⟨h1,h2,h3,h4,vs,xs,es,ep,r,g,q⟩:=t;exact⟨h1,h2,h3,h4,vs,xs,es,ep,r.mono s,g.mono s,q⟩
theorem KG.all{h:BL}(ok:HOk P w H h){l:List (κ×V)}{m:List (κ×BJ×BH)}(q:KG hk H l m):∀x∈m,hk.kind.is h x.1 x.2.1:=by
 induction q with
 |nil=>intro x hx;exact nomatch hx
 |@cons p q ps qs hq t ih=>
  intro x hx
  rcases aU.mp hx with e|hx
  ·subst e;exact hk.ok ok (by rw[<-hq.1];exact hq.2.1)
  ·exact ih x hx
theorem KG.val{kvs:List (κ×V)}{xs:List (κ×BJ×BH)}(r:KG hk F kvs xs)(k:κ):RelO (jE kvs k) ((atKey xs k).map (·.2)):=by
 induction r with
 |nil=>exact True.intro
 |@cons p q ps qs h t ih=>
  obtain⟨h1,_,h2⟩:=h
  by_cases e:p.1=k
  ·have e':q.1=k:=h1.symm.trans e;have b:atKey (q::qs) k=some q.2:=by simp[atKey,gL,e']
   rw[kA e,b];exact h2
  ·have e':¬ q.1=k:=λz=>e (h1.trans z)
   have b:atKey (q::qs) k=atKey qs k:=by simp[atKey,gL,e']
   rw[iA e,b];exact ih
theorem KG.new{kvs:List (κ×V)}{xs:List (κ×BJ×BH)}(r:KG hk F kvs xs){k:κ}(hn:jE kvs k=none){b:BJ}{y:V}{u:BH}(hb:hk.rel F k b)(ry:RelV y u):KG hk F (kvs++[(k,y)]) (storedH xs k b u):=by
 have e:atKey xs k=none:=by
  have:=r.val k;rw[hn] at this;cases h:atKey xs k with
  |none=>rfl
  |some z=>rw[h] at this;cases this
 rw[storedH_new e];exact Paired.snoc r ⟨rfl,hb,ry⟩
theorem uM{k:κ}:∀ {ks:List κ}{xs:List V},k∉ks->jE (ks.zip xs) k=none
 |[],_,_=>rfl
 |_::_,[],_=>rfl
 |j::js,x::xs,h=>by rw[dH,iA (p:=(j,x)) (k:=k) (λe=>h<|(show j=k from e)▸aH)];exact uM λz=>h<|aE _ z
theorem aEK:∀ {ks:List κ}{xs:List V}{n:Nat}{k:κ}{x:V},ks.Nodup->ks[n]? =some k->xs[n]? =some x->jE (ks.zip xs) k=some x
 |[],_,n,_,_,_,h,_=>by simp at h
 |_::_,[],n,_,_,_,_,h=>by simp at h
 |j::js,y::ys,0,k,x,nd,h1,h2=>by
  have e1:j=k:=by simpa using h1
  have e2:y=x:=by simpa using h2
  rw[dH,kA e1,e2]
 |j::js,y::ys,n+1,k,x,nd,h1,h2=>by
  obtain⟨nj,nd⟩:=bX.mp nd;have h1:js[n]? =some k:=by simpa using h1
  have h2:ys[n]? =some x:=by simpa using h2
  rw[dH,iA (p:=(j,y)) (k:=k) (λe=>nj<|(show j=k from e)▸bH h1)];exact aEK nd h1 h2
theorem aGb{k:κ}{ks:List κ}{xs:List V}(nd:ks.Nodup)(hl:ks.length=xs.length)(h:k∈ks):(jE (ks.zip xs) k).isSome=true:=by obtain⟨n,hn,rfl⟩:=gX h;rw[aEK (n:=n) (x:=xs[n]'(by omega)) nd (by simp[hn])<|by simp[show n<xs.length by omega]];rfl
theorem TG.dict{h:BL}(ok:HOk P w H h)(s:Same F H)(hl:H l=some (exO l o))(t:TG hk K F l o ks ds):∃ (vs:List V) (xs:List (κ×BJ×BH)),RepL K F ds vs/\KG hk F (ks.zip vs) xs/\h.DictOfH hk.kind l xs/\xs.length<=AH/\(∀k,(atKey xs k).isSome=decide (k∈ks)):=by
 obtain⟨h1,h2,h3,h4,vs,xs,es,ep,r,g,q1,q2,q3,q4⟩:=t;have ho:h.get? l=some o:=(ok l _ hl).1;refine⟨vs,xs,r,g,⟨o,es,ep,ho,q1,q2,q3,KG.all ok<|g.mono s,q4⟩, ?_,λk=> ?_⟩
 ·rw[<-Paired.length g,jT,r.len,<-h1,pH];exact h2
 ·have:=(g.val k).isSome_eq;rw[tM] at this;rw[<-this]
  by_cases e:k∈ks
  ·rw[decide_eq_true e];exact aGb h4 (by rw[r.len,h1]) e
  ·rw[decide_eq_false e,uM e];rfl
end
section
variable {P:AD}{w:AI}{κ:Type}[DecidableEq κ]
def GG(hk:HK P w κ)(K:aA)(l:BJ)(ks:List κ)(ds:List D):V->Hp->Hp->Prop:=λv F H=>v=.ref l/\∃o,H l=some (exO l o)/\TG hk K F l o ks ds
noncomputable def oG(hk:HK P w κ)(K:aA)(l:BJ)(ks:List κ)(ds:List D):Slot:=.ox [l]<|GG hk K l ks ds
variable {hk:HK P w κ}{K:aA}{H₀ F H:Hp}{σ:St}{sd:List Slot}{i:Nat}{l:BJ}{ks:List κ}{ds:List D}{o:BM}
theorem TG.cell(t:TG hk K F l o ks ds):∀v,o.data≠ .cell v:=λv z=>by obtain⟨_,_,_,_,_,_,_,_,_,_,_,q,_⟩:=t;rw[q] at z;cases z
theorem aBV(S:StF K H₀ F H σ sd)(hs:sd[i]? =some (oG hk K l ks ds)):σ[i]? =some (some<|.ref l)/\F l=none/\∃o,H l=some (exO l o)/\TG hk K F l o ks ds:=by
 obtain⟨o,h1,v,h2,h3,h4⟩:=S.slots.get hs;obtain⟨e,ob,a,b⟩:=h4 F H (Same.refl _) λ_ _ _ q=>q
 subst e h2;exact⟨h1,(h3 l<|cQ l).1,ob,a,b⟩
theorem aOo(hF:F l=none)(h1:H l=some (exO l o))(t:TG hk K F l o ks ds):eW K F H (oG hk K l ks ds) (some<|.ref l):=
 ⟨.ref l,rfl,fun a ha=>by
  rw[aF.mp ha]
  exact⟨hF,_,h1,o,rfl,t.cell⟩,λF' H' s k=>⟨rfl,o,k l (cQ l) _ h1,t.mono s⟩⟩
end
section
variable {X:Cx}{sd:List Slot}{e a b c tg iter:Expr}{es:List Expr}{pos:Pos}{d:D}{ds:List D}{κ:Type}[DecidableEq κ]{hk:HK X.prog X.w κ}{ks:List κ}{k:κ}{E:iT}{l:BJ}
theorem aIs(hk:HK X.prog X.w κ)(i:Nat){x:Str}{p p2:Pos}(hN:X.N.Nodup)(hi:X.N[i]? =some x)(hx:Loc X.env.scope x)(hE:∀l,E.nx (sd.set i<|oG hk X.K l [] []))(hs:AX (.Dict [] [] p2) (some<|.Name x p) pos.line X.env=pure false:=by rfl)
  (hf:X.fn x=true\/X.env.scope.names.lookup x=some .local:=by first|exact .inl rfl|exact .inr rfl|assumption):PSd1 X sd (.Assign [.Name x p] (.Dict [] [] p2) pos) E:=.mk λσ F H S=>
 (rB hN hi hx aBZ hs hf).to λq hq hm=>by
  have fp:F q=none:=S.sub.free hq
  have no:q∉cC sd:=λhl=>by obtain⟨_,ob,h,_⟩:=S.slots.owns hl;rw[hq] at h;cases h
  have S1:StF X.K X.B₀ F (upd H q<|exO q aHu) σ sd:=by
   refine⟨S.base,λb u e=> ?_,mY S.smp q,S.slots.mono (Same.refl _) λl hl=> ?_,S.nd⟩
   ·rw[bD<|cE e fp];exact S.sub _ _ e
   ·obtain⟨n,ys,y,_⟩:=S.slots.owns hl;have hne:l≠q:=cE y hq;exact⟨n,λys e=>by rw[bD hne];exact e⟩
  refine⟨_,F,S1.setT i (aOo (hk:=hk) (K:=X.K) (ks:=[]) (ds:=[]) fp bL ⟨rfl,cD _,hm,dA,[],[], #[],0,.nil,.nil,⟨rfl,rfl,rfl⟩,rfl,rfl,dA⟩) (by simp) λa ha=> ?_,Same.refl _,hE q⟩;rw[aF.mp ha];exact no
theorem aIL(i:Nat){x:Str}{p p2:Pos}(hu:X.A.units+2<AM)(hs:sd[i]? =some (oG hk X.K l ks ds))(hx:PE X (.Name x p) (iQ i))(h:PEd X sd e (.val d))(hb:PEd X sd b (.val<|hk.dat k))(hnk:k∉ks)(hl:ds.length<=1000)(hE:E.nx (sd.set i (oG hk X.K l (ks++[k])<|ds++[d])))
  (hsw:AX e (some<|.Subscript (.Name x p) b p2) pos.line X.env=pure false:=by rfl):PSd1 X sd (.Assign [.Subscript (.Name x p) b p2] e pos) E:=.mk λσ F H S pins s I=>by
 refine wpAny_Assign_Subscript (thn (h σ F H S pins s I) λr s1 ⟨v,H1,I1,rv,F1,S1,sF1,q1⟩=> ?_) hsw;obtain⟨h1,_⟩:=aBV S1 hs;refine thn (hx pins s1 σ H1 (λv H2=>v=.ref l/\H2=H1) I1 ⟨.ref l,h1,rfl,rfl⟩) λu s2 ⟨y,H2,I2,ry,e1,e2⟩=> ?_
 subst e1 e2;obtain rfl:u=Value.ref l:=ry;refine thn (hb σ F1 H2 S1 pins s2 I2) λiv s3 ⟨y,H3,I3,ry,F3,S3,sF3,q3⟩=> ?_
 obtain⟨g1,g2,o,g3,t⟩:=aBV S3 hs;obtain⟨ad,rfl,ha⟩:=hk.key q3;obtain rfl:iv=Value.ref ad:=ry;obtain⟨vs,xs,r1,kg,dd,hz,hin⟩:=t.dict I3.hok S3.sub g3;obtain⟨t1,t2,t3,t4,_⟩:=t;refine wpAny_setItem_heap (hsz:=hz) (hk.room hu) (hk.ok I3.hok<|hk.mono S3.sub ha) dd λh' dd' hsm=> ?_
 obtain⟨q,es',ep',hq,u2,u3,u4,_,u5⟩:=dd';have I4:=pV (t':=s3.toks+hk.kind.draws k) I3 (ob:=exO l q) (by rw[g3];exact True.intro) hsm ⟨q,hq⟩<|qZ hq;have lz:ks.length=vs.length:=by rw[t1,r1.len]
 have kg':=kg.new (uM hnk) ha rv;rw[<-tV lz] at kg'
 have t':TG hk X.K F3 l q (ks++[k]) (ds++[d]):=⟨by rw [aP,aP,t1]; rfl,by
  rw[aP,t1];have:=eG hl;show ds.length+1<=AH
  omega,t3,bJ.mpr ⟨t4,by simp,λa ha b hb e=>hnk (by rw[<-aF.mp hb,<-e];exact ha)⟩,vs++[v],_,es',ep',r1.app (.one (Rep.mono sF3 q1)),kg',u2,u3,u4,u5⟩
 refine⟨σ,_,I4,_,F3,S3.reT (z':=oG hk X.K l (ks++[k])<|ds++[d]) hs g1 (λb ob hb q=> ?_) (mY S3.smp l) (aOo g2 bL t') (show[l].Nodup by simp) λa ha=>.inl ha,sF1.trans sF3,hE⟩;rw[bD (show b≠l from λz=>hb<|z▸cQ l)];exact q
structure PDc(X:Cx)(sd:List Slot)(e:Expr){κ:Type}[DecidableEq κ](hk:HK X.prog X.w κ)(ks:List κ)(ds:List D):Prop where
 get:∀ (σ:St) (F H:Hp),StF X.K X.B₀ F H σ sd->wE X e σ H λv H1=>∃F1 l,StF X.K X.B₀ F1 H1 σ sd/\Same F F1/\v=.ref l/\∀F2 H2,StF X.K X.B₀ F2 H2 σ sd->Same F1 F2->∃o,H2 l=some (exO l o)/\TG hk X.K F2 l o ks ds
theorem aNd(i:Nat){x:Str}{p:Pos}(hs:sd[i]? =some (oG hk X.K l ks ds))(hx:PE X (.Name x p) (iQ i)):PDc X sd (.Name x p) hk ks ds:=⟨fun σ F H S=>hx.to (by
 obtain⟨h1,_⟩:=aBV S hs
 exact⟨.ref l,h1,F,l,S,Same.refl _,rfl,λF2 H2 S2 _=>(aBV S2 hs).2.2⟩)⟩
noncomputable def rIn(hk:HK X.prog X.w κ)(f:Bool->Bool):R2:=λx y H Q=>∃ (F:Hp) (ad l:BJ) (o:BM) (k:κ) (ks:List κ) (ds:List D),x=.ref ad/\y=.ref l/\Same F H/\hk.rel F k ad/\H l=some (exO l o)/\TG hk X.K F l o ks ds/\X.A.units+2<AM/\Q (.bl<|f (decide<|k∈ks)) H
theorem aNi:OpR X (AO .NotIn) (rIn hk (!·)):=by intro pins s σ H x y v u Q I rx ry h;obtain⟨F,ad,l,o,k,ks,ds,rfl,rfl,sF,ha,hl,t,hu,q⟩:=h;obtain rfl:v=Value.ref ad:=rx;obtain rfl:u=Value.ref l:=ry;obtain⟨vs,xs,_,_,dd,_,hin⟩:=t.dict I.hok sF hl;refine wpAny_notIn_heap (hk.room hu) (hk.ok I.hok<|hk.mono sF ha) t.2.2.1 dd ⟨.bl<|!decide (k∈ks),H,I.tok _, ?_,q⟩;show Value.bool _=Value.bool _;rw[hin]
theorem aIK(hu:X.A.units+2<AM)(ha:PEd X sd a (.val<|hk.dat k))(hb:PDc X sd b hk ks ds)(hm:AR .NotIn b=false:=by with_unfolding_all rfl):PTd X sd (.Compare a [.NotIn] [b] pos) (!decide (k∈ks)):=.mk λσ F H S=>
 (aBb (aNi (hk:=hk)) eV eV hm).to ((ha σ F H S).imp fun v H1 ⟨F1,S1,s1,q1⟩=>(hb.get σ F1 H1 S1).imp fun u H2 ⟨F2,l,S2,s2,eu,g⟩=>by
  obtain⟨ad,rfl,hr⟩:=hk.key q1;obtain⟨o,g1,g2⟩:=g F2 H2 S2<|Same.refl _
  exact⟨F2,ad,l,o,k,ks,ds,rfl,eu,S2.sub,hk.mono s2 hr,g1,g2,hu,_,rfl,rfl,F2,S2,s1.trans s2⟩)
end
variable {prog:AD}{w:AI}{A:BK}{E:BH->BI->Prop}{s:BI}{d it:BJ}{od:BM}{es:Array DictEntry}{ep i:Nat}
theorem sL(g:s.heap.get? d=some od)(c:od.ExactDict):s.TypeIs (.ref d) "dict":=⟨od,g,c.1⟩
theorem aIu{Q:BH->BI->Prop}(sm:(d==AV)=false)(g:s.heap.get? d=some od)(c:od.ExactDict)(e:od.data=.dict es ep)
  (q:Q (.ref s.heap.objs.size) {s with heap:=s.heap.push {cls:=.type "dict_keyiterator",data:=.fields #[.ref d,.int 0 0,.int es.size 0,.int ep 0]}}):AE (AF prog w) A (pyIter<|.ref d) Q E s:=by
 have ty:=sL g c;refine wpAny_pyIter_slot ty F.slot_dict_iter (AQ F.slot_dict_iter ty F.entry_dict_iter (AA ?_)<|F.args_dict_iter_1 _);unfold Builtin.Dict.dictSlotNone;refine AA<|Ay ty (AB (a:=Value.ref d)<|AA (m:=Builtin.Dict.showsAll d) ?_);unfold Builtin.Dict.showsAll;rw[sm,if_neg bO];exact AB<|AA (Al g e<|AA (wpAny_dictEpoch g e<|AA (AK<|AB ⟨_,rfl,"dict_keyiterator",_,⟨_,aS _ rfl,rfl⟩,F.slot_dict_keyiterator_next.lookup,q⟩)))
theorem aHa{Q:Option BH->BI->Prop}(ki:s.heap.IsKeyIter it d i es.size ep)(g:s.heap.get? d=some od)(e:od.data=.dict es ep)(hi:i<es.size)
  (q:∀h',h'.IsKeyIter it d (i+1) es.size ep->Heap.SameBut it s.heap h'->Q (some es[i].key) {s with heap:=h'}):AE (AF prog w) A (pyNext<|.ref it) Q E s:=by
 have ty:=ki.typeIs;obtain⟨o,g1,c1,f1⟩:=ki;unfold pyNext;refine AA (BF<|AS (name:=Str.ofString "__next__") ty F.slot_dict_keyiterator_next (AQ F.slot_dict_keyiterator_next ty F.entry_dict_keyiterator_next (AA<|AB (AA<|AA ?_))<|F.args_dict_keyiterator_next_1 _));refine AA (Ak ty<|AB (AA<|wpAny_fieldsOf g1 f1 ?_));rw[if_neg<|by decide];show AE _ _ (ite ((Value.ref d==Value.none)=true) _ _) _ _ _;rw[if_neg (c:=(Value.ref d==Value.none)=true) λz=>by cases z];refine AA<|AB (AA<|Al g e ?_);rw[if_neg<|by simp];refine AA<|AB (AA<|wpAny_dictEpoch g e ?_);rw[if_neg<|by simp];refine AB ?_;have ix:(if(i:Int)<0 then none else es[(i:Int).toNat]?)=some es[i]:=by rw[if_neg<|by omega,cF,Array.getElem?_eq_getElem hi]
 simp only[ix]
 have up:(s.heap.update it (Obj.mapFields (·.setIfInBounds 1 (Aq<|(i:Int)+1)))).IsKeyIter it d (i+1) es.size ep:=
  ⟨_,cX _ g1 (Obj.isFreed_of_fields<|Obj.data_mapFields f1 _),(Obj.cls_mapFields ..).trans c1,by rw[Obj.data_mapFields f1];simp[Aq]⟩
 refine AA<|AA (Ak ty<|AB (AA<|wpAny_isOneOf_keyiter ty (AA<|Ap g1 f1 (show(0:Nat)+1<4 by decide) (AA<|AT ?_))));refine AA<|wpAny_isOneOf_keyiter up.typeIs ?_;exact AB<|AB ⟨_,rfl,AB (q _ up<|Heap.SameBut.update ..)⟩
theorem aJf{Q:Option BH->BI->Prop}{hp:BL}(hh:A.handled=none)(sb:Heap.ExtBut it s.heap hp)(q:∀h',Heap.ExtBut it s.heap h'->Q none {s with heap:=h'}):
  AE (AF prog w) A.in1 (newExc (.type "StopIteration") []>>=fun x=>(raiseNew x:Sem Fin)) (fun fin s'=>∃v,fin=Fin.done (Flow.ret v)∧AE (AF prog w) A (pure (some v)) Q E s') (fun e s'=>AE (AF prog w) A (do
   let b <-isInstance e (Value.type "StopIteration")
   if b=true then pure none else throw e) Q E s') {s with heap:=hp}:=by
 refine AA ?_;simp only[newExc,newTuple];refine AA (AK (AA (m:=BD _ _)<|Ao (a:=Value.none) (by first|rfl|(simp only[BD];rfl)) (AK ?_<|by size_fits))<|by size_fits);simp only[raiseNew];refine AA<|wpAny_handled ?_;rw[show A.in1.handled=none from hh];refine AA (AB<|wpAny_throw ?_);refine AA<|Aw (T:="StopIteration") (b:=true) ⟨_,aS _ rfl,rfl⟩ isSubtype_stop ?_;exact AB (q _<|(sb.push _).push _)
theorem aJq{Q:Option BH->BI->Prop}(hh:A.handled=none)(ki:s.heap.IsKeyIter it d i es.size ep)(g:s.heap.get? d=some od)(e:od.data=.dict es ep)(hi:es.size<=i)
  (q:∀h',Heap.ExtBut it s.heap h'->Q none {s with heap:=h'}):AE (AF prog w) A (pyNext<|.ref it) Q E s:=by
 have ty:=ki.typeIs;obtain⟨o,g1,c1,f1⟩:=ki;unfold pyNext;refine AA (BF<|AS (name:=Str.ofString "__next__") ty F.slot_dict_keyiterator_next (AQ F.slot_dict_keyiterator_next ty F.entry_dict_keyiterator_next (AA<|AB (AA<|AA ?_))<|F.args_dict_keyiterator_next_1 _));refine AA (Ak ty<|AB (AA<|wpAny_fieldsOf g1 f1 ?_));rw[if_neg<|by decide];show AE _ _ (ite ((Value.ref d==Value.none)=true) _ _) _ _ _;rw[if_neg (c:=(Value.ref d==Value.none)=true) λz=>by cases z];refine AA<|AB (AA<|Al g e ?_);rw[if_neg<|by simp];refine AA<|AB (AA<|wpAny_dictEpoch g e ?_);rw[if_neg<|by simp];refine AB ?_;have ix:(if(i:Int)<0 then none else es[(i:Int).toNat]?)=none:=by rw[if_neg<|by omega,cF,Array.getElem?_eq_none hi]
 simp only[ix];refine AA<|AA (Ak ty<|AB (AA<|Ap g1 f1 (show(0:Nat)<4 by decide) ?_));exact aJf hh (Heap.SameBut.update ..).extBut q
theorem aCX(sm:(d==AV)=false):MeetsIn prog w (Builtin.«dict.__len__» ⟨[.ref d],[]⟩) (λ_ R s=>∃ (od:BM) (es:Array DictEntry) (ep:Nat),s.heap.get? d=some od/\od.ExactDict/\od.data=.dict es ep/\R (.ok (.ret<|.int es.size s.toks)) {s with toks:=s.toks+1}):=
 .of_wp λA R s ⟨od,es,ep,g,c,e,q⟩=>by refine AA (m:=Builtin.Dict.dictSlotNone "__len__" ⟨[.ref d],[]⟩) ?_;unfold Builtin.Dict.dictSlotNone;refine AA<|Ay (sL g c) (AB (a:=Value.ref d)<|AA (AB<|AA (m:=dictSize d) ?_));unfold dictSize;exact AA (Al g e<|AB (AA<|wpAny_pendingCount_other sm (wpAny_ret_mkInt<|by rw[show((es.size:Nat):Int)+((0:Nat):Int)=(es.size:Int) from Int.add_zero _];exact q)))
theorem aGV{Q:BH->BI->Prop}(sm:(d==AV)=false)(g:s.heap.get? d=some od)(c:od.ExactDict)(e:od.data=.dict es ep)(fit:es.size<=AH)(q:∀t t2,Q (.int es.size t) {s with toks:=t2}):AE (AF prog w) A (call (.builtin "len") [.ref d]) Q E s:=by
 have lim:AH=16777216:=AU;have ty:=sL g c;refine Calls.call_function_entry kind_len plain_len entry_len (args_len1 _) ?_;refine AA (m:=oneArg "len" _) (AB<|AA (m:=callSpecial? (.ref d)<|Str.ofString "__len__") (AS (name:=Str.ofString "__len__") ty F.slot_dict_len<|call_meetsIn F.slot_dict_len ty F.entry_dict_len (F.args_dict_len_1 _) (aCX sm) ⟨od,es,ep,g,c,e, ?_⟩));refine AA (AT<|AB (AA<|wpAny_letGo ?_));refine Aj (λz=>by omega) λ_=>Aj (λz=>by omega) λ_=> ?_
 exact AA (wpAny_mkInt<|AB ⟨_,rfl,q _ _⟩)
section
variable {X:Cx}{sd:List Slot}{e:Expr}{pos:Pos}{d:D}{ds:List D}{κ:Type}[DecidableEq κ]{hk:HK X.prog X.w κ}{ks:List κ}
theorem aGx:mG X (.builtin "len") (λxs H Q=>∃ (l:BJ) (o:BM) (es:Array DictEntry) (ep:Nat),xs=[.ref l]/\H l=some (exO l o)/\o.ExactDict/\o.data=.dict es ep/\(l==AV)=false/\es.size<=AH/\Q (.int es.size) H):=by intro pins s σ H xs us Q I r h;obtain⟨l,o,es,ep,rfl,hl,c,e,sm,fit,q⟩:=h;obtain⟨u,rfl,rx⟩:=mL r;cases(show u=Value.ref l from rx);exact aGV sm (I.hok l _ hl).1 c e fit λt t2=>⟨.int es.size,H,I.tok _,⟨_,rfl⟩,q⟩
end
variable {H₀ F' H':Hp}{l:BJ}{p:Int}{L:Int->List D}{ls:List BJ}{kvs:List (Key×V)}
theorem InD.erase:∀ {as:List BJ}{dss:List (List D)} (n:Nat),InD K F H as dss->InD K F H (as.eraseIdx n) (dss.eraseIdx n)
 |[],[],n,h=>by simp;exact h
 |[],_::_,_,h=>h.elim
 |_::_,[],_,h=>h.elim
 |a::as,ds::dss,0,h=>h.2
 |a::as,ds::dss,n+1,h=>⟨h.1,InD.erase n h.2⟩
theorem nA{α β:Type}(f:α->β):∀ (l:List α) (n:Nat),(l.map f).eraseIdx n=(l.eraseIdx n).map f
 |[],_=>by simp
 |_::_,0=>rfl
 |a::l,n+1=>by show f a::(l.map f).eraseIdx n=f a::(l.eraseIdx n).map f;rw[nA f l n]
namespace S45
variable {T:Type}[DecidableEq T](n:Nat)(pr:Nat->Int)(beh:Nat->T->T)(t0:T)
noncomputable abbrev Ent(T:Type):=Int×List Nat×T
noncomputable def tabQ(row:List Nat):T:=row.foldl (λt k=>beh k t) t0
noncomputable def prQ(row:List Nat):Int:=(row.map pr).sum
theorem tab_snoc(row:List Nat)(k:Nat):tabQ beh t0 (row++[k])=beh k (tabQ beh t0 row):=by unfold tabQ;rw[eB];rfl
theorem pr_snoc(row:List Nat)(k:Nat):prQ pr (row++[k])=prQ pr row+pr k:=by unfold prQ;rw[aZ,yW];simp
variable {n pr beh t0}
variable (n pr beh)
variable {n pr beh}
end S45
end DL
namespace DL
open PySem PySem.Spec PyProof.Rows L2
variable {p:Int×Int}{L:List SK}
noncomputable def jS(p:Int×Int)(q:SQ):List Nat:=(bT p).map λws=>xP p<|onQ p q ws
noncomputable def jF(other one:List Nat):List Nat:=one.map λi=>other.getD i 0
noncomputable def jR(p:Int×Int)(nb:List Nat):List (List Int):=nb.map λi=>(bT p).getD i []
noncomputable def qH(p:Int×Int)(L:List SK)(k:Nat)(t:List (List Int)):List (List Int):=t.map<|onQ p (L.getD k AG).1
noncomputable def prK(L:List SK)(k:Nat):Int:=(L.getD k AG).2
noncomputable def mvD(p:Int×Int)(s:SK):D:=.tup [.int s.2,.tup (bG<|jS p s.1)]
def NOk(p:Int×Int)(nb:List Nat):Prop:=nb.length=(bT p).length/\∀i∈nb,i<(bT p).length
theorem aNa(p:Int×Int)(q:SQ):(jS p q).length=(bT p).length:=by unfold jS;rw[aB]
theorem aKc(q:SQ){i:Nat}(hi:i<(bT p).length):(jS p q).getD i 0=xP p (onQ p q<|(bT p).getD i []):=by unfold jS;simp[bF,hi]
theorem aOe(hp:p∈bU){i:Nat}(hi:i<(bT p).length):Fil p ((bT p).getD i []):=hW hp<|getD_mem hi
theorem aPi(hp:p∈bU){q:SQ}(O:SqOk p q){i:Nat}(hi:i<(bT p).length):(jS p q).getD i 0<(bT p).length:=by rw[aKc q hi];exact(aEl hp (vL O<|aOe hp hi)).2.1
theorem aMI(hp:p∈bU){q:SQ}(O:SqOk p q){nb:List Nat}(h:NOk p nb):NOk p (jF (jS p q) nb):=by refine⟨by unfold jF;rw[aB];exact h.1,λi hi=> ?_⟩;obtain⟨j,hj,rfl⟩:=aJ.mp hi;exact aPi hp O<|h.2 j hj
theorem aJz(hp:p∈bU){q:SQ}(O:SqOk p q){nb:List Nat}(h:NOk p nb):jR p (jF (jS p q) nb)=(jR p nb).map (onQ p q):=by
 unfold jR jF;rw[aN,aN];refine bQ λi hi=> ?_
 show(bT p).getD ((jS p q).getD i 0) []=onQ p q ((bT p).getD i []);rw[aKc q<|h.2 i hi];exact(aEl hp<|vL O (aOe hp<|h.2 i hi)).2.2
theorem aII(hp:p∈bU){a b:List Nat}(ha:NOk p a)(hb:NOk p b)(h:jR p a=jR p b):a=b:=by
 refine gZ (ha.1.trans hb.1.symm) λi h1 h2=> ?_
 have e:(jR p a)[i]'(by unfold jR;rw[aB];exact h1)=(jR p b)[i]'(by unfold jR;rw[aB];exact h2):=by simp only[h]
 unfold jR at e;rw[fQ,fQ] at e;rw[<-aKE hp (ha.2 _<|fP h1),<-aKE hp (hb.2 _<|fP h2),e]
noncomputable def st0(p:Int×Int):List Nat:=aW (bT p).length
theorem aPJ(p:Int×Int):NOk p (st0 p):=⟨by unfold st0;rw[dE],λi hi=>bE.mp hi⟩
theorem aEX(p:Int×Int):jR p (st0 p)=bT p:=by
 unfold jR st0;refine gZ (by simp) λi h1 h2=> ?_
 rw[fQ,tK];simp[bF,h2]
noncomputable def nrQ(p:Int×Int)(L:List SK)(row:List Nat):List Nat:=row.foldl (λnb k=>jF (jS p (L.getD k AG).1) nb)<|st0 p
theorem aBv(row:List Nat)(k:Nat):nrQ p L (row++[k])=jF (jS p (L.getD k AG).1) (nrQ p L row):=by unfold nrQ;rw[eB];rfl
theorem aDR(hp:p∈bU)(S:∀s∈L,SqOk p s.1):∀ {row:List Nat},RowOk L row->NOk p (nrQ p L row)/\jR p (nrQ p L row)=S45.tabQ (qH p L) (bT p) row:=λ{row}=>by
 have g:∀ (row:List Nat) (nb:List Nat) (t:List (List Int)),NOk p nb->jR p nb=t->RowOk L row->NOk p (row.foldl (λnb k=>jF (jS p (L.getD k AG).1) nb) nb)/\jR p (row.foldl (λnb k=>jF (jS p (L.getD k AG).1) nb) nb)=row.foldl (λt k=>qH p L k t) t:=λrow=>by
  induction row with
  |nil=>exact λnb t h1 h2 _=>⟨h1,h2⟩
  |cons k row ih=>
   intro nb t h1 h2 h3;have O:SqOk p (L.getD k AG).1:=S _ (DL.getD_mem<|h3 k aH);refine ih _ _ (aMI hp O h1) ?_ λj hj=>h3 j<|aE _ hj
   rw[aJz hp O h1,h2];rfl
 exact λh=>g row (st0 p) (bT p) (aPJ p) (aEX p) h
open Classical in
noncomputable def xI(L:List SK)(d:D):SK:=if h:∃s,s∈L/\skD s=d then h.choose else AG
theorem xJ(nd:(L.map λs=>sqD s.1).Nodup){s:SK}(h:s∈L):xI L (skD s)=s:=by
 have ex:∃z,z∈L/\skD z=skD s:=⟨s,h,rfl⟩;unfold xI;rw[dif_pos ex];obtain⟨h1,h2⟩:=ex.choose_spec;generalize ex.choose=z at h1 h2;obtain⟨i,hi,ez⟩:=gX h1;obtain⟨j,hj,es⟩:=gX h
 have e:sqD z.1=sqD s.1:=by
  have h2:D.tup [sqD z.1,.int z.2]=D.tup [sqD s.1,.int s.2]:=h2;injection h2 with h2
  exact(aDJ.inj h2).1
 have:i=j:=(kZ (i:=i) (j:=j) (h₀:=by rw[aB];exact hi) (h₁:=by rw[aB];exact hj) nd).mp (by rw[fQ,fQ,ez,es,e]);subst this;exact ez.symm.trans es
def aSG:List D->R->Prop:=λds r=>∃p q,p∈bU/\SqOk p q/\ds=[bW p,sqD q]/\r=.val (.tup (bG<|jS p q))
def aKu:List D->R->Prop:=λds r=>∃p L,p∈bU/\StkOk p L/\(L.map λs=>sqD s.1).Nodup/\ds=[bW p,.lst<|L.map skD]/\r=.own (L.map<|mvD p)
def aNW:List D->R->Prop:=λds r=>∃one other:List Nat,one.length<=100/\(∀i∈one,i<other.length)/\ds=[.tup<|bG one,.tup<|bG other]/\r=.val (.tup (bG<|jF other one))
def aKp:List D->R->Prop:=λds r=>∃ (B:List (List Int)) (nb:List Nat),nb.length<=100/\(∀i∈nb,i<B.length)/\ds=[.lst<|B.map bN,.tup<|bG nb]/\r=.val (.tup<|(nb.map λi=>B.getD i []).map bN)
section
variable {X:Cx}{sd:List Slot}{a b:Expr}{pos:Pos}{ds:List D}{κ:Type}[DecidableEq κ]{hk:HK X.prog X.w κ}{ks:List κ}{k:κ}{kk:Bool}
theorem aIE(h:kk=true↔k∈ks):decide (k∈ks)=kk:=by
 cases kk with
 |true=>exact decide_eq_true<|h.mp rfl
 |false=>exact decide_eq_false λz=>by cases h.mpr z
theorem aJu(h:kk=true↔k∈ks)(hu:X.A.units+2<AM)(ha:PEd X sd a (.val<|hk.dat k))(hb:PDc X sd b hk ks ds)(hm:AR .NotIn b=false:=by with_unfolding_all rfl):PTd X sd (.Compare a [.NotIn] [b] pos) (!kk):=PTd.cast (aIK hu ha hb hm) (by rw[aIE h])
end
noncomputable abbrev Bk:=S45.Ent (List<|List Int)
noncomputable def enD(e:Bk):D:=.tup [.int e.1,.tup<|bG e.2.1,.tup<|e.2.2.map bN]
noncomputable def mR(nb:List Nat):List Key:=nb.map λ(i:Nat)=>(Sum.inl (i:Int):Key)
theorem aKP(nb:List Nat):tD (mR nb)=.tup (bG nb):=by unfold tD mR bG;rw[aN];rfl
theorem aCL:∀ {a b:List Nat},mR a=mR b->a=b
 |[],[],_=>rfl
 |[],_::_,h=>by cases h
 |_::_,[],h=>by cases h
 |x::a,y::b,h=>by
  have h:(Sum.inl (x:Int):Key)::mR a=(Sum.inl (y:Int):Key)::mR b:=h;injection h with h1 h2
  have:=Sum.inl.inj h1;rw[aCL h2];congr 1;omega
theorem oS(L:List SK)(row:List Nat):xU (sG L row)=S45.prQ (prK L) row:=by
 unfold S45.prQ sG prK;generalize row.map (λt=>(L.getD t AG).2)=xs
 have g:∀n:Nat,xU (xs.take n)=(xs.take n).sum:=λn=>by
  induction n with
  |zero=>rfl
  |succ n ih=>
   by_cases h:n<xs.length
   ·rw[uC 0 h,aGi,ih,yW];simp
   ·have e:xs.take (n+1)=xs.take n:=by rw[gA<|by omega,gA<|by omega]
    rw[e,ih]
 have:=g xs.length;rw[dW] at this;exact this
variable {prog:AD}{w:AI}{A:BK}{E:BH->BI->Prop}{s:BI}{r:BJ}{n:Nat}{t u v:Tok}
theorem aAB{Q:List BH->BI->Prop}(hh:A.handled=none)(ir:IsRange s.heap r 0 (n:Int) 1 t u v)(hn:n<=1000)
  (q:∀ (h':BL) (tk:Nat) (acc:Array BH),(∀b o,s.heap.get? b=some o->h'.get? b=some o)->ItemsOf (λi v=>∃t,v=.int (0+i*1) t) acc n->Q acc.toList {s with heap:=h',toks:=tk}):AE (AF prog w) A (collect<|.ref r) Q E s:=by
 have sz:Builtin.Range.rangeSize 0 (n:Int) 1=(n:Int):=by
  rw[rangeSize_one]
  split<;>omega
 have fin:∀ (h':BL) (tk:Nat) (acc:Array BH) (c':Nat),(∀b o,s.heap.get? b=some o→h'.get? b=some o)→h'.get? s.heap.objs.size=some {cls:= .type "list",dict:=none,data:= .seq acc c',slots:= #[]}→ItemsOf (fun i v=>∃t,v= .int (0+i * 1) t) acc n→AE (AF prog w) A (do
   let o <-load s.heap.objs.size
   match o.data with
   |.seq xs _=>pure xs.toList
   |_=>unsupported "internal:collect") Q E {s with heap:=h',toks:=tk}:=λh' tk acc c' k1 k2 k3=>AA (wpAny_load k2 (AB (q h' tk acc k1 k3)))
 have new:(s.heap.push {cls:=.type "list",data:=.seq ([]:List BH).toArray}).get? s.heap.objs.size=some {cls:=.type "list",data:=.seq #[]}:=aS _ rfl;have main:=wpAny_extend_range (prog:=prog) (w:=w) (A:=A) (s:={s with heap:=s.heap.push {cls:=.type "list",data:=.seq ([]:List BH).toArray}}) (R:=λ(x:Result) (st:BI)=>∃ (h':BL) (tk:Nat) (acc:Array BH) (c':Nat),x=.ok (.ret<|.ref s.heap.objs.size)/\st={s with heap:=h',toks:=tk}/\(∀b o,s.heap.get? b=some o->h'.get? b=some o)/\h'.get? s.heap.objs.size=some {cls:=.type "list",dict:=none,data:=.seq acc c',slots:= #[]}/\ItemsOf (λi v=>∃t,v=.int (0+i*1) t) acc n) hh (aD _ ir) (small_one (by omega) (by omega) (by omega)<|by omega) sz (by omega) s.heap.objs.size (.ref s.heap.objs.size) 0 new λh' tk acc c' k1 k2 k3=>⟨h',tk,acc,c',rfl,rfl,λb o g=>k1 b o (bM<|aO g)<|aD _ g,k2,k3⟩
 unfold collect;refine AA (wpAny_runValue<|Aa entry_proto_collect' ?_);rw[Around.under_plainId PySem.F.plain_proto_collect _];refine AA (m:=newList []) (AK<|AB ⟨Av aAF _,Aa entry_list_iadd' ?_⟩);rw[Around.under_plainId aAF _];refine Af main (λz st x=> ?_) λz st x=> ?_
 ·cases z with
  |done f=>obtain⟨h',tk,acc,c',e,rfl,k1,k2,k3⟩:=x;cases e;exact fin h' tk acc c' k1 k2 k3
  |again c1=>refine⟨x.1,Ah x.2 λy st y2=> ?_⟩;obtain⟨h',tk,acc,c',rfl,rfl,k1,k2,k3⟩:=y2;exact fin h' tk acc c' k1 k2 k3
 ·obtain⟨_,_,_,_,e,_⟩:=x;cases e
theorem aAz(r:BJ)(n:Nat)(t u v:Tok)(hn:n<=1000):Meets (Builtin.«tuple.__new__» ⟨[.type "tuple",.ref r],[]⟩) (λA R s=>A.handled=none/\IsRange s.heap r 0 (n:Int) 1 t u v/\∀ (h':BL) (tk:Nat) (acc:Array BH),(∀b o,s.heap.get? b=some o->h'.get? b=some o)->ItemsOf (λi v=>∃t,v=.int (0+i*1) t) acc n->R (.ok (.ret<|.ref h'.objs.size)) {s with heap:=h'.push {cls:=.type "tuple",data:=.seq acc},toks:=tk}):=
 .of_wp λprog w A R s h=>by
  obtain⟨hp,gn,dr,tk,os⟩:=s;obtain⟨hh,ir,q⟩:=h;have a1:=sub_tuple_self;have a2:=init_tuple_lookup;have a3:=madeHere_tuple;have ty:Shared.TypeIs ⟨hp,gn,dr,tk,os⟩ (.ref r) "range":=⟨_,ir,rfl⟩;have hh1:A.in1.handled=none:=hh
  wp_walk using AutoSeq1.wpAny_loadPart' ir,wpAny_typeOf ty,aAB (s:=⟨hp,gn,dr,tk,os⟩) hh1 ir hn
  intro h' tk' acc k1 k2;refine AA (m:=Builtin.Tuple.tupleExact acc.toList.toArray) ?_;unfold Builtin.Tuple.tupleExact;have e:acc.toList.toArray=acc:=by simp
  rw[e];exact AK (AB ⟨_,rfl,q h' tk' acc k1 k2⟩) (show acc.size<=AH by rw[k2.1];exact dL<|eG hn)
theorem zH{Q:BH->BI->Prop}(hh:A.handled=none)(ir:IsRange s.heap r 0 (n:Int) 1 t u v)(hn:n<=1000)
  (q:∀ (h':BL) (tk:Nat) (acc:Array BH),(∀b o,s.heap.get? b=some o->h'.get? b=some o)->ItemsOf (λi v=>∃t,v=.int (0+i*1) t) acc n->Q (.ref h'.objs.size) {s with heap:=h'.push {cls:=.type "tuple",data:=.seq acc},toks:=tk}):AE (AF prog w) A (call (.type "tuple") [.ref r]) Q E s:=
 callType_new F.called_tuple (by decide) (F.typeCall_tuple_1 _) (F.newCall_tuple_1 _) (λobj=>F.args_object_init_2 obj _) F.entry_tuple_new (aAz r n t u v hn) ⟨hh,ir,λh' tk acc k1 k2=>⟨⟨_,aS _ rfl,rfl⟩,q h' tk acc k1 k2⟩⟩
variable {X:Cx}{sd:List Slot}{e:Expr}{pos:Pos}
theorem aBD{p p2 q2:Pos}(hg:Gl X "tuple")(hm:X.mg "tuple"=none)(hg2:Gl X "range")(hm2:X.mg "range"=none)(ha:PEd X sd e (.val<|.int (n:Int)))(h1:n<=1000)
  (hc:X.calm=true:=by rfl) (hst:AC [e] X.env=(false,eval e X.env)::AC [] X.env:=by rfl) (hst2:AC [.Call (.Name "range" p2) [e] [] q2] X.env=(false,eval (.Call (.Name "range" p2) [e] [] q2) X.env)::AC [] X.env:=by rfl):
  PEd X sd (.Call (.Name "tuple" p) [.Call (.Name "range" p2) [e] [] q2] [] pos) (.val<|.tup (bG<|aW n)):=.mk λσ F H S pins s I=>by
 refine AJ (hX I hg hm PyProof.Rows.boot_tuple<|PyProof.Rows.callWith_type1 ?_ hst2 rfl);rw[hst2];refine Calls.spliced_cons (AJ<|hX I hg2 hm2 boot_range ?_);refine PyProof.Rows.callWith_type1 (thn ((dP (te:=wE X e) eV pa_nil hst) q2 pins s σ H (λus H1=>∃v F1,us=[v]/\StF X.K X.B₀ F1 H1 σ sd/\Same F F1/\ResOk X.K F1 H1 sd (.val<|.int (n:Int)) v) I<|(ha σ F H S).imp λv H1 ⟨F1,S1,s1,q1⟩=>⟨v,F1,rfl,S1,s1,q1⟩) λus s1 hus=> ?_) hst rfl;obtain⟨ws,H1,I1,rv,v,F1,rfl,S1,sF,q1⟩:=hus;obtain⟨u,rfl,ru⟩:=mL rv;simp only[ResOk,Rep] at q1;subst q1;obtain⟨t,rfl⟩:=ru;refine call_range_1<|Calls.spliced_nil ?_;refine zH (I1.ok.hd hc) (IsRange.new ..) h1 λh' tk acc kp it=> ?_
 have kp2:∀b o,s1.heap.get? b=some o->h'.get? b=some o:=λb o g=>kp b o<|aD _ g
 have le:s1.heap.objs.size<=h'.objs.size:=dL<|aO (kp s1.heap.objs.size _<|aS _ rfl);have hD:H1 h'.objs.size=none:=I1.hok.fresh le;have ln:acc.toList.length=n:=by rw[cZ];exact it.1
 have vl:Vals ((aW n).map λ(k:Nat)=>V.int (k:Int)) acc.toList:=by
  have g:∀ (l:List BH) (f:Nat->Int),(∀ (j:Nat) (v:BH),l[j]? =some v->∃t,v=.int (f j) t)->Vals ((aW l.length).map λ(k:Nat)=>V.int<|f k) l:=λl=>by
   induction l with
   |nil=>intro f _;exact .nil
   |cons x l ih=>intro f h;obtain⟨t,e⟩:=h 0 x rfl;rw[bP,aDI,aV,aN];exact .cons ⟨t,e⟩ (ih (λk=>f<|k+1) λj v hv=>h (j+1) v<|by simpa using hv)
  have:=g acc.toList (λk=>(k:Int)) λj v hv=>by obtain⟨t,e⟩:=it.2 j v (by rw[<-eM];exact hv);exact⟨t,by rw[e];congr 1;omega⟩
  rw[ln] at this;exact this
 have I3:Inv X pins σ (upd H1 h'.objs.size (.tup<|(aW n).map λ(k:Nat)=>V.int (k:Int))) {s1 with heap:=h'.push {cls:=.type "tuple",data:=.seq acc},toks:=tk}:=
  I1.laid (λb o g=>aD _<|kp2 b o g) le ⟨by rw[aB,dE];exact dL<|eG h1,acc.toList,vl,by simpa using IsTupD.new h' acc⟩
 obtain⟨S4,s4⟩:=S1.lay (o:=.tup<|(aW n).map λ(k:Nat)=>V.int (k:Int)) hD trivial;refine⟨.ref h'.objs.size,_,I3,rfl,_,S4,sF.trans s4, ?_⟩;simp only[ResOk,Rep];refine⟨_,_,rfl,bL, ?_⟩
 have gg:∀ks:List Nat,RepL X.K (upd F1 h'.objs.size (.tup<|(aW n).map λ(k:Nat)=>V.int (k:Int))) (ks.map λ(k:Nat)=>D.int (k:Int)) (ks.map λ(k:Nat)=>V.int (k:Int)):=λks=>by
  induction ks with
  |nil=>exact .nil
  |cons k ks ih=>exact .cons (by simp only[Rep]) ih
 exact gg _
theorem aCo{α:Type}{f:α->D}{L:List α}{t:Nat}{d:D}(h:(L.map f)[t]? =some d):∃x,L[t]? =some x/\d=f x/\L.take (t+1)=L.take t++[x]:=by rw[aY] at h;obtain⟨x,h1,h2⟩:=eE.mp h;exact⟨x,h1,h2.symm,by rw[eK,h1];rfl⟩
namespace S45
end S45
theorem StkOk.pr(S:StkOk p L):∀k,k<L.length->1<=prK L k:=λk hk=>(S.st _<|DL.getD_mem (d:=(AG:SK)) hk).2.1
theorem aIh(hp:p∈bU)(S:StkOk p L){row:List Nat}(h:RowOk L row):∀ws∈S45.tabQ (qH p L) (bT p) row,ws∈bT p:=λws hw=>by obtain⟨q1,q2⟩:=aDR hp (λs hs=>(S.st s hs).1) h;rw[<-q2] at hw;obtain⟨i,hi,rfl⟩:=aJ.mp hw;exact DL.getD_mem<|q1.2 i hi
end DL
namespace L2
open PySem PySem.Spec PyProof.Rows
end L2
namespace DL
open PySem PySem.Spec PyProof.Rows L2
section
variable {prog:AD}{w:AI}{K:Type}[DecidableEq K]{knd:HeapKind prog w K}{A:BK}{E:BH->BI->Prop}{s:BI}
theorem aAu{d a:BJ}{xs:List (K×BJ×BH)}{k:K}{j:Nat}{p:BJ×BH}{Q:Option DictEntry->BI->Prop}(hu:knd.room A)(hkey:knd.is s.heap k a)(hm:s.heap.DictOfH knd d xs)(hj:xs[j]? =some (k,p))
  (hQ:∀h',h'.DictOfH knd d (xs.eraseIdx j)->Heap.SameBut d s.heap h'->Q (some<|entryOfKey knd (k,p)) {s with heap:=h',toks:=s.toks+knd.draws k})
  (hsz:xs.length<=AH):
  AE (AF prog w) A (Builtin.Dict.takeOut d<|.ref a) Q E s:=by
 obtain⟨o,es,ep,ho,hc,hd,he,his,hn⟩:=hm;have hes:es.size<=AH:=by have e:=Ax he;omega
 unfold Builtin.Dict.takeOut
 try with_reducible refine AT ?_
 refine AA<|knd.pyHash hu hkey ?_;refine AA<|wpAny_dictFind_heap (s:={s with toks:=s.toks+knd.draws k}) hu hkey ho hd he his hn (λno=>absurd hj<|no j p) λj' p' hj'=> ?_
 have ej:j'=j:=by obtain⟨i1,e1⟩:=aI.mp hj';obtain⟨i2,e2⟩:=aI.mp hj;refine(kZ (i:=j') (j:=j) (h₀:=by rw[aB];exact i1) (h₁:=by rw[aB];exact i2) hn).mp ?_;rw[fQ,fQ,e1,e2]
 subst ej;rw[hj] at hj';cases hj';refine AA<|Al (s:={s with toks:=s.toks+knd.draws k}) ho hd ?_;rw[entry_at he j',hj];refine AA (wpAny_updateDictKeys (hz:=hes) (s:={s with toks:=s.toks+knd.draws k}) ho hd<|AB (hQ _ ⟨_,_,ep+1,cX _ ho (Obj.isFreed_of_dict<|Obj.data_mapDictKeys hd _),hc.mapDictKeys _,Obj.data_mapDictKeys hd _, ?_,λx hx=> ?_, ?_⟩<|Heap.SameBut.update ..))
 ·have:(es.eraseIdxIfInBounds j').toList=es.toList.eraseIdx j':=by obtain⟨l⟩:=es;simp
  rw[this,he,nA]
 ·exact knd.keeps (his x<|jQ hx) ho hd<|Heap.SameBut.update ..
 ·exact hn.sublist<|(qB _ _).map _
end
section
variable {prog:AD}{w:AI}{K:Type}[DecidableEq K](knd:HeapKind prog w K)(d a:BJ)
theorem aDd:
  MeetsIn prog w (Builtin.«dict.pop» ⟨[.ref d, .ref a],[]⟩) (fun A R s=>knd.room A.in1∧∃k xs j p,knd.is s.heap k a∧s.heap.DictOfH knd d xs∧xs.length≤AH∧xs[j]? =some (k,p)∧
   ∀h',h'.DictOfH knd d (xs.eraseIdx j)->Heap.SameBut d s.heap h'->R (.ok (.ret p.2)) {s with heap:=h',toks:=s.toks+knd.draws k}):=
 .of_wp λA R s ⟨hu,k,xs,j,p,hkey,hm,hz,hj,h⟩=>by
  unfold Builtin.«dict.pop»;refine AA ?_;unfold Builtin.Dict.keyAndDefault;refine AA<|Ay hm.typeIs ?_;show AE _ _ (pure (d,Value.ref a,none)) _ _ s;refine AB ?_;have hp:(keyPart<|Value.ref a).isSome=false:=rfl;simp only[hp,cJ,if_false];obtain⟨o,es,ep,ho,hc,hd,he,his,hn⟩:=id hm;refine AA<|Al ho hd (AA<|AB ?_)
  have ne:es.isEmpty=false:=by have e:=Ax he;have:=(aI.mp hj).1;rw[Array.isEmpty_eq_false_iff_exists_mem];exact⟨es[0],uS<|by omega⟩
  simp only[ne,cJ,if_false];refine AA<|aAu hu hkey hm hj (λh' hm' hs'=> ?_) hz;simp only[aHf,cJ,if_false];exact AA (wpAny_letGo<|AB ⟨_,rfl,h h' hm' hs'⟩)
end
variable {X:Cx}{sd:List Slot}{c:Expr}{es:List Expr}{pos cp p p2:Pos}{ds:List D}{E:iT}{k n:Nat}{f x:Str}
theorem aGa{Z:Lent X.K}{C:Z.α->List D->(Z.α->Prop)->Prop}{post:Z.α->Prop}{a:Z.α}(i:Nat)(hs:sd[i]? =some (Z.sl a))(hxi:PE X (.Name x p2) (iQ i))(G:vM X.prog X.w X.K Z X.mg X.base f k n C)(hr:Room k X.A)(hg:Gl X f)(ha:PAd X sd es (ds.map R.val))(hc:C a ds post)(hp:∀a',post a'->Z.ad a'=Z.ad a)(hn:ds.length+1=n)(hE:∀a',post a'->E.nx (sd.set i<|Z.sl a'))
  (hdb:(f==("__debug__":Str))=false:=by decide) (he:AC (.Name x p2::es) X.env=(false,eval (.Name x p2) X.env)::AC es X.env:=by rfl) (hpl:(Ae cp<|AC es X.env).any (·.1)=false:=by rfl)
  (hsw:AX (.Call (.Name f p) (.Name x p2::es) [] cp) none pos.line X.env=pure false:=by rfl):PSd1 X sd (.Expr (.Call (.Name f p) (.Name x p2::es) [] cp) pos) E:=.mk λσ F H S=>by
 obtain⟨fa,fd,ps,hm,hkp,bd,G⟩:=G.ex;obtain⟨o0,h1,v,h2,_⟩:=S.slots.get hs;refine(sQ (vS (FnOk.framedL G) hr hg hm hkp bd .nil zZ (dP hxi rC he) hdb he hpl) hsw).to ⟨v,by rw[h1,h2],(ha σ F H S).imp λus H1 ⟨F1,S1,s1,q1⟩=> ?_⟩;have rl:=q1.vals;obtain⟨o1,g1,so⟩:=S1.slots.get hs
 have eo:o1=some v:=by rw[h1,h2] at g1;exact(bY.inj g1).symm
 subst eo;refine⟨by rw[cH,bP,rl.len];exact hn,S1.smp,v,us,F1,a,ds,post,by rw[cH],S1.sub,so,iL S1.nd hs,rl,hc,hp,λF' H' a' pa s2 s3 sm so' nd kp kf=> ?_⟩;have S2:=S1.le<|gU sd i;have no:∀b,b∈cC (sd.set i .un)->b∉Z.own a:=λb hb z=>hV S1.nd hs (show b∈fS (Z.sl a) from z) hb
 have S3:StF X.K X.B₀ F' H' σ (sd.set i .un):=⟨fun b o e=>s2 _ _ (S1.base _ _ e),s3,sm,S2.slots.mono s2 fun b hb=>by
  obtain⟨n1,ob,e,_⟩:=S2.slots.owns hb
  exact⟨(kf b ob (no b hb) e n1).1,λxs e'=>kp b xs (no b hb) e'⟩,S2.nd⟩
 have S4:=S3.setT i so' nd λb hb hb2=>by obtain⟨n1,ob,e,_⟩:=S2.slots.owns hb2;exact(kf b ob (no b hb2) e n1).2 hb
 rw[jY,lW g1] at S4;exact⟨_,F',S4,s1.trans s2,hE a' pa⟩
theorem aAg{body:List BN}(W:Nat->List Slot->Prop)(h0:∃m sd0,Le sd sd0/\W m sd0)
  (hb:∀m sdm,W m sdm->∃t:Bool,PTd X sdm c t/\(t=false->E.nx sdm)/\(t=true->PSd X sdm body {E with nx:=λsd'=>∃m' sd2,m'<m/\Le sd' sd2/\W m' sd2,ct:=λsd'=>∃m' sd2,m'<m/\Le sd' sd2/\W m' sd2,bk:=E.nx}))
  (hp:PassesOwn (AF X.prog X.w) X.A X.env X.xe:=by exact PassesOwn.never):PSd1 X sd (.While c body [] pos) E:=.mk λσ F H S=>
 (aJm hp aJF pss_w).to (by
  obtain⟨m0,sd0,le0,q0⟩:=h0;refine⟨λm σ' H'=>∃sdm F',StF X.K X.B₀ F' H' σ' sdm/\Same F F'/\W m sdm,⟨m0,sd0,F,S.le le0,Same.refl _,q0⟩, ?_⟩;rintro m σ' H' ⟨sdm,F',S',s',qm⟩;obtain⟨t,ht,h1,h2⟩:=hb m sdm qm;refine(ht σ' F' H' S').imp λb H1 ⟨eb,F1,S1,s1⟩=> ?_
  subst eb;cases b with
  |false=>exact aLd ⟨sdm,F1,S1,s'.trans s1,h1 rfl⟩
  |true=>
   refine aLa ⟨λσ2 H2=>∃m' sd2 F2,m'<m/\StF X.K X.B₀ F2 H2 σ2 sd2/\Same F F2/\W m' sd2,λσ2 H2 ⟨m',sd2,F2,lt,S2,s2,w2⟩=>⟨m',lt,sd2,F2,S2,s2,w2⟩, ?_⟩;refine(h2 rfl σ' F1 H1 S1).imp ?_ ?_ ?_ ?_
   ·rintro σ4 H4 ⟨sd4,F4,S4,s4,m',sd5,lt,le,q5⟩;exact⟨m',sd5,F4,lt,S4.le le,(s'.trans s1).trans s4,q5⟩
   ·exact λv H4 q=>q
   ·rintro σ4 H4 ⟨sd4,F4,S4,s4,q⟩;exact⟨sd4,F4,S4,(s'.trans s1).trans s4,q⟩
   ·rintro σ4 H4 ⟨sd4,F4,S4,s4,m',sd5,lt,le,q5⟩
    exact⟨m',sd5,F4,lt,S4.le le,(s'.trans s1).trans s4,q5⟩)
theorem aAT{P:AD}{w:AI}{H:Hp}{h h':BL}{cs:List BJ}(x:HOk P w H h)(k:∀b u,b∉cs->h.get? b=some u->h'.get? b=some u)(hn:∀b∈cs,H b=none):HOk P w H h':=λa o e=>
 (x a o e).stay (fun b u hb q=>k b u (fun z=>by
  have n:=hn b z
  rcases hb with rfl|hb
  ·rw[e] at n;cases n
  ·rw[hb] at n
   cases n) q) (λ_ q=>q) λ_ _ q=>q
variable {prog:AD}{w:AI}{A:BK}{d I:BJ}{od:BM}{es:Array DictEntry}{ep:Nat}
theorem aPn(hh:A.handled=none)(c:od.data=.dict es ep)(ne:d≠I):Walks prog w A I [I,d] [I] es.size (λi v=>∃u,es[i]? =some u/\v=u.key) (λi h=>h.IsKeyIter I d i es.size ep/\h.get? d=some od) where
 sub:=λb hb=>aU.mpr (.inl<|aF.mp hb)
 frame:=λi h h' st k=>by obtain⟨⟨o,g,q⟩,g2⟩:=st;exact⟨⟨o,k I aH o g,q⟩,k d (by simp) od g2⟩
 item:=λi s Q E hi st q=>aHa st.1 st.2 c hi λh' st' sb=>q _ h' s.toks ⟨es[i],by simp[hi],rfl⟩ ⟨st',(sb.2 d ne).trans st.2⟩ λb o hb g=>(sb.2 b λz=>hb<|by rw[z];exact cQ _).trans g
 done:=λs Q E st q=>aJq hh st.1 st.2 c (aR _) λh' eb=>q h' s.toks λb o hb g=>eb b o (λz=>hb<|by rw[z];exact cQ _) g
 self:=λi s Q E st q=>wpAny_pyIter_keyiter st.1 q
theorem srcD(sm:(d==AV)=false)(x:od.ExactDict)(c:od.data=.dict es ep):PySem.W.KdlSrc prog w "dict" d d es.size (λi v=>∃u,es[i]? =some u/\v=u.key) (λh=>h.get? d=some od) where
 type:=λs ok=>sL ok x
 there:=λh ok=>⟨aO ok,aO ok⟩
 keep:=λh h' ok k=>k d (.inl rfl) od ok
 notList:=by decide
 notTuple:=by decide
 hint:=λA E s Q ok q=>PySem.W.kdl_hint_dict (sL ok x) q
 iter:=λA s hh ok=>⟨_,_,λE Q q=>aIu sm ok x c q,aPn hh c (bM<|aO ok),⟨⟨_,aS _ rfl,rfl,rfl⟩,aD _ ok⟩⟩
section
variable {prog:AD}{w:AI}{A:BK}{I:BJ}{fp wr:List BJ}{n:Nat}{P:Nat->BH->Prop}{St:Nat->BL->Prop}{J:BL->Prop}{bt:Nat->Nat->Bool}{R:Result->BI->Prop}{S:BJ}
def aQx(prog:AD)(w:AI)(A:BK)(J:BL->Prop)(P:Nat->BH->Prop)(bt:Nat->Nat->Bool):Prop:=∀i k x y (t:BI) (Q:BH->BI->Prop) (E:BH->BI->Prop),J t.heap->P i x->P k y->Q (.bool<|bt i k) t->AE (AF prog w) A (richCompare .Lt x y) Q E t
def aLu(cs:List BJ)(J:BL->Prop):Prop:=∀h h':BL,J h->(∀b o,b∉cs->h.get? b=some o->h'.get? b=some o)->J h'
noncomputable def two2(v:BH)(c:Nat):BM:={cls:=.type "list",dict:=none,data:=.seq #[v,v] c,slots:= #[]}
theorem aGw(W:Walks prog w A.in1 I fp wr n P St)(ask:aQx prog w A.in1 J P bt)(stay:aLu (S::wr) J)(nS:S∉fp):∀ (k j:Nat) (s:BI) (v0:BH) (c:Nat),n=k+(j+1)->St (j+1) s.heap->P (Ab bt j) v0->J s.heap->s.heap.get? S=some (two2 v0 c)->
  (∀v h' tk,P (Ab bt<|n-1) v->(∀b o,b∉S::wr->s.heap.get? b=some o->h'.get? b=some o)->R (.ok<|.ret v) {s with heap:=h',toks:=tk})->At (AF prog w) A (.builtin "min.loop" ⟨[.ref I,.none,.ref S],[]⟩) R s:=λk=>by
 have nW:S∉wr:=λz=>nS<|W.sub S z
 have nm:(toString "min"++toString ".loop":String)="min.loop":=by decide
 have upO:∀ {h:BL}{f:BM->BM}{b:BJ}{o:BM},b∉S::wr->h.get? b=some o->(h.update S f).get? b=some o:=λ{h f b o} hb g=>by rw[cP _ _ (λz=>hb<|by rw[<-z];exact aH)];exact g
 have upF:∀ {h:BL}{f:BM->BM}{i:Nat},St i h->St i (h.update S f):=λ{h f i} st=>W.frame _ _ _ st λb hb o g=>by rw[cP _ _ (show S≠b from λz=>nS<|by rw[z];exact hb)];exact g
 have sub1:∀ {b:BJ},b∉S::wr->b∉wr:=λhb z=>hb<|aE _ z
 induction k with
 |zero=>
  intro j s v0 c en st p0 hJ hS fin;have ej:n=j+1:=by omega
  refine Aa F.entry_min_loop ?_;rw[Around.under_plainId F.plain_min_loop];refine AA (m:=seqItems?<|.ref S)<|wpAny_seqItems hS rfl ?_;refine AA (m:=tryCatch (pyNext<|.ref I) _) (wpAny_tryCatch<|W.done s _ _ (by rw[ej];exact st) λh1 tk k1=> ?_);refine AA (m:=updateSeq S λ_=> #[]) (wpAny_updateSeq (k1 S _ nW hS) rfl<|AA (wpAny_letGo<|AB ?_));exact fin v0 _ tk (by rw[ej];exact p0) λb o hb g=>upO hb<|k1 b o (sub1 hb) g
 |succ k ih=>
  intro j s v0 c en st p0 hJ hS fin;refine Aa F.entry_min_loop ?_;rw[Around.under_plainId F.plain_min_loop];refine AA (m:=seqItems?<|.ref S)<|wpAny_seqItems hS rfl ?_;refine AA (m:=tryCatch (pyNext<|.ref I) _) (wpAny_tryCatch<|W.item (j+1) s _ _ (by omega) st λv h1 tk pv st1 k1=> ?_);have hS1:=k1 S _ nW hS;have hJ1:J h1:=stay _ _ hJ λb o hb g=>k1 b o (sub1 hb) g
  refine AA (m:=tryCatch (holding [v,v]<|richCompare .Lt v v0>>=_) _) (wpAny_tryCatch<|AT (AA<|ask (j+1) (Ab bt j) v v0 ⟨h1,s.gens,s.drawn,tk,s.os⟩ _ _ hJ1 pv p0 ?_));refine AA<|AT (Az<|AA (wpAny_letGo<|AB ?_));have ab:Ab bt (j+1)=if bt (j+1) (Ab bt j) then j+1 else Ab bt j:=rfl
  cases q:bt (j+1) (Ab bt j) with
  |true=>rw[q,if_pos rfl] at ab;simp only[if_true];refine AA<|wpAny_updateSeq hS1 rfl (AA<|wpAny_letGo ?_);rw[nm];refine AB ⟨Av F.plain_min_loop _,ih (j+1) _ v _ (by omega) (upF st1) (by rw[ab];exact pv) (stay _ _ hJ1 λb o hb g=>upO hb g) (cX _ hS1 rfl) λv' h2 tk2 p2 k2=> ?_⟩;exact fin v' h2 tk2 p2 λb o hb g=>k2 b o hb (upO hb<|k1 b o (sub1 hb) g)
  |false=>rw[q,if_neg bO] at ab;simp only[cJ,if_false];refine AA<|wpAny_letGo ?_;rw[nm];refine AB ⟨Av F.plain_min_loop _,ih (j+1) _ v0 c (by omega) st1 (by rw[ab];exact p0) hJ1 hS1 λv' h2 tk2 p2 k2=> ?_⟩;exact fin v' h2 tk2 p2 λb o hb g=>k2 b o hb<|k1 b o (sub1 hb) g
theorem aDs(W:Walks prog w A.in1 I fp wr n P St)(ask:aQx prog w A.in1 J P bt)(stay:aLu (S::wr) J)(nS:S∉fp)(h0:0<n){s:BI}{c:Nat}(st:St 0 s.heap)(hJ:J s.heap)(hS:s.heap.get? S=some {cls:=.type "list",dict:=none,data:=.seq #[] c,slots:= #[]})
  (fin:∀v h' tk,P (Ab bt<|n-1) v->(∀b o,b∉S::wr->s.heap.get? b=some o->h'.get? b=some o)->R (.ok<|.ret v) {s with heap:=h',toks:=tk}):At (AF prog w) A (.builtin "min.loop" ⟨[.ref I,.none,.ref S],[]⟩) R s:=by
 have nW:S∉wr:=λz=>nS<|W.sub S z
 have nm:(toString "min"++toString ".loop":String)="min.loop":=by decide
 have upO:∀ {h:BL}{f:BM->BM}{b:BJ}{o:BM},b∉S::wr->h.get? b=some o->(h.update S f).get? b=some o:=λ{h f b o} hb g=>by rw[cP _ _ (λz=>hb<|by rw[<-z];exact aH)];exact g
 have sub1:∀ {b:BJ},b∉S::wr->b∉wr:=λhb z=>hb<|aE _ z
 refine Aa F.entry_min_loop ?_;rw[Around.under_plainId F.plain_min_loop];refine AA (m:=seqItems?<|.ref S)<|wpAny_seqItems hS rfl ?_;refine AA (m:=tryCatch (pyNext<|.ref I) _) (wpAny_tryCatch<|W.item 0 s _ _ h0 st λv h1 tk pv st1 k1=> ?_);have hS1:=k1 S _ nW hS;refine AA (m:=updateSeq S λ_=> #[v,v])<|wpAny_updateSeq hS1 rfl ?_;rw[nm];refine AB ⟨Av F.plain_min_loop _,aGw W ask stay nS (n-1) 0 _ v _ (by omega) (W.frame _ _ _ st1 λb hb o g=> ?_) pv (stay _ _ hJ λb o hb g=>upO hb<|k1 b o (sub1 hb) g) (cX _ hS1 rfl) λv' h2 tk2 p2 k2=> ?_⟩
 ·rw[cP _ _ (show S≠b from λz=>nS<|by rw[z];exact hb)];exact g
 ·exact fin v' h2 tk2 p2 λb o hb g=>k2 b o hb (upO hb<|k1 b o (sub1 hb) g)
theorem aGR{E:BH->BI->Prop}{s:BI}{x:BH}{Q:BH->BI->Prop}
  (h:AE (AF prog w) A.in1 (pyIter x) (fun it t=>∃ (I:BJ) (fp wr:List BJ) (n:Nat) (P:Nat→BH→Prop) (St:Nat→BL→Prop) (J:BL→Prop) (bt:Nat→Nat→Bool),it= .ref I∧Walks prog w A.in1 I fp wr n P St∧St 0 t.heap∧(∀b∈fp,b<t.heap.objs.size)∧0<n∧aQx prog w A.in1 J P bt∧J t.heap∧aLu (t.heap.objs.size::wr) J∧
   ∀v h' tk,P (Ab bt (n-1)) v->(∀b o,b∉wr->t.heap.get? b=some o->h'.get? b=some o)->Q v {t with heap:=h',toks:=tk}) E s):
  AE (AF prog w) A (call (.builtin "min") [x]) Q E s:=by
 have nm:(toString "min"++toString ".loop":String)="min.loop":=by decide
 refine call_function_tree F.kind_min F.plain_min F.entry_min (F.args_min1 _) ?_;refine AA (m:=Builtin.Builtins.bindParams "min" ["key","default"] 0 ⟨[],[]⟩)<|Ao (a:=[none,none]) rfl (AA<|AB ?_);refine AA<|Af h (λit t hx=> ?_) λ_ _ z=>z;obtain⟨I,fp,wr,n,P,St,J,bt,rfl,W,st,hfp,h0,ask,hJ,stay,q⟩:=hx;refine AA<|AK ?_;have nS:t.heap.objs.size∉fp:=λz=>dZ _<|hfp _ z
 rw[nm];refine AB ⟨Av F.plain_min_loop _,aDs W ask stay nS h0 (W.frame _ _ _ st λb _ o g=>aD _ g) (stay _ _ hJ λb o _ g=>aD _ g) (aS _ rfl) λv h' tk pv k=> ?_⟩;refine q v h' tk pv λb o hb g=>k b o (λz=> ?_)<|aD _ g
 rcases aU.mp z with z|z
 ·exact dZ _<|z▸aO g
 ·exact hb z
end
open PySem.W (KasT kas_sort kas_asc kas_desc kas_tail3 kas_descPart kas_count kas_place kas_bin kas_rev kas_ask kas_item kat_lt kat_cons kat_nil kat_yes kat_no kat_one kat_kind kat_run kat_snds KatTups)
inductive Bel{α:Type}(n:Nat)(P:α->Prop):KasT α->Prop
 |ret {a:α}:P a->Bel n P (.ret a)
 |ask {i j:Nat}{k:Bool->KasT α}:i<n->j<n->(∀b,Bel n P<|k b)->Bel n P (.ask i j k)
noncomputable def dU{α:Type}(ans:Nat->Nat->Bool):KasT α->α
 |.ret a=>a
 |.ask i j k=>dU ans (k<|ans i j)
theorem Bel.bind{α β:Type}{P:α->Prop}{R:β->Prop}{t:KasT α}{f:α->KasT β}(h:Bel n P t)(hf:∀a,P a->Bel n R (f a)):Bel n R (t.bind f):=by
 induction h with
 |ret p=>exact hf _ p
 |ask hi hj _ ih=>exact .ask hi hj ih
theorem Bel.wp{α:Type}{P:α->Prop}{t:KasT α}{ans:Nat->Nat->Bool}{cmp:Nat->Nat->(Bool->BI->Prop)->BI->Prop}{Q:α->BI->Prop}{s:BI}(h:Bel n P t)
  (hc:∀i j C,i<n->j<n->C (ans i j) s->cmp i j C s) (hq:Q (dU ans t) s):t.kasWp cmp Q s:=by
 induction h with
 |ret p=>exact hq
 |ask hi hj _ ih=>exact hc _ _ _ hi hj<|ih _ hq
def AlN(n:Nat)(p:Array Nat):Prop:=p.size=n/\∀x∈p,x<n
theorem AlN.get{p:Array Nat}(h:AlN n p)(h0:0<n)(k:Nat):p.getD k 0<n:=by
 by_cases hk:k<p.size
 ·have e:p.getD k 0=p[k]:=by simp[oQ,hk]
  rw[e];exact h.2 _<|uS hk
 ·have e:p.getD k 0=0:=by simp[oQ,hk]
  omega
theorem AlN.rev{p:Array Nat}(h:AlN n p)(i j:Nat):AlN n (kas_rev p i j):=
 ⟨(mirror_size _ _ _ _).trans h.1,λx hx=>h.2 x<|(mirror_perm p i j<|(j-i) / 2).mem_iff.mp hx⟩
theorem AlN.bub{p:Array Nat}(h:AlN n p)(i j:Nat):AlN n (bubble p i j):=
 ⟨(bubble_size _ _ _).trans h.1,λx hx=>h.2 x<|(bubble_perm p i j).mem_iff.mp hx⟩
theorem aBs{n:Nat}{p:Array Nat}(h0:0<n)(h:AlN n p):∀f m,Bel n (λ_=>True) (kas_asc p f m)
 |0,m=>.ret trivial
 |f+1,m=>.ask (h.get h0 _) (h.get h0 _) λb=>by
  cases b with
  |true=>exact .ret trivial
  |false=>exact aBs h0 h f<|m+1
theorem rS{n:Nat}(h0:0<n):∀f (p:Array Nat) m q,AlN n p->Bel n (λr=>AlN n r.1) (kas_desc f p m q)
 |0,p,m,q,h=>.ret h
 |f+1,p,m,q,h=>.ask (h.get h0 _) (h.get h0 _) λb=>by
  cases b with
  |true=>
   show Bel n _ (if q>0 then kas_desc f (kas_rev p (m-(q+1)) m) (m+1) 0 else kas_desc f p (m+1) 0)
   split
   ·exact rS h0 f _ _ _<|h.rev _ _
   ·exact rS h0 f _ _ _ h
  |false=>
   refine .ask (h.get h0 _) (h.get h0 _) λb=> ?_
   cases b with
   |true=>exact .ret h
   |false=>exact rS h0 f _ _ _ h
theorem aCi{p:Array Nat}(h0:0<n)(h:AlN n p)(m r:Nat):Bel n (λr=>AlN n r.2) (kas_tail3 m r p):=
 (aBs h0 (h.rev _ _) _ _).bind λ_ _=>.ret<|h.rev _ _
theorem aAb{p:Array Nat}(h0:0<n)(h:AlN n p)(m r:Nat):Bel n (λr=>AlN n r.2) (kas_descPart m r p):=
 (rS h0 _ _ _ _ h).bind λr hr=>by
  split
  ·exact aCi h0 (hr.rev _ _) _ _
  ·exact aCi h0 hr _ _
theorem aFS{p:Array Nat}(h0:0<n)(h:AlN n p)(m:Nat):Bel n (λr=>AlN n r.2) (kas_count m p):=
 (aBs h0 h _ _).bind λk _=>by
  split
  ·exact .ret h
  ·split
   ·refine .ask (h.get h0 _) (h.get h0 _) λb=> ?_
    cases b with
    |true=>exact .ret h
    |false=>exact aAb h0 (h.rev _ _) _ _
   ·exact aAb h0 h _ _
theorem tR{n:Nat}{p:Array Nat}(h0:0<n)(h:AlN n p)(k:Nat):∀f l r,Bel n (λ_=>True) (kas_place p k f l r)
 |0,l,r=>.ret trivial
 |f+1,l,r=>by
  show Bel n _ (if l>=r then _ else _)
  split
  ·exact .ret trivial
  ·refine .ask (h.get h0 _) (h.get h0 _) λb=> ?_
   cases b with
   |true=>exact tR h0 h k f _ _
   |false=>exact tR h0 h k f _ _
theorem aEH{n:Nat}(h0:0<n):∀f (p:Array Nat) k,AlN n p->Bel n (λr=>AlN n r) (kas_bin f p k)
 |0,p,k,h=>.ret h
 |f+1,p,k,h=>(tR h0 h k _ _ _).bind λl _=>aEH h0 f _ _<|h.bub _ _
theorem aIe(h0:0<n):Bel n (λr=>AlN n r) (kas_sort n):=
 (aFS h0 ⟨by simp,λx hx=>by simpa using hx⟩ n).bind λr hr=>by
  split
  ·exact aEH h0 _ _ _ hr
  ·exact .ret hr
open PySem.W (KasT kas_sort kas_asc kas_desc kas_tail3 kas_descPart kas_count kas_place kas_bin kas_rev)
theorem lN{α β:Type}(ans:Nat->Nat->Bool):∀ (t:KasT α) (f:α->KasT β),dU ans (t.bind f)=dU ans (f<|dU ans t)
 |.ret a,f=>rfl
 |.ask i j k,f=>lN ans (k<|ans i j) f
structure Ord(n:Nat)(ans:Nat->Nat->Bool):Prop where
 tr:∀i j k,i<n->j<n->k<n->ans i j=true->ans j k=true->ans i k=true
 ir:∀i,i<n->ans i i=false
 tt:∀i j,i<n->j<n->i≠j->ans i j=true\/ans j i=true
noncomputable abbrev gN(p:Array Nat)(k:Nat):Nat:=p.getD k 0
def AlP(n:Nat)(p:Array Nat):Prop:=p.toList.Perm<|aW n
theorem AlP.size{p:Array Nat}(h:AlP n p):p.size=n:=by have:=h.length_eq;simpa using this
theorem AlP.lt{n:Nat}{p:Array Nat}(h:AlP n p){k:Nat}(hk:k<n):gN p k<n:=by
 have hs:k<p.size:=by rw[h.size];exact hk
 have e:gN p k=p[k]:=by simp[gN,oQ,hs]
 rw[e];exact bE.mp<|h.mem_iff.mp (aDK.mpr<|uS hs)
theorem AlP.inj{p:Array Nat}(h:AlP n p){i j:Nat}(hi:i<n)(hj:j<n)(hij:i≠j):gN p i≠gN p j:=λe=>by
 have nd:p.toList.Nodup:=h.nodup_iff.mpr gY;have hi':i<p.toList.length:=by rw[cZ,h.size];exact hi
 have hj':j<p.toList.length:=by rw[cZ,h.size];exact hj
 have e1:gN p i=p.toList[i]:=by
  have:i<p.size:=by rw[h.size];exact hi
  simp[gN,oQ,this]
 have e2:gN p j=p.toList[j]:=by
  have:j<p.size:=by rw[h.size];exact hj
  simp[gN,oQ,this]
 rw[e1,e2] at e;exact hij<|(kZ nd).mp e
theorem AlP.of_perm{p q:Array Nat}(h:AlP n p)(hq:q.Perm p):AlP n q:=(Array.perm_iff_toList_perm.mp hq).trans h
def Up(ans:Nat->Nat->Bool)(p:Array Nat)(m:Nat):Prop:=∀i j,i<j->j<m->ans (gN p i) (gN p j)=true
def Dn(ans:Nat->Nat->Bool)(p:Array Nat)(m:Nat):Prop:=∀i j,i<j->j<m->ans (gN p j) (gN p i)=true
variable {ans:Nat->Nat->Bool}
theorem aBN(O:Ord n ans){i j:Nat}(hi:i<n)(hj:j<n)(hij:i≠j)(h:ans i j=false):ans j i=true:=by
 rcases O.tt i j hi hj hij with z|z
 ·rw[h] at z;cases z
 ·exact z
theorem Up.snoc(O:Ord n ans){p:Array Nat}(P:AlP n p){m:Nat}(h1:1<=m)(hm:m<n)(u:Up ans p m)(h:ans (gN p<|m-1) (gN p m)=true):Up ans p (m+1):=λi j hij hj=>by
 rcases iF (vE hj) with z|z
 ·exact u i j hij z
 ·subst z
  rcases iF (aHm hij) with w|w
  ·exact O.tr _ _ _ (P.lt<|by omega) (P.lt<|by omega) (P.lt hm) (u i (j-1) w<|by omega) h
  ·rw[w];exact h
theorem Dn.snoc(O:Ord n ans){p:Array Nat}(P:AlP n p){m:Nat}(h1:1<=m)(hm:m<n)(u:Dn ans p m)(h:ans (gN p m) (gN p<|m-1)=true):Dn ans p (m+1):=λi j hij hj=>by
 rcases iF (vE hj) with z|z
 ·exact u i j hij z
 ·subst z
  rcases iF (aHm hij) with w|w
  ·exact O.tr _ _ _ (P.lt hm) (P.lt<|by omega) (P.lt<|by omega) h (u i (j-1) w<|by omega)
  ·rw[w];exact h
theorem aBJ(O:Ord n ans){p:Array Nat}(P:AlP n p):∀f m,1<=m->m+f<=n->Up ans p m->m<=dU ans (kas_asc p f m)/\dU ans (kas_asc p f m)<=m+f/\Up ans p (dU ans<|kas_asc p f m)
 |0,m,_,_,u=>⟨aR _,aR _,u⟩
 |f+1,m,h1,hm,u=>by
  have e:dU ans (kas_asc p (f+1) m)=dU ans (if ans (gN p m) (gN p<|m-1)=true then KasT.ret m else kas_asc p f (m+1)):=rfl;rw[e]
  by_cases hc:ans (gN p m) (gN p<|m-1)=true
  ·rw[if_pos hc];exact⟨aR _,by show m<=_;omega,u⟩
  ·rw[if_neg hc];have hc':ans (gN p m) (gN p<|m-1)=false:=by simpa using hc
   have h2:=aBN O (P.lt (show m<n by omega)) (P.lt (show m-1<n by omega)) (P.inj (by omega) (by omega)<|by omega) hc';obtain⟨a,b,c⟩:=aBJ O P f (m+1) (by omega) (by omega)<|u.snoc O P h1 (by omega) h2;exact⟨by omega,by omega,c⟩
theorem aED(O:Ord n ans){p:Array Nat}(P:AlP n p):∀f m,1<=m->m+f<=n->Dn ans p m->∃r,dU ans (kas_desc f p m 0)=(p,r,0)/\m<=r/\r<=m+f/\Dn ans p r
 |0,m,_,_,u=>⟨m,rfl,aR _,aR _,u⟩
 |f+1,m,h1,hm,u=>by
  have e:dU ans (kas_desc (f+1) p m 0)=dU ans (if ans (gN p m) (gN p<|m-1)=true then(if 0>0 then kas_desc f (kas_rev p (m-(0+1)) m) (m+1) 0 else kas_desc f p (m+1) 0) else .ask (gN p<|m-1) (gN p m) λd=>if d=true then .ret (p,m,0) else kas_desc f p (m+1) (0+1)):=rfl;rw[e]
  by_cases hc:ans (gN p m) (gN p<|m-1)=true
  ·rw[if_pos hc,if_neg<|by omega];obtain⟨r,a,b,c,d⟩:=aED O P f (m+1) (by omega) (by omega)<|u.snoc O P h1 (by omega) hc;exact⟨r,a,by omega,by omega,d⟩
  ·rw[if_neg hc];have hc':ans (gN p m) (gN p<|m-1)=false:=by simpa using hc
   have h2:=aBN O (P.lt (show m<n by omega)) (P.lt (show m-1<n by omega)) (P.inj (by omega) (by omega)<|by omega) hc';refine⟨m, ?_,aR _,by omega,u⟩;show dU ans (if ans (gN p<|m-1) (gN p m)=true then _ else _)=_;rw[if_pos h2];rfl
theorem aFk{p:Array Nat}{m:Nat}(hm:m<=p.size):gN (kas_rev p 0 m) k=if k<m then gN p (m-1-k) else gN p k:=by
 have h:=getElem?_mirror_all (xs:=p) (i:=0) (j:=m) hm k;unfold gN;rw[iK,iK,iK];show((mirror p 0 m<|(m-0) / 2)[k]?).getD 0=_;rw[h]
 by_cases z:k<m
 ·rw[if_pos ⟨cD _,z⟩,if_pos z,aSJ]
 ·rw[if_neg λq=>z q.2,if_neg z]
theorem aOE{p:Array Nat}(P:AlP n p){m:Nat}(hm:m<=n)(u:Dn ans p m):Up ans (kas_rev p 0 m) m/\AlP n (kas_rev p 0 m):=by
 have hs:m<=p.size:=by rw[P.size];exact hm
 refine⟨λi j hij hj=> ?_,P.of_perm<|mirror_perm p 0 m _⟩;rw[aFk hs,aFk hs,if_pos<|by omega,if_pos hj];exact u (m-1-j) (m-1-i) (by omega)<|by omega
theorem aIx(O:Ord n ans){p:Array Nat}(P:AlP n p)(h2:2<=n):1<=(dU ans<|kas_count n p).1/\(dU ans<|kas_count n p).1<=n/\Up ans (dU ans<|kas_count n p).2 (dU ans<|kas_count n p).1/\AlP n (dU ans<|kas_count n p).2:=by
 have u1:Up ans p 1:=λi j hij hj=>by omega
 have d1:Dn ans p 1:=λi j hij hj=>by omega
 obtain⟨a,b,c⟩:=aBJ O P (n-1) 1 (aR _) (by omega) u1
 have hd:dU ans (kas_asc p (n-1) 1)=1->ans (gN p 1) (gN p 0)=true:=λh=>by
  obtain⟨f,ef⟩:∃f,n-1=f+1:=⟨n-2,by omega⟩;rw[ef] at h;have e:dU ans (kas_asc p (f+1) 1)=dU ans (if ans (gN p 1) (gN p 0)=true then KasT.ret 1 else kas_asc p f 2):=rfl;rw[e] at h;refine Classical.byContradiction λhc=> ?_
  rw[if_neg hc] at h;have hc':ans (gN p 1) (gN p 0)=false:=by simpa using hc
  have h2':=aBN O (P.lt (show 1<n by omega)) (P.lt (show 0<n by omega)) (P.inj (by omega) (by omega)<|by omega) hc';obtain⟨z,_,_⟩:=aBJ O P f 2 (by omega) (by omega)<|u1.snoc O P (aR _) (by omega) h2';omega
 have ec:dU ans (kas_count n p)=dU ans (if(dU ans (kas_asc p (n-1) 1)==n)=true then .ret (dU ans<|kas_asc p (n-1) 1,p) else if dU ans (kas_asc p (n-1) 1)>1 then .ask (gN p 0) (gN p<|dU ans (kas_asc p (n-1) 1)-1) λc=>if c=true then .ret (dU ans<|kas_asc p (n-1) 1,p) else kas_descPart (dU ans<|kas_asc p (n-1) 1) n (kas_rev p 0 (dU ans<|kas_asc p (n-1) 1)) else kas_descPart (dU ans<|kas_asc p (n-1) 1) n p):=lN ans _ _;rw[ec];generalize dU ans (kas_asc p (n-1) 1)=r at a b c hd
 by_cases h:(r==n)=true
 ·rw[if_pos h];exact⟨a,by show r<=n;omega,c,P⟩
 ·rw[if_neg h]
  by_cases h1:r>1
  ·rw[if_pos h1];have hh:ans (gN p 0) (gN p<|r-1)=true:=c 0 (r-1) (by omega) (by omega)
   have:dU ans (KasT.ask (gN p 0) (gN p<|r-1) λc=>if c=true then .ret (r,p) else kas_descPart r n (kas_rev p 0 r))=(r,p):=by show dU ans (if ans (gN p 0) (gN p<|r-1)=true then _ else _)=_;rw[if_pos hh];rfl
   rw[this];exact⟨a,by show r<=n;omega,c,P⟩
  ·rw[if_neg h1];have r1:r=1:=by omega
   subst r1
   have e2:dU ans (kas_descPart 1 n p)=dU ans (if(dU ans<|kas_desc (n-(1+1)) p (1+1) 0).2.2>0 then kas_tail3 (dU ans<|kas_desc (n-(1+1)) p (1+1) 0).2.1 n (kas_rev (dU ans<|kas_desc (n-(1+1)) p (1+1) 0).1 ((dU ans<|kas_desc (n-(1+1)) p (1+1) 0).2.1-((dU ans<|kas_desc (n-(1+1)) p (1+1) 0).2.2+1)) (dU ans<|kas_desc (n-(1+1)) p (1+1) 0).2.1) else kas_tail3 (dU ans<|kas_desc (n-(1+1)) p (1+1) 0).2.1 n (dU ans<|kas_desc (n-(1+1)) p (1+1) 0).1):=lN ans _ _;rw[e2];have d2:Dn ans p 2:=d1.snoc O P (aR _) (by omega)<|hd rfl;obtain⟨r,er,r2,rn,dr⟩:=aED O P (n-2) 2 (by omega) (by omega) d2;have er':dU ans (kas_desc (n-(1+1)) p (1+1) 0)=(p,r,0):=er;rw[er'];rw[if_neg<|by show ¬ (0>0);omega];obtain⟨ur,Pr⟩:=aOE P (show r<=n by omega) dr;obtain⟨x,y,z⟩:=aBJ O Pr (n-r) r (by omega) (by omega) ur;have e3:dU ans (kas_tail3 r n p)=(dU ans<|kas_asc (kas_rev p 0 r) (n-r) r,kas_rev p 0 r):=lN ans _ _;show 1<=(dU ans<|kas_tail3 r n p).1/\_;rw[e3];exact⟨by show 1<=dU ans _;omega,by show dU ans _<=n;omega,z,Pr⟩
theorem yM(O:Ord n ans){p:Array Nat}(P:AlP n p){k:Nat}(hk:k<n)(u:Up ans p k):∀f l r,l<=r->r<=k->r-l<=f->(∀i,i<l->ans (gN p i) (gN p k)=true)->(∀i,r<=i->i<k->ans (gN p k) (gN p i)=true)->
  dU ans (kas_place p k f l r)<=k/\(∀i,i<dU ans (kas_place p k f l r)->ans (gN p i) (gN p k)=true)/\∀i,dU ans (kas_place p k f l r)<=i->i<k->ans (gN p k) (gN p i)=true
 |0,l,r,h1,h2,h3,h4,h5=>by
  have:l=r:=by omega
  subst this;exact⟨h2,h4,h5⟩
 |f+1,l,r,h1,h2,h3,h4,h5=>by
  have e:dU ans (kas_place p k (f+1) l r)=dU ans (if l>=r then KasT.ret l else .ask (gN p k) (gN p<|(l+r) / 2) λc=>if c=true then kas_place p k f l ((l+r) / 2) else kas_place p k f ((l+r) / 2+1) r):=rfl;rw[e]
  by_cases hl:l>=r
  ·rw[if_pos hl];have:l=r:=by omega
   subst this;exact⟨h2,h4,h5⟩
  ·rw[if_neg hl];have hmid:(l+r) / 2<r:=by omega
   have hml:l<=(l+r) / 2:=by omega
   have e2:dU ans (KasT.ask (gN p k) (gN p<|(l+r) / 2) λc=>if c=true then kas_place p k f l ((l+r) / 2) else kas_place p k f ((l+r) / 2+1) r)=dU ans (if ans (gN p k) (gN p<|(l+r) / 2)=true then kas_place p k f l ((l+r) / 2) else kas_place p k f ((l+r) / 2+1) r):=rfl;rw[e2];generalize (l+r) / 2=m at hmid hml
   by_cases hc:ans (gN p k) (gN p m)=true
   ·rw[if_pos hc];refine yM O P hk u f l m hml (by omega) (by omega) h4 λi hi hik=> ?_
    rcases iF hi with z|z
    ·exact O.tr _ _ _ (P.lt hk) (P.lt<|by omega) (P.lt<|by omega) hc<|u m i z hik
    ·rw[<-z];exact hc
   ·rw[if_neg hc];have hc':ans (gN p k) (gN p m)=false:=by simpa using hc
    have h6:=aBN O (P.lt hk) (P.lt (show m<n by omega)) (P.inj hk (by omega)<|by omega) hc';refine yM O P hk u f (m+1) r (by omega) h2 (by omega) (λi hi=> ?_) h5
    rcases iF (vE hi) with z|z
    ·exact O.tr _ _ _ (P.lt<|by omega) (P.lt<|by omega) (P.lt hk) (u i m z<|by omega) h6
    ·rw[z];exact h6
theorem aFH{p:Array Nat}{L i:Nat}(hk:k<p.size)(hL:L<=k):gN (bubble p k<|k-L) i=if i=L then gN p k else if L<i/\i<=k then gN p (i-1) else gN p i:=by
 have h:=getElem?_bubble (xs:=p) hk (k-L) (by omega) i;have ge:∀ (q:Array Nat) (x:Nat),gN q x=(q[x]?).getD 0:=λq x=>iK ..
 rw[ge,ge,ge,ge,h,show k-(k-L)=L by omega]
 by_cases h1:i=L
 ·rw[if_pos h1,if_pos h1]
 ·rw[if_neg h1,if_neg h1]
  by_cases h2:L<i/\i<=k
  ·rw[if_pos h2,if_pos h2]
  ·rw[if_neg h2,if_neg h2]
theorem aKj(O:Ord n ans):∀f (p:Array Nat) k,AlP n p->k+f=n->Up ans p k->Up ans (dU ans<|kas_bin f p k) n/\AlP n (dU ans<|kas_bin f p k)
 |0,p,k,P,hk,u=>by
  have:k=n:=by omega
  subst this;exact⟨u,P⟩
 |f+1,p,k,P,hk,u=>by
  have e:dU ans (kas_bin (f+1) p k)=dU ans (kas_bin f (bubble p k<|k-dU ans (kas_place p k k 0 k))<|k+1):=lN ans _ _;rw[e];obtain⟨l1,l2,l3⟩:=yM O P (show k<n by omega) u k 0 k (cD _) (aR _) (by omega) (λi hi=>by omega) λi h1 h2=>by omega
  generalize dU ans (kas_place p k k 0 k)=L at l1 l2 l3;have ks:k<p.size:=by rw[P.size];omega
  refine aKj O f _ (k+1) (P.of_perm<|bubble_perm p k _) (by omega) λi j hij hj=> ?_
  rw[aFH ks l1,aFH ks l1]
  by_cases ei:i=L
  ·rw[if_pos ei,if_neg<|by omega,if_pos ⟨by omega,by omega⟩];exact l3 (j-1) (by omega)<|by omega
  ·rw[if_neg ei]
   by_cases ej:j=L
   ·rw[if_pos ej,if_neg<|by omega];exact l2 i<|by omega
   ·rw[if_neg ej]
    by_cases hi2:L<i/\i<=k
    ·rw[if_pos hi2,if_pos ⟨by omega,by omega⟩];exact u (i-1) (j-1) (by omega)<|by omega
    ·rw[if_neg hi2]
     by_cases hj2:L<j/\j<=k
     ·rw[if_pos hj2];have:i<L:=by omega
      exact u i (j-1) (by omega)<|by omega
     ·rw[if_neg hj2];exact u i j hij<|by omega
theorem aNn(O:Ord n ans)(h2:2<=n):Up ans (dU ans<|kas_sort n) n/\AlP n (dU ans<|kas_sort n):=by
 have P0:AlP n (jB<|aW n):=by show(jB<|aW n).toList.Perm _;simp
 obtain⟨a,b,c,d⟩:=aIx O P0 h2;have e:dU ans (kas_sort n)=dU ans (if(dU ans<|kas_count n (jB<|aW n)).1<n then kas_bin (n-max (dU ans<|kas_count n (jB<|aW n)).1 1) (dU ans<|kas_count n (jB<|aW n)).2 (max (dU ans<|kas_count n (jB<|aW n)).1 1) else .ret (dU ans<|kas_count n (jB<|aW n)).2):=lN ans _ _;rw[e];generalize dU ans (kas_count n (jB<|aW n))=r at a b c d
 by_cases h:r.1<n
 ·rw[if_pos h,show max r.1 1=r.1 by omega];exact aKj O _ _ _ d (by omega) c
 ·rw[if_neg h];have:r.1=n:=by omega
  rw[this] at c;exact⟨c,d⟩
open PySem.W (KasT kas_sort kas_asc kas_desc kas_tail3 kas_descPart kas_count kas_place kas_bin kas_rev kas_ask kas_item kat_lt kat_cons kat_nil kat_yes kat_no kat_one kat_kind kat_run kat_snds KatTups KatLex)
theorem aAx{α β:Type}{f:α->β}{l:List α}{l':List β}(h:l'.Perm (l.map f)):∃l2:List α,l2.Perm l/\l'=l2.map f:=by
 generalize hy:l.map f=y at h
 induction h generalizing l with
 |nil=>
  have:l=[]:=by simpa using hy
  subst this;exact⟨[],.refl _,rfl⟩
 |cons x p ih=>
  cases l with
  |nil=>simp at hy
  |cons a t=>simp only[aV,aDJ.injEq] at hy;obtain⟨l3,q1,q2⟩:=ih hy.2;exact⟨a::l3,q1.cons a,by rw[aV,hy.1,q2]⟩
 |swap x y l0=>
  match l,hy with
  |a::b::t,hy=>simp only[aV,aDJ.injEq] at hy;exact⟨b::a::t,List.Perm.swap a b t,by rw[aV,aV,hy.1,hy.2.1,hy.2.2]⟩
  |[a],hy=>simp at hy
  |[],hy=>simp at hy
 |trans p1 p2 ih1 ih2=>obtain⟨l3,q1,q2⟩:=ih2 hy;obtain⟨l4,r1,r2⟩:=ih1 q2.symm;exact⟨l4,r1.trans q1,r2⟩
variable {a b:Expr}
noncomputable def nT(k:List Key):D:=.tup<|k.map kD
noncomputable def oK(h:BL)(a:BJ)(vs:List BH):BL:=((h.update a<|Obj.mapSeq λ_=> #[]).push<|AZ "tuple" vs.toArray 0).push<|AZ "list" #[] 0
variable {E:BH->BI->Prop}{s:BI}
theorem aIk(vs:List BH):(vs.toArray.zip vs.toArray).toList=vs.map λv=>(v,v):=by
 rw[Array.toList_zip];show vs.zip vs=_
 induction vs with
 |nil=>rfl
 |cons v vs ih=>rw[dH,ih];rfl
open PySem.W (KasT kas_sort kas_item kas_ask kat_run kat_snds)
theorem zN{a:BJ}{vs:List BH}{κ:SortKind}{rk:BH->Nat}{R:PySem.Fin->BI->Prop}(ho:s.heap.get? a=some (AZ "list" vs.toArray n))(nd:(vs.map rk).Nodup)(hn:vs.length<64)
  (hkind:2<=vs.length->∀ (Q:SortKind->BI->Prop),Q κ ⟨oK s.heap a vs,s.gens,s.drawn,s.toks,s.os⟩->AE (AF prog w) A (keyKind' vs.toArray) Q E ⟨oK s.heap a vs,s.gens,s.drawn,s.toks,s.os⟩)
  (hask:∀x∈vs,∀y∈vs,∀ (Q:Bool->BI->Prop) (E':BH->BI->Prop),Q (decide<|rk x<rk y) ⟨oK s.heap a vs,s.gens,s.drawn,s.toks,s.os⟩->AE (AF prog w) A (keyLt' κ x y) Q E' ⟨oK s.heap a vs,s.gens,s.drawn,s.toks,s.os⟩)
  (h:∀out:Array BH,out.toList.Perm vs->(out.toList.map rk).Pairwise (·<·)->R (.done<|.ret .none) {s with heap:=sortedHeap s.heap a vs out}):AE (AF prog w) A (Builtin.«list.sort» ⟨[.ref a],[]⟩) R E s:=by
 have lt:a<s.heap.objs.size:=aO ho;have sz:vs.toArray.size=vs.length:=by simp
 obtain⟨n0,g1⟩:∃n0,(s.heap.update a<|Obj.mapSeq λ_=> #[]).get? a=some (AZ "list" #[] n0):=⟨_,BG ho λ_=> #[]⟩
 have n1:a≠((s.heap.update a<|Obj.mapSeq λ_=> #[]).push<|AZ "tuple" vs.toArray 0).objs.size:=by rw[size_push',oN];exact bM<|nJ lt
 have n2:a≠(s.heap.update a<|Obj.mapSeq λ_=> #[]).objs.size:=by rw[oN];exact bM lt
 have g6:(oK s.heap a vs).get? a=some (AZ "list" #[] n0):=by unfold oK;rw[aKZ _ _ _ n1,aKZ _ _ _ n2,g1]
 rw[list_sort_plain];refine AA (listItems_at ho rfl<|AA (listUpdate_at ho rfl (AA (seqEpoch_at g1 rfl<|AA (wpAny_newTuple (AA (wpAny_newList (AT ?_)<|cD _))<|by show vs.length<=_;rw[AU];omega))) (by rw[sz,AU];omega)<|cD _));show AE (AF prog w) A _ R E ⟨oK s.heap a vs,s.gens,s.drawn,s.toks,s.os⟩;dsimp only
 by_cases h2:vs.toArray.size<2
 ·rw[if_pos h2,if_pos h2];refine AA<|AB ?_;rw[StateT.run_pure];refine AA (AB (AA<|seqEpoch_at g6 rfl (AA<|listUpdate_at g6 rfl ?_ (cD _) ?_)))
  ·simp only[bne_self_eq_false,if_false,cJ];refine AB ?_
   have e:Array.map (λ(x:Keyed)=>x.2) (arrOf<|SortSt.mk' general' (vs.toArray.zip vs.toArray) #[] 7 none)=vs.toArray:=by apply oF.mp;rw[Array.toList_map];show(vs.toArray.zip vs.toArray).toList.map _=vs;rw[aIk,aN];exact lD _
   rw[e];refine h vs.toArray (.refl _) ?_;rw[sz] at h2
   match vs,h2 with
   |[],_=>exact .nil
   |[v],_=>exact aCN _ _
  ·show(Array.map _<|vs.toArray.zip vs.toArray).size<=_;rw[Array.size_map,Array.size_zip,sz,AU];omega
 ·rw[if_neg h2,if_neg h2];rw[sz] at h2;refine AA<|hkind (by omega) _ ?_;refine AA<|Af (kat_run (ks:=vs) (vs:=vs) (κ:=κ) (Q:=λst' s'=>∃q:Array Nat,arrOf st'=q.map (kas_item<|vs.toArray.zip vs.toArray)/\failedOf st'=none/\q=dU (λi j=>decide<|rk (vs.getD i .none)<rk (vs.getD j .none)) (kas_sort vs.length)/\s'=⟨oK s.heap a vs,s.gens,s.drawn,s.toks,s.os⟩) rfl (by omega) hn (λq st' s' a1 a2 a3 a4=>⟨q,a2,a3,a4⟩)<|(aIe (n:=vs.length)<|by omega).wp (ans:=λi j=>decide<|rk (vs.getD i .none)<rk (vs.getD j .none)) (λi j C hi hj hC=>hask _ (getD_mem hi) _ (getD_mem hj) _ _ hC) ⟨rfl,rfl⟩) ?_ λ_ _ z=>z;rintro⟨⟨⟩,st'⟩ s' ⟨q,har,hf,eq,rfl⟩;dsimp only;have es:=kat_snds (ks:=vs) (vs:=vs) rfl har
  have un:∀i j,i<vs.length->j<vs.length->i≠j->rk (vs.getD i .none)≠rk (vs.getD j .none):=λi j hi hj hij e=>by
   have e1:∀k,k<vs.length->(vs.map rk)[k]? =some (rk<|vs.getD k .none):=λk hk=>by simp[bF,hk]
   exact hij ((List.getElem?_inj (by rw[aB];exact hi) nd).mp<|by rw[e1 i hi,e1 j hj,e])
  obtain ⟨up,al⟩:=aNn (n:=vs.length) (ans:=fun i j=>decide (rk (vs.getD i .none)<rk (vs.getD j .none))) ⟨fun i j k _ _ _ h1 h2=>by simp only [decide_eq_true_eq] at *; omega,fun i _=>by simp,fun i j hi hj hij=>by
   have:=un i j hi hj hij;simp only[decide_eq_true_eq]
   omega⟩ (by omega)
  rw[<-eq] at up al;have so:((arrOf st').map (·.2)).toList=q.toList.map λi=>vs.getD i .none:=by rw[es]
  have p2:((arrOf st').map (·.2)).toList.Perm vs:=by
   rw[so];refine(al.map _).trans<|List.Perm.of_eq ?_;refine gZ (by simp) λi h1 h2=> ?_
   simp[bF,h2]
  refine AA<|seqEpoch_at g6 rfl (AA<|listUpdate_at g6 rfl ?_ (cD _) ?_)
  ·rw[hf];simp only[bne_self_eq_false,if_false,cJ];refine AB<|h _ p2 ?_;rw[so,aN,List.pairwise_iff_getElem];intro i j hi hj hij;rw[aB,cZ] at hi hj;have:=up i j hij (by rw[<-al.size];exact hj);simp only[gN,oQ,hi,hj,dite_true,decide_eq_true_eq] at this;simpa using this
  ·have:=p2.length_eq;rw[cZ] at this;rw[this,AU];omega
open PySem.W (kat_lt kat_cons kat_nil kat_yes kat_no kat_one kat_kind KatTups KatLex)
theorem aDl{l:BJ}{vs:List BH}{κ:SortKind}{rk:BH->Nat}{Q:BH->BI->Prop}(hl:s.heap.IsList l vs.toArray)(nd:(vs.map rk).Nodup)(hn:vs.length<64)
  (hkind:∀t:BI,(∀b o,s.heap.get? b=some o->t.heap.get? b=some o)->2<=vs.length->∀ (A':BK) (R:SortKind->BI->Prop) (E':BH->BI->Prop),A'.units<=A.units+2->R κ t->AE (AF prog w) A' (keyKind' vs.toArray) R E' t)
  (hask:∀t:BI,(∀b o,s.heap.get? b=some o->t.heap.get? b=some o)->∀x∈vs,∀y∈vs,∀ (A':BK) (R:Bool->BI->Prop) (E':BH->BI->Prop),A'.units<=A.units+2->R (decide<|rk x<rk y) t->AE (AF prog w) A' (keyLt' κ x y) R E' t)
  (h:∀out:Array BH,out.toList.Perm vs->(out.toList.map rk).Pairwise (·<·)->Q (.ref<|s.heap.objs.size+1) {s with heap:=sortedAll s.heap vs out}):AE (AF prog w) A (call (.builtin "sorted") [.ref l]) Q E s:=by
 have hsz:((s.heap.push<|AZ "list" #[] 0).update s.heap.objs.size (Obj.mapSeq (·++vs.toArray))).objs.size=s.heap.objs.size+1:=by rw[oN,size_push']
 have hoL:(((s.heap.push<|AZ "list" #[] 0).update s.heap.objs.size (Obj.mapSeq (·++vs.toArray))).push<|AZ "list" vs.toArray 0).get? (s.heap.objs.size+1)=some (AZ "list" vs.toArray 0):=by rw[<-hsz];exact aS _ rfl
 have k2:∀b o,s.heap.get? b=some o->(((s.heap.push<|AZ "list" #[] 0).update s.heap.objs.size (Obj.mapSeq (·++vs.toArray))).push<|AZ "list" vs.toArray 0).get? b=some o:=λb o g=>by
  have nb:s.heap.objs.size≠b:=λz=>absurd (aO g) (by rw[<-z];exact dZ _)
  refine aD _ ?_;rw[cP _ _ nb];exact aD _ g
 have k6:∀b o,s.heap.get? b=some o->(oK (((s.heap.push<|AZ "list" #[] 0).update s.heap.objs.size (Obj.mapSeq (·++vs.toArray))).push<|AZ "list" vs.toArray 0) (s.heap.objs.size+1) vs).get? b=some o:=λb o g=>by
  have nb:s.heap.objs.size+1≠b:=λz=>by have:=aO g;rw[<-z] at this;exact absurd this (aCP.mpr<|fK _)
  unfold oK;refine aD _<|aD _ ?_;rw[cP _ _ nb];exact k2 b o g
 refine Calls.call_function_entry kind_sorted plain_sorted entry_sorted (args_sorted1<|.ref l) ?_;unfold Builtin.«sorted»;refine AA (m:=checkCount "sorted" 1 1 _) (AB<|AA (collect_list hl (AA (wpAny_newList ?_<|by rw[AU];omega))<|by rw[AU];omega));show AE _ _ _ _ _ ⟨((s.heap.push<|AZ "list" #[] 0).update s.heap.objs.size (Obj.mapSeq (·++vs.toArray))).push<|AZ "list" vs.toArray 0,s.gens,s.drawn,s.toks,s.os⟩;rw[hsz];refine AA (AT (AQ slot_list_sort ⟨_,hoL,rfl⟩ entry_list_sort (zN (κ:=κ) (rk:=rk) (s:=⟨_,s.gens,s.drawn,s.toks,s.os⟩) hoL nd hn (λh2 R q=>hkind ⟨oK (((s.heap.push<|AZ "list" #[] 0).update s.heap.objs.size (Obj.mapSeq (·++vs.toArray))).push<|AZ "list" vs.toArray 0) (s.heap.objs.size+1) vs,s.gens,s.drawn,s.toks,s.os⟩ k6 h2 _ R _ ?_ q) (λx hx y hy R E' q=>hask ⟨oK (((s.heap.push<|AZ "list" #[] 0).update s.heap.objs.size (Obj.mapSeq (·++vs.toArray))).push<|AZ "list" vs.toArray 0) (s.heap.objs.size+1) vs,s.gens,s.drawn,s.toks,s.os⟩ k6 x hx y hy _ R E' ?_ q) λout p1 p2=>⟨_,rfl,AB ⟨_,rfl,h out p1 p2⟩⟩)<|args_list_sort _))
 all_goals simp only[Around.in1];omega
theorem aML{fin b:Bool}{Q:Bool->BI->Prop}{r:List (BH×BH)}(x:aHs A s fin r b):∀ {i:Nat},Q b s->KatLex prog w A false fin Q r i s:=by
 induction x with
 |nil=>intro i q;exact kat_nil q
 |eq he _ ih=>intro i q;exact kat_cons<|SeqAt.EqAt.of_in1 he prog w _ _ (kat_yes<|ih q)
 |@lt x y r b he hl=>intro i q;refine kat_cons (SeqAt.EqAt.of_in1 he prog w _ _<|kat_no ?_);rw[aAK];exact kat_one x y (wpAny_of_in1<|hl prog w _ _ q)
theorem wL{α β:Type}{G:α->β->Prop}:∀ {l:List α}{m:List β}{n:Nat}{a:α},Paired G l m->l[n]? =some a->∃b,m[n]? =some b/\G a b
 |_,_,_,_,.nil,h=>by simp at h
 |_,_,0,_,.cons r _,h=>by cases h;exact⟨_,rfl,r⟩
 |_,_,n+1,_,.cons _ t,h=>wL (n:=n) t (by simpa using h)
theorem rM{α β:Type}{G:α->β->Prop}:∀ {l:List α}{m:List β} (n:Nat),Paired G l m->Paired G (l.eraseIdx n) (m.eraseIdx n)
 |_,_,_,.nil=>.nil
 |_,_,0,.cons _ t=>t
 |_,_,n+1,.cons r t=>.cons r<|rM n t
def aSi(X:Cx):V->List V->Hp->VK->Prop:=λx vs H Q=>∃ (F:Hp) (l ad:BJ) (k:List Key) (y:V) (n:Nat) (o:BM) (kvs:List (List Key×V)),x=.ref l/\vs=[.ref ad]/\Same F H/\H l=some (exO l o)/\F ad=some (.tup<|k.map kV)/\X.A.units+1<AM/\
 TDo X.prog X.w F l o kvs/\kvs[n]? =some (k,y)/\(∀o',(∀v,o'.data≠ .cell v)->TDo X.prog X.w F l o' (kvs.eraseIdx n)->Q y (upd H l<|exO l o'))
theorem aOP:MtR X "dict.pop" (aSi X):=by
 intro pins s σ H x vs v us Q I rx rv h;obtain⟨F,l,ad,k,y,n,o,kvs,rfl,rfl,sF,hl,ha,hu,⟨z,hm,ts,kt,es,ep,t1,t2,t3,t4⟩,hn,q1⟩:=h;obtain rfl:v=Value.ref l:=rx;obtain⟨u,rfl,ru⟩:=Vals.one rv;obtain rfl:u=Value.ref ad:=ru;have ho:s.heap.get? l=some o:=(I.hok l _ hl).1;have ktH:KT H kvs ts:=kt.keeps λb ys e=>sF _ _ e
 have dd:s.heap.DictOfH (Ai<|eP X.prog X.w) l ts:=⟨o,es,ep,ho,t1,t2,t3,KT.all I.hok ktH,t4⟩;have hz:ts.length<=AH:=by rw[<-Paired.length kt];exact z
 obtain⟨⟨k',b,w'⟩,hj,e1,_,rw'⟩:=wL kt hn;have e1:k=k':=e1;subst e1;refine call_meetsIn aBG dd.typeIs PySem.F.entry_dict_pop (PySem.F.args_dict_pop_2 _ _) (aDd (Ai<|eP X.prog X.w) l ad) ⟨Ac hu,k,ts,n,(b,w'),mS I.hok<|sF _ _ ha,dd,hz,hj,λh' dd' hsm=> ?_⟩;obtain⟨q,es',ep',hq,u2,u3,u4,_,u5⟩:=dd';have I4:=pV (t':=s.toks+(Ai<|eP X.prog X.w).draws k) I (ob:=exO l q) (by rw[hl];exact True.intro) hsm ⟨q,hq⟩<|qZ hq;exact⟨y,_,I4,rw',q1 q (λv z=>by rw[u3] at z;cases z) ⟨by have:=List.length_eraseIdx_le kvs n;omega,hm,_,rM n kt,es',ep',u2,u3,u4,u5⟩⟩
variable {e:Expr}{l:BJ}{ls:List BJ}{ks:List (List Key)}{dss:List (List D)}
theorem aNg(i:Nat)(hg:Gl X "len")(hm:X.mg "len"=none)(hs:sd[i]? =some (odG X.prog X.w X.K l ks ls dss))(hx:PE X (.Name x p2) (iQ i))(hst:AC [.Name x p2] X.env=(false,eval (.Name x p2) X.env)::AC [] X.env:=by rfl):PEd X sd (.Call (.Name "len" p) [.Name x p2] [] pos) (.val<|.int (ks.length:Nat)):=.mk λσ F H S=>
 (tE aGx hg hm PySem.boot_len (dP hx pa_nil hst) (by decide) (by decide) hst rfl).to (by
  obtain⟨hv,hF,⟨o,g1,nc,hl,z,sm,xs,kt,es,ep,t1,t2,t3,t4⟩,hI,nd⟩:=iG S hs;refine⟨.ref l,hv,l,o,es,ep,rfl,g1,t1,t2,sm, ?_,F,S,Same.refl _, ?_⟩
  ·have:=Ax t3;have e2:=Paired.length kt;omega
  ·have:=Ax t3;have e2:=Paired.length kt;have e3:(ks.zip<|ls.map V.ref).length=ks.length:=by rw[jT,aB,hl,pH]
   simp only[ResOk,Rep]
   rw[this,<-e2,e3])
theorem aEI{F:Hp}:∀ {kvs:List (List Key×V)}{xs:List (List Key×BJ×BH)},KT F kvs xs->Vals (xs.map λq=>V.ref q.2.1) (xs.map λq=>Value.ref q.2.1)
 |_,_,.nil=>.nil
 |_,_,.cons _ t=>.cons rfl<|aEI t
theorem aJX{K:aA}{F:Hp}:∀ {kvs:List (List Key×V)}{xs:List (List Key×BJ×BH)},KT F kvs xs->RepL K F ((kvs.map (·.1)).map nT) (xs.map λq=>V.ref q.2.1)
 |_,_,.nil=>.nil
 |_,_, @Paired.cons _ _ _ p q _ _ r t=>by refine .cons ?_ (aJX t);simp only[nT,Rep];refine⟨q.2.1,p.1.map kV,rfl,r.2.1, ?_⟩;exact yO _
theorem aIj(i:Nat)(hg:Gl X "list")(hm:X.mg "list"=none)(hs:sd[i]? =some (odG X.prog X.w X.K l ks ls dss))(hx:PE X (.Name x p2) (iQ i))(hc:X.calm=true:=by rfl)(hst:AC [.Name x p2] X.env=(false,eval (.Name x p2) X.env)::AC [] X.env:=by rfl):PEd X sd (.Call (.Name "list" p) [.Name x p2] [] pos) (.own<|ks.map nT):=.mk λσ F H S pins s I=>by
 obtain⟨hv,hF,⟨o,g1,nc,hl,z,sm,xs,kt,es,ep,t1,t2,t3,t4⟩,hI,nd⟩:=iG S hs;refine AJ<|hX I hg hm PyProof.Rows.boot_list ?_;refine PyProof.Rows.callWith_type1 (thn ((dP hx pa_nil hst) pos pins s σ H (λus H1=>us=[.ref l]/\H1=H) I ⟨.ref l,hv,rfl,rfl⟩) λus s1 hus=> ?_) hst rfl;obtain⟨ws,H1,I1,rv,rfl,rfl⟩:=hus;obtain⟨u,rfl,ru⟩:=mL rv;cases(show u=Value.ref l from ru);have ez:es.size=xs.length:=Ax t3
 have e3:(ks.zip<|ls.map V.ref).map (·.1)=ks:=by rw[List.map_fst_zip];rw[aB];omega
 have e2:xs.length=ks.length:=by have:=Paired.length kt;rw[jT,aB] at this;omega
 have ho:s1.heap.get? l=some o:=(I1.hok l _ g1).1;refine PySem.W.kdl_call (srcD sm t1 t2) (I1.ok.hd hc) ho (by have:=Paired.length kt;omega) λh' tk acc c' kp gl it=> ?_
 have al:acc=(xs.map λq=>Value.ref q.2.1).toArray:=by
  apply oF.mp;apply kH;intro j
  by_cases hj:j<acc.toList.length
  ·have e4:acc.toList[j]? =some acc.toList[j]:=by simp[hj]
   obtain⟨u,q,ev⟩:=it.2 j acc.toList[j] (by rw[<-eM];exact e4);rw[e4,ev];rw[<-eM,t3,aY] at q;obtain⟨y,hy,ey⟩:=eE.mp q;rw[<-ey];simp[hy,entryOfKey]
  ·have a1:acc.toList.length=es.size:=by rw[cZ];exact it.1
   rw[dJ<|by omega,dJ<|by simp;omega]
 subst al;have le2:s1.heap.objs.size<=s1.heap.objs.size:=aR _;have hD:H1 s1.heap.objs.size=none:=I1.hok.fresh le2
 have I4:Inv X pins σ (upd H1 s1.heap.objs.size (.lst<|xs.map λq=>V.ref q.2.1)) {s1 with heap:=h',toks:=tk}:=
  I1.laid kp le2 ⟨by rw[aB];have:=Paired.length kt;omega,_,c',aEI kt,gl⟩
 obtain⟨S4,fp,no⟩:=S.layO (xs:=xs.map λq=>V.ref q.2.1) hD;refine⟨.ref s1.heap.objs.size,_,I4,rfl,F,S4,Same.refl _,_,_,rfl,fp,bL, ?_,no⟩;have:=aJX (K:=X.K) kt;rw[e3] at this;exact this
noncomputable def kE(ds:List D):Nat:=Ab (λi k=>dlt (ds.getD i .non)<|ds.getD k .non)<|ds.length-1
structure aLA(X:Cx)(ds:List D):Prop where
 ne:0<ds.length
 cmp:∀d∈ds,∀d2∈ds,sV d d2=true
 pl:∀d∈ds,pl d=true
 dep:∀d∈ds,X.A.units+1+dep d<AM
theorem aGq(hc:X.calm=true):mG X (.builtin "min") (λvs H Q=>∃ (a:BJ) (xs:List V) (ds:List D),vs=[.ref a]/\SqL X.K H a xs/\RepL X.K H ds xs/\aLA X ds/\∀v,xs[kE ds]? =some v->Q v H):=by
 intro pins s σ H vs us Q I r h;obtain⟨a,xs,ds,rfl,ha,rl,M,q⟩:=h;obtain⟨u,rfl,rx⟩:=mL r;cases(show u=Value.ref a from rx);obtain⟨its,rv,p,hz⟩:=I.list ha;have hl:=rv.length;have hd:=rl.len;have isl:s.heap.IsList a its.toArray:=p.isList;have alt:a<s.heap.objs.size:=by obtain⟨o,ho,_⟩:=isl;exact aO ho
 refine aGR<|wpAny_pyIter_list isl ?_;refine⟨s.heap.objs.size,[s.heap.objs.size,a],[s.heap.objs.size],its.toArray.size,_,_,λh=>HOk X.prog X.w H h,λi k=>dlt (ds.getD i .non)<|ds.getD k .non,rfl,Walks.list (A:=X.A.in1) (I.ok.hd hc) _ a (bM alt) its.toArray,⟨⟨_,aS _ rfl,rfl,rfl⟩,isl.push _⟩,λb hb=> ?_,by simp;have:=M.ne;omega, ?_, ?_, ?_,λv h' tk pv k=> ?_⟩
 ·rw[mM];simp only[aU,dO,or_false] at hb
  rcases hb with rfl|rfl
  ·exact jG _
  ·exact nJ alt
 ·intro i k x y t Q' E' hJ hx hy q';have hx:its[i]? =some x:=by simpa using hx
  have hy:its[k]? =some y:=by simpa using hy
  have li:i<ds.length:=by have:=(aI.mp hx).1;omega
  have lk:k<ds.length:=by have:=(aI.mp hy).1;omega
  have ei:ds[i]? =some (ds.getD i .non):=by simp[bF,li]
  have ek:ds[k]? =some (ds.getD k .non):=by simp[bF,lk]
  obtain⟨v1,g1,r1⟩:=rl.get ei;obtain⟨v2,g2,r2⟩:=rl.get ek;obtain⟨u1,w1,z1⟩:=rv.get g1;obtain⟨u2,w2,z2⟩:=rv.get g2;rw[hx] at w1;rw[hy] at w2;cases w1;cases w2;have mi:=bH ei;have mk:=bH ek;exact aKW hJ (ds.getD i .non) (M.cmp _ mi _ mk) (M.pl _ mi) (M.pl _ mk) r1 r2 z1 z2 (by have:=M.dep _ mi;simp only[Around.in1];omega) X.prog X.w _ _ q'
 ·exact aAT (cs:=[]) I.hok (λb u _ g=>aD _ g) λb hb=>by cases hb
 ·intro h1 h2 j1 kp;refine aAT (cs:=[s.heap.objs.size+1,s.heap.objs.size]) j1 (λb u hb g=>kp b u (λz=>hb ?_) g) λb hb=> ?_
  ·rw[mM] at z;exact z
  ·simp only[aU,dO,or_false] at hb
   rcases hb with rfl|rfl
   ·exact I.hok.fresh<|fK _
   ·exact I.hok.fresh<|aR _
 ·have eb:Ab (λi k=>dlt (ds.getD i .non)<|ds.getD k .non) (its.toArray.size-1)=kE ds:=by unfold kE;rw[aK];congr 1;omega
  rw[eb] at pv;have pv:its[kE ds]? =some v:=by simpa using pv
  have lb:kE ds<xs.length:=by have:=(aI.mp pv).1;omega
  have ex:xs[kE ds]? =some xs[kE ds]:=by simp[lb]
  obtain⟨u,hu,ru⟩:=rv.get ex;rw[pv] at hu;cases hu;refine⟨xs[kE ds],H,I.kept (t':=tk) λb o g=>k b o (λz=> ?_)<|aD _ g,ru,q _ ex⟩;have zb:b=s.heap.objs.size:=by simpa using z
  exact bM (aO g) zb
theorem aNk{d:D}(hg:Gl X "min")(hm:X.mg "min"=none)(ha:PEd X sd e (.bor ds))(M:aLA X ds)(hd:ds[kE ds]? =some d)(hc:X.calm=true:=by rfl)(hst:AC [e] X.env=(false,eval e X.env)::AC [] X.env:=by rfl):PEd X sd (.Call (.Name "min" p) [e] [] pos) (.val d):=
 mZ (he:=hst) (aGq hc) hg hm boot_min (aC ha aM trivial hst) λσ F H vs Q S q k=>by
  cases q with
  |cons q1 q2=>cases q2;obtain⟨p,xs,rfl,hp,rl,_⟩:=q1;refine⟨p,xs,ds,rfl,.of hp,rl.mono S.sub,M,λv hv=>k v F H S (Same.refl _) ?_⟩;obtain⟨v',g,r'⟩:=rl.get hd;rw[hv] at g;cases g;exact r'
theorem aAo{α β:Type}:∀ (a:List α) (b:List β) (n:Nat),a.length=b.length->(a.zip b).eraseIdx n=(a.eraseIdx n).zip (b.eraseIdx n)
 |[],[],_,_=>by simp
 |_::_,[],_,h=>by simp at h
 |[],_::_,_,h=>by simp at h
 |x::a,y::b,0,_=>rfl
 |x::a,y::b,n+1,h=>by show(x,y)::(a.zip b).eraseIdx n=(x,y)::(a.eraseIdx n).zip (b.eraseIdx n);rw[aAo a b n<|by simpa using h]
theorem zW{α β:Type}(f:α->β):∀ (l:List α) (n:Nat),(l.eraseIdx n).map f=(l.map f).eraseIdx n
 |[],_=>by simp
 |_::_,0=>rfl
 |x::l,n+1=>by show f x::(l.eraseIdx n).map f=f x::(l.map f).eraseIdx n;rw[zW f l n]
theorem aFN{j:Nat}{z:Slot}{a:BJ}(h:sd[j]? =some z)(ha:a∈fS z):a∈cC sd:=dN.mpr ⟨z,bH h,ha⟩
variable {K:aA}{H₀ F F' H H':Hp}{σ:St}{i:Nat}{P:AD}
theorem StF.popG{o:BM}(n:Nat)(S:StF K H₀ F H σ sd)(hs:sd[i]? =some (odG P w K l ks ls dss))(nc:∀v,o.data≠ .cell v)(td:TDo P w F l o ((ks.zip<|ls.map V.ref).eraseIdx n)):
  StF K H₀ F (upd H l<|exO l o) σ (sd.set i (odG P w K l (ks.eraseIdx n) (ls.eraseIdx n)<|dss.eraseIdx n)):=by
 obtain⟨g1,g2,⟨o',g3,nc',hl,_⟩,g4,g5⟩:=iG S hs;obtain⟨n1,n2⟩:=bX.mp g5
 have sb:∀b,b∈l::ls.eraseIdx n->b∈l::ls:=λb hb=>by
  rcases aU.mp hb with h|h
  ·exact h▸aH
  ·exact aE _<|jQ h
 refine S.reX (z':=odG P w K l (ks.eraseIdx n) (ls.eraseIdx n)<|dss.eraseIdx n) hs g1 (λb ob hb q=> ?_) (mY S.smp l) (wQ (λb hb=>g2 b<|sb b hb) bL nc ?_ ?_ ?_) ?_ λb hb=>.inl<|sb b hb
 ·rw[bD (show b≠l from λz=>hb<|z▸aH)];exact q
 ·rw[aHc,aHc,hl]
 ·rw[zW,<-aAo _ _ _ (by rw[aB];exact hl)];exact td
 ·refine InD.erase n<|g4.mono2 (Same.refl _) λb hb ob q=> ?_;rw[bD (show b≠l from λz=>n1<|z▸hb)];exact q
 ·show(l::ls.eraseIdx n).Nodup;exact bX.mpr ⟨λh=>n1<|jQ h,n2.sublist<|qB _ _⟩
open PySem.W (kat_lt kat_kind KatTups KatLex)
noncomputable abbrev Pr2:=List Int×List Int
noncomputable def p2D(x:Pr2):D:=.tup [bN x.1,bN x.2]
theorem aRl(x:Pr2):pl (p2D x)=true:=by show(pl (bN x.1)&&(pl (bN x.2)&&true))=true;rw[rV,rV];rfl
theorem xH:∀a b:List Int,zJ (a.map D.int) (b.map D.int)=true
 |[],_=>rfl
 |_::_,[]=>rfl
 |x::a,y::b=>by show(true&&zJ (a.map D.int) (b.map D.int))=true;rw[xH a b];rfl
theorem aPh(x y:Pr2):zJ [bN x.1,bN x.2] [bN y.1,bN y.2]=true:=by show(zJ (x.1.map D.int) (y.1.map D.int)&&(zJ (x.2.map D.int) (y.2.map D.int)&&true))=true;rw[xH,xH];rfl
theorem aCk{x:List Int}{v:V}(h:Rep K F (bN x) v):∃c,v=.ref c/\F c=some (.tup<|x.map V.int):=by simp only[bN,Rep] at h;obtain⟨c,ys,rfl,e,r⟩:=h;have:=(show RepL K F (x.map D.int) ys from r).ints;subst this;exact⟨c,rfl,e⟩
theorem aBm:∀ {x y:List Int},x.map V.int=y.map V.int->x=y
 |[],[],_=>rfl
 |[],_::_,h=>by cases h
 |_::_,[],h=>by cases h
 |a::x,b::y,h=>by
  rw[aV,aV] at h;injection h with h1 h2
  injection h1 with h1
  rw[h1,aBm h2]
theorem aJJ{x:Pr2}{v:V}(h:Rep K F (p2D x) v):∃a c d,v=.ref a/\F a=some (.tup [.ref c,.ref d])/\F c=some (.tup<|x.1.map V.int)/\F d=some (.tup<|x.2.map V.int):=by simp only[p2D,Rep] at h;obtain⟨a,ys,rfl,e,r⟩:=h;obtain⟨v1,ys1,rfl,r1,t1⟩:=r.uncons;obtain⟨v2,ys2,rfl,r2,t2⟩:=t1.uncons;simp only[RepL] at t2;subst t2;obtain⟨c,rfl,f1⟩:=aCk r1;obtain⟨d,rfl,f2⟩:=aCk r2;exact⟨a,c,d,rfl,e,f1,f2⟩
theorem aDb{x y:Pr2}{v:V}(h:Rep K F (p2D x) v)(g:Rep K F (p2D y) v):x=y:=by obtain⟨a,c,d,rfl,e,f1,f2⟩:=aJJ h;obtain⟨a',c',d',ea,e',f1',f2'⟩:=aJJ g;cases ea;rw[e] at e';cases e';rw[f1] at f1';rw[f2] at f2';have h1:=aBm (HO.tup.inj<|bY.inj f1');have h2:=aBm (HO.tup.inj<|bY.inj f2');exact Prod.ext h1 h2
structure SrtP(A:BK)(ps:List Pr2)(rk:Pr2->Nat):Prop where
 len:ps.length<64
 lt:∀x∈ps,∀y∈ps,dlt (p2D x) (p2D y)=decide (rk x<rk y)
 nd:(ps.map rk).Nodup
 un:A.units+8<AM
theorem aPr(x:Pr2):dep (p2D x)=2:=by show max (dep<|bN x.1) (max (dep<|bN x.2) 0)+1=2;rw[wD,wD];rfl
noncomputable def srE{α:Type}(hd:α->List D)(sn:α->D)(x:α):D:=.tup [.tup<|hd x,sn x]
structure aSk{α:Type}(A:BK)(K:aA)(hd:α->List D)(sn:α->D)(ps:List α)(rk:α->Nat):Prop where
 len:ps.length<64
 lt:∀x∈ps,∀y∈ps,qD [.tup<|hd x,sn x] [.tup<|hd y,sn y]=decide (rk x<rk y)
 nd:(ps.map rk).Nodup
 un:A.units+8<AM
 pl:∀x∈ps,plL [.tup<|hd x,sn x]=true
 cm:∀x∈ps,∀y∈ps,zJ [.tup<|hd x,sn x] [.tup<|hd y,sn y]=true
 dp:∀x∈ps,jZ [.tup<|hd x,sn x]<=4
 inj:∀ (F:Hp) (x y:α) (v:V),Rep K F (srE hd sn x) v->Rep K F (srE hd sn y) v->x=y
theorem aEU{v:V}(h:Rep K F (.tup ds) v):∃a,v=.ref a:=by simp only[Rep] at h;obtain⟨a,_,rfl,_⟩:=h;exact⟨a,rfl⟩
variable {α:Type}{hd:α->List D}{sn:α->D}
theorem aDC:mG X (.builtin "sorted") (fun vs H Q=>∃ (a:BJ) (xs:List V) (ps:List α) (rk:α→Nat),vs=[.ref a]∧H a=some (.lst xs)∧RepL X.K H (ps.map (srE hd sn)) xs∧aSk X.A X.K hd sn ps rk∧
  ∀ (D:BJ) (ys:List V) (qs:List α),H D=none->qs.Perm ps->(qs.map rk).Pairwise (·<·)->(∀F,RepL X.K F (ps.map (srE hd sn)) xs->RepL X.K F (qs.map (srE hd sn)) ys)->Q (.ref D) (upd H D (.lst ys))):=by
 intro pins s σ H vs us Q I r h;obtain⟨a,xs,ps,rk,rfl,ha,rl,M,q⟩:=h;obtain⟨u,rfl,rx⟩:=mL r;cases(show u=Value.ref a from rx);obtain⟨z,its,n,rv,hl2,eo⟩:=I.lstM ha
 have tb:∀ {ps:List α}{xs:List V}{us:List BH},RepL X.K H (ps.map<|srE hd sn) xs->Vals xs us->∃T:List (α×BJ),us=(T.map λr=>Value.ref r.2)/\xs=(T.map λr=>V.ref r.2)/\ps=(T.map λr=>r.1)/\∀r∈T,Rep X.K H ((srE hd sn) r.1) (.ref r.2):=by
  intro ps
  induction ps with
  |nil=>intro xs us r rv;rw[eA] at r;simp only[RepL] at r;subst r;cases rv;exact⟨[],rfl,rfl,rfl,λr h=>(dO h).elim⟩
  |cons x ps ih=>
   intro xs us r rv;rw[aV] at r;obtain⟨v,xs,rfl,a,rl⟩:=r.uncons;cases rv with
   |cons ru rv=>
    obtain⟨T,e1,e2,e3,t1⟩:=ih rl rv;obtain⟨b,rfl⟩:=aEU a;cases ru;refine⟨(x,b)::T,by rw[aV,<-e1],by rw[aV,<-e2],by rw[aV,<-e3],λr hr=> ?_⟩
    rcases aU.mp hr with rfl|hr
    ·exact a
    ·exact t1 r hr
 obtain⟨T,rfl,rfl,rfl,tr⟩:=tb rl rv
 obtain⟨rkW,hrk⟩:∃rkW:BH->Nat,∀r∈T,rkW (.ref r.2)=rk r.1:=by
  classical
  refine⟨λv=>if h:∃r∈T,v=Value.ref r.2 then rk h.choose.1 else 0,λr hr=> ?_⟩;have h:∃r'∈T,Value.ref r.2=Value.ref r'.2:=⟨r,hr,rfl⟩;show(if h:∃r'∈T,Value.ref r.2=Value.ref r'.2 then rk h.choose.1 else 0)=_;rw[dif_pos h]
  have e2:r.2=h.choose.2:=by have:=h.choose_spec.2;injection this
  have r2:=tr _ h.choose_spec.1;rw[<-e2] at r2;rw[M.inj _ _ _ _ r2<|tr r hr]
 have mT:∀ {r:α×BJ},r∈T->r.1∈T.map λr=>r.1:=λh=>rJ (f:=λr:α×BJ=>r.1) h
 have lT:T.length<64:=by simpa using M.len
 have mv:∀x∈(T.map λr=>Value.ref r.2),∃r∈T,x=Value.ref r.2:=λx hx=>by obtain⟨r,hr,e⟩:=aJ.mp hx;exact⟨r,hr,e.symm⟩
 have ew:∀T':List (α×BJ),(∀r∈T',r∈T)->(T'.map λr=>Value.ref r.2).map rkW=(T'.map λr=>r.1).map rk:=λT' h=>by rw[aN,aN];exact bQ λr hr=>hrk r<|h r hr
 have hok':∀t:BI,(∀b o,s.heap.get? b=some o->t.heap.get? b=some o)->HOk X.prog X.w H t.heap:=λt k=>aAT (cs:=[]) I.hok (λb u _ g=>k b u g) λb hb=>(dO hb).elim
 refine aDl (l:=a) (vs:=T.map λr=>Value.ref r.2) (κ:=tuples' false) (rk:=rkW) ⟨_,eo,rfl,n,rfl⟩ (by rw[ew T λ_ h=>h];exact M.nd) (by rw[aB];exact lT) (λt kp h2 A' R E' _ hR=> ?_) (λt kp x hx y hy A' R E' hA hR=> ?_) λout p1 p2=> ?_
 ·have ok:=hok' t kp
  have kt:∀T':List (α×BJ),(∀r∈T',r∈T)->∃fs:List BH,KatTups t.heap (T'.map λr=>Value.ref r.2) fs/\fs.length=T'.length/\∀v∈fs,∃c o,v=.ref c/\t.heap.get? c=some o/\o.cls=.type "tuple":=λT'=>by
   induction T' with
   |nil=>exact λ_=>⟨[],.nil,rfl,λv hv=>(dO hv).elim⟩
   |cons r T' ih=>
    intro h;obtain⟨fs,k,l,i⟩:=ih λr hr=>h r<|aE _ hr
    have rr:=tr r<|h r aH;obtain⟨b,ys,its,e1,e2,r2,v2,o,g,c,n',hd1⟩:=iC ok rr (show RelV (.ref r.2) (.ref r.2) from rfl);cases e1;cases e2;have r2:RepL X.K H [.tup<|hd r.1,sn r.1] ys:=r2;obtain⟨w1,ys1,rfl,q1,t1⟩:=r2.uncons;obtain⟨w2,ys2,rfl,q2,t2⟩:=t1.uncons;simp only[RepL] at t2;subst t2;obtain⟨c1,rfl⟩:=aEU q1;cases v2 with
    |cons ru1 v2=>
     cases ru1;obtain⟨b1,ys1,its1,e3,e4,_,_,o1,g1,cc1,_⟩:=iC ok q1 (show RelV (.ref c1) (.ref c1) from rfl);cases e3;refine⟨.ref c1::fs,KatTups.cons g c hd1 (by simp) k,by rw[bP,bP,l],λv hv=> ?_⟩
     rcases aU.mp hv with rfl|hv
     ·cases e4;exact⟨_,o1,rfl,g1,cc1⟩
     ·exact i v hv
  obtain⟨fs,k,l,i⟩:=kt T λ_ h=>h
  rw[aB] at h2;refine kat_kind (T:=.type "tuple") k (by omega) (λv hv=> ?_) rfl hR;obtain⟨c,o,rfl,g,e⟩:=i v hv;have:PySem.W.Looks (AF X.prog X.w) t.heap (typeOf<|.ref c) o.cls:=(PySem.W.Looks.ld g).andThen .now;rw[e] at this;exact this
 ·have ok:=hok' t kp;obtain⟨rx,hrx,rfl⟩:=mv x hx;obtain⟨ry,hry,rfl⟩:=mv y hy;obtain⟨b,ys,its,e1,e2,r2,v2,o,g,c,n',hd1⟩:=iC ok (tr rx hrx) (show RelV (.ref rx.2) (.ref rx.2) from rfl);cases e1;cases e2;obtain⟨b',ys',its',e1,e2,r2',v2',o',g',c',n'',hd'⟩:=iC ok (tr ry hry) (show RelV (.ref ry.2) (.ref ry.2) from rfl);cases e1;cases e2;have r2:RepL X.K H [.tup<|hd rx.1,sn rx.1] ys:=r2;have r2':RepL X.K H [.tup<|hd ry.1,sn ry.1] ys':=r2';have l1:its.length=2:=by rw[<-v2.length,r2.len];rfl
  have l2:its'.length=2:=by rw[<-v2'.length,r2'.len];rfl
  refine kat_lt g hd1 g' hd'<|aML (A:=A') (b:=qD [.tup<|hd rx.1,sn rx.1] [.tup<|hd ry.1,sn ry.1]) ?_ ?_
  ·refine aDU ok [.tup<|hd rx.1,sn rx.1] (es:=[.tup<|hd ry.1,sn ry.1]) ?_ ?_ ?_ r2 r2' v2 v2' ?_ (by simp[l1,l2])
   ·exact M.cm _ (mT hrx) _<|mT hry
   ·exact M.pl _<|mT hrx
   ·exact M.pl _<|mT hry
   ·have:=M.un;have:=M.dp _<|mT hrx;omega
  ·have e:qD [.tup<|hd rx.1,sn rx.1] [.tup<|hd ry.1,sn ry.1]=decide (rkW (.ref rx.2)<rkW (.ref ry.2)):=by rw[hrk rx hrx,hrk ry hry];exact M.lt _ (mT hrx) _ (mT hry)
   rw[e];exact hR
 ·obtain⟨T',q1,q2⟩:=aAx (f:=λr:α×BJ=>Value.ref r.2) (l:=T) (l':=out.toList) p1
  have eo2:out=(T'.map λr=>Value.ref r.2).toArray:=by apply oF.mp;rw[q2]
  rw[q2,ew T' λr hr=>q1.mem_iff.mp hr] at p2;subst eo2;obtain⟨kp,n2,g2⟩:=aCl s.heap (T.map λr=>Value.ref r.2) (T'.map λr=>Value.ref r.2).toArray;have hD:H (s.heap.objs.size+1)=none:=I.hok.fresh<|fK _;have lT':T'.length=T.length:=q1.length_eq
  have vv:Vals (T'.map λr=>V.ref r.2) (T'.map λr=>Value.ref r.2):=by
   generalize T'=U
   induction U with
   |nil=>exact .nil
   |cons r U ih=>exact .cons rfl ih
  have I3:Inv X pins σ (upd H (s.heap.objs.size+1) (.lst<|T'.map λr=>V.ref r.2)) {s with heap:=sortedAll s.heap (T.map λr=>Value.ref r.2) (T'.map λr=>Value.ref r.2).toArray}:=
   I.laid (t':=s.toks) kp (fK _) ⟨by rw[AU,aB];omega,_,n2,vv,by simpa[AZ] using g2⟩
  refine⟨.ref<|s.heap.objs.size+1,_,I3,rfl,q _ (T'.map λr=>V.ref r.2) (T'.map λr=>r.1) hD (q1.map _) p2 λF rF=> ?_⟩
  have all:∀ {U:List (α×BJ)},RepL X.K F ((U.map λr=>r.1).map<|srE hd sn) (U.map λr=>V.ref r.2)->∀r∈U,Rep X.K F ((srE hd sn) r.1) (.ref r.2):=λ{U}=>by
   induction U with
   |nil=>exact λ_ r hr=>(dO hr).elim
   |cons y U ih=>
    intro h r hr;rw[aV,aV,aV] at h;obtain⟨v,vs,e,a1,a2⟩:=h.uncons;cases e
    rcases aU.mp hr with rfl|hr
    ·exact a1
    ·exact ih a2 r hr
  have aT:=all rF;have rT:∀r∈T',Rep X.K F ((srE hd sn) r.1) (.ref r.2):=λr hr=>aT r<|q1.mem_iff.mp hr
  clear vv I3 g2 p2 q1 q2 p1 lT' kp
  induction T' with
  |nil=>exact .nil
  |cons r U ih=>exact .cons (rT r aH) (ih λq hq=>rT q<|aE _ hq)
theorem SrtP.gen{ps:List Pr2}{rk:Pr2→Nat}(M:SrtP A ps rk):aSk A K (fun x:Pr2=>x.1.map D.int) (fun x=>bN x.2) ps rk:=⟨M.len,M.lt,M.nd,M.un,fun x _=>aRl x,fun x _ y _=>aPh x y,fun x _=>by
 have:=aPr x;have:jZ [bN x.1,bN x.2]+1=2:=this;show jZ [bN x.1,bN x.2]<=4
 omega,λF x y v h1 h2=>aDb h1 h2⟩
theorem aDc:mG X (.builtin "sorted") (fun vs H Q=>∃ (a:BJ) (xs:List V) (ps:List Pr2) (rk:Pr2→Nat),vs=[.ref a]∧H a=some (.lst xs)∧RepL X.K H (ps.map p2D) xs∧SrtP X.A ps rk∧
  ∀ (D:BJ) (ys:List V) (qs:List Pr2),H D=none->qs.Perm ps->(qs.map rk).Pairwise (·<·)->(∀F,RepL X.K F (ps.map p2D) xs->RepL X.K F (qs.map p2D) ys)->Q (.ref D) (upd H D (.lst ys))):=by
 intro pins s σ H vs us Q I r h;obtain⟨a,xs,ps,rk,h1,h2,h3,M,q⟩:=h;exact aDC pins s σ H vs us Q I r ⟨a,xs,ps,rk,h1,h2,h3,M.gen,q⟩
variable {k:List Key}{E:iT}{ps:List Pr2}{rk:Pr2->Nat}
theorem aIW(i j n:Nat){y:Str}{px py ap:Pos}(hu:X.A.units+1<AM)(hg:Gl X "sorted")(hm:X.mg "sorted"=none)(hs:sd[i]? =some (odG X.prog X.w X.K l ks ls dss))(hx:PE X (.Name x px) (iQ i))(hb:PEd X sd b (.val (.tup<|k.map kD)))(hk:ks[n]? =some k)(hd:dss[n]? =some (ps.map p2D))(M:SrtP X.A ps rk)
  (hN:X.N.Nodup) (hj:X.N[j]? =some y) (hy:Loc X.env.scope y)
  (hE:∀ (l':BJ) (qs:List Pr2),qs.Perm ps->(qs.map rk).Pairwise (·<·)->E.nx ((sd.set i (odG X.prog X.w X.K l (ks.eraseIdx n) (ls.eraseIdx n)<|dss.eraseIdx n)).set j (.own l'<|qs.map p2D)))
  (hpop:PE X (.Call (.Attribute (.Name x px) "pop" ap) [b] [] cp) (λσ H Q=>iQ i σ H λv H1=>(∃l ob,v=.ref l/\H1 l=some (exO l ob)/\ob.ExactDict)/\(nF (wE X b) yH) σ H1 λxs H2=>aSi X v xs H2 Q):=by exact aOh aAE aBG PySem.F.type_dict_pop aOP (pv _) (dP eV pa_nil))
  (hst:AC [.Call (.Attribute (.Name x px) "pop" ap) [b] [] cp] X.env=(false,eval (.Call (.Attribute (.Name x px) "pop" ap) [b] [] cp) X.env)::AC [] X.env:=by rfl)
  (hsw:AX (.Call (.Name "sorted" p) [.Call (.Attribute (.Name x px) "pop" ap) [b] [] cp] [] p2) (some<|.Name y py) pos.line X.env=pure false:=by rfl)
  (hf:X.fn y=true\/X.env.scope.names.lookup y=some .local:=by first|exact .inl rfl|exact .inr rfl|assumption):
  PSd1 X sd (.Assign [.Name y py] (.Call (.Name "sorted" p) [.Call (.Attribute (.Name x px) "pop" ap) [b] [] cp] [] p2) pos) E:=.mk λσ F H S=>
 (rB hN hj hy (tE aDc hg hm boot_sorted (dP hpop pa_nil hst) (by decide) (by decide) hst rfl) hsw hf).to (by
  obtain⟨h1,h2,⟨o,h3,nc,hk2,td⟩,h4,h5⟩:=iG S hs;refine⟨.ref l,h1,⟨l,o,rfl,h3,td.2.2.choose_spec.2.choose_spec.choose_spec.1⟩,(hb σ F H S).imp λv1 H1 ⟨F1,S1,s1,q1⟩=> ?_⟩;obtain⟨g1,g2,⟨o2,g3,nc2,hk3,td2⟩,g4,g5⟩:=iG S1 hs;obtain⟨n1,n2⟩:=bX.mp g5;simp only[ResOk,Rep] at q1;obtain⟨ad,ys,rfl,ha,rl⟩:=q1;rw[pB rl] at ha;have nl:n<ls.length:=by have:=(aI.mp hk).1;omega
  have e3:ls[n]? =some ls[n]:=by simp[nl]
  generalize ls[n]=an at e3;obtain⟨ds,xs,d1,d2,d3⟩:=g4.get e3;rw[hd] at d1;cases d1;have anl:an≠l:=λz=>n1<|z▸bH e3
  have zg:(ks.zip<|ls.map V.ref)[n]? =some (k,V.ref an):=by rw[aAG];exact⟨hk,by rw[aY,e3];rfl⟩
  refine⟨F1,l,ad,k,.ref an,n,o2,ks.zip<|ls.map V.ref,rfl,rfl,S1.sub,g3,ha,hu,td2,zg,λo' nc' td'=> ?_⟩;have S2:=S1.popG n hs nc' td';refine⟨an,xs,ps,rk,rfl,by rw[bD anl];exact d2,d3.mono S2.sub,M,λD ys qs hD pm pw hr=> ?_⟩;obtain⟨S3,fp,no⟩:=S2.layO (xs:=ys) hD
  exact⟨_,F1,S3.setO j fp bL (hr F1 d3) no,s1,hE D qs pm pw⟩)
theorem InD.snocL{K:aA}{F H:Hp}{a:BJ}{ds:List D}{xs:List V}:∀ {as:List BJ}{dss:List (List D)},InD K F H as dss->H a=some (.lst xs)->RepL K F ds xs->InD K F H (as++[a]) (dss++[ds])
 |[],[],_,e,r=>⟨⟨xs,e,r⟩,trivial⟩
 |[],_::_,h,_,_=>h.elim
 |_::_,[],h,_,_=>h.elim
 |_::_,_::_,h,e,r=>⟨h.1,InD.snocL h.2 e r⟩
theorem StF.newW{a:BJ}{o:BM}{xs:List V}(S:StF K H₀ F H σ sd)(hs:sd[i]? =some (odG P w K l ks ls dss))(fa:F a=none)(ha:H a=some (.lst xs))(rl:RepL K F ds xs)(na:a∉cC sd)(nc:∀v,o.data≠ .cell v)(td:TDo P w F l o (ks.zip (ls.map V.ref)++[(k,.ref a)])):
  StF K H₀ F (upd H l<|exO l o) σ (sd.set i (odG P w K l (ks++[k]) (ls++[a])<|dss++[ds])):=by
 obtain⟨g1,g2,⟨o',g3,nc',hl,_⟩,g4,g5⟩:=iG S hs;obtain⟨n1,n2⟩:=bX.mp g5;have ml:∀b∈l::ls,b∈cC sd:=λb hb=>aFN hs hb
 have al:a≠l:=λz=>na<|z▸ml l aH
 have als:a∉ls:=λz=>na (ml a<|aE _ z)
 have sp:∀b,b∈l::(ls++[a])->b∈l::ls\/b=a:=λb hb=>by
  rcases aU.mp hb with h|h
  ·exact .inl<|h▸aH
  ·rcases bC.mp h with h|h
   ·exact .inl<|aE _ h
   ·exact .inr<|aF.mp h
 refine S.reX (z':=odG P w K l (ks++[k]) (ls++[a])<|dss++[ds]) hs g1 (λb ob hb q=> ?_) (mY S.smp l) (wQ (λb hb=> ?_) bL nc (by rw[aP,aP,hl];rfl) ?_ ?_) ?_ λb hb=> ?_
 ·rw[bD (show b≠l from λz=>hb<|z▸aH)];exact q
 ·rcases sp b hb with h|rfl
  ·exact g2 b h
  ·exact fa
 ·rw[aZ,aV,eA,tV<|by rw[aB];exact hl];exact td
 ·refine InD.snocL (g4.mono2 (Same.refl _) λb hb ob q=> ?_) ?_ rl
  ·rw[bD (show b≠l from λz=>n1<|z▸hb)];exact q
  ·rw[bD al];exact ha
 ·show(l::(ls++[a])).Nodup;refine bX.mpr ⟨λh=> ?_,bJ.mpr ⟨n2,by simp,λb hb c hc e=>als<|aF.mp hc▸e▸hb⟩⟩
  rcases bC.mp h with h|h
  ·exact n1 h
  ·exact al (aF.mp h).symm
 ·rcases sp b hb with h|rfl
  ·exact .inl h
  ·exact .inr na
theorem aIB(i:Nat){q1 q2 tp:Pos}{c c':Int}{j1 j2 x1:Nat}(hu:X.A.units+1<AM)(hs:sd[i]? =some (odG X.prog X.w X.K l ks ls dss))(hx:PE X (.Name x p) (iQ i))(h:PEd X sd e (.own ds))(hk:([Sum.inl c,Sum.inl c']:List Key)∉ks)(hl:dss.length<=1000)
  (hE:∀a,E.nx<|sd.set i (odG X.prog X.w X.K l (ks++[[Sum.inl c,Sum.inl c']]) (ls++[a])<|dss++[ds]))
  (hb:PE X (.Tuple [.Constant (.int c) j1 q1, .Constant (.int c') j2 q2] x1 tp) (aRX (nF (tC<|.int c)<|nF (tC<|.int c') yH)):=by exact aEw (dP pe_int<|dP pe_int pa_nil))
  (hsw:AX e (some<|.Subscript (.Name x p) (.Tuple [.Constant (.int c) j1 q1, .Constant (.int c') j2 q2] x1 tp) p2) pos.line X.env=pure false:=by rfl):PSd1 X sd (.Assign [.Subscript (.Name x p) (.Tuple [.Constant (.int c) j1 q1, .Constant (.int c') j2 q2] x1 tp) p2] e pos) E:=.mk λσ F H S pins s I=>by
 refine wpAny_Assign_Subscript (thn (h σ F H S pins s I) λr s1 ⟨v,H1,I1,rv,F1,S1,sF1,q1⟩=> ?_) hsw;obtain⟨a,xs,rfl,fa,ha,rl,na⟩:=q1;obtain rfl:r=Value.ref a:=rv;obtain⟨h1,_⟩:=iG S1 hs;refine thn (hx pins s1 σ H1 (λv H2=>v=.ref l/\H2=H1) I1 ⟨.ref l,h1,rfl,rfl⟩) λu s2 ⟨y,H2,I2,ry,e1,e2⟩=> ?_
 subst e1 e2;obtain rfl:u=Value.ref l:=ry;refine thn (hb pins s2 σ H2 (λv H3=>∃ad,v=.ref ad/\H2 ad=none/\H3=upd H2 ad (.tup [.int c,.int c'])) I2 ⟨by show 2<=AH;decide,λad had=>⟨ad,rfl,had,rfl⟩⟩) λiv s3 ⟨y,H3,I3,ry,ad,e1,fad,e3⟩=> ?_
 subst e1 e3;obtain rfl:iv=Value.ref ad:=ry;obtain⟨S3,sF3⟩:=S1.lay (o:=.tup [.int c,.int c']) fad trivial;have ada:a≠ad:=λz=>by rw[z,fad] at ha;cases ha
 have fa3:upd F1 ad (.tup [.int c,.int c']) a=none:=by rw[bD ada];exact fa
 have ha3:upd H2 ad (.tup [.int c,.int c']) a=some (.lst xs):=by rw[bD ada];exact ha
 obtain⟨g1,g2,⟨o,g3,nc,hkl,z,hm,ts,kt,es,ep,t1,t2,t3,t4⟩,g4,g5⟩:=iG S3 hs;have had:upd F1 ad (.tup [.int c,.int c']) ad=some (.tup<|([Sum.inl c,Sum.inl c']:List Key).map kV):=bL;have ho:s3.heap.get? l=some o:=(I3.hok l _ g3).1;have ktH:=kt.keeps λb ys e=>S3.sub _ _ e
 have dd:s3.heap.DictOfH (Ai<|eP X.prog X.w) l ts:=⟨o,es,ep,ho,t1,t2,t3,KT.all I3.hok ktH,t4⟩;have hz:ts.length<=AH:=by rw[<-Paired.length kt];exact z
 have zl:(ks.zip<|ls.map V.ref).length=dss.length:=by rw[jT,aB,<-hkl,pH,hkl,g4.len]
 have vn:jE (ks.zip<|ls.map V.ref) [Sum.inl c,Sum.inl c']=none:=aAn hk λ_ z=>z
 have hl2:(sC (ks.zip<|ls.map V.ref) [Sum.inl c,Sum.inl c']<|.ref a).length<=AH:=by rw[sR _ vn,aP,zl];have:=eG hl;show dss.length+1<=AH;omega
 refine wpAny_setItem_heap (hsz:=hz) (Ac hu) (mS I3.hok<|S3.sub _ _ had) dd λh' dd' hsm=> ?_
 obtain⟨q,es',ep',hq,u2,u3,u4,_,u5⟩:=dd';have I4:=pV (t':=s3.toks+(Ai<|eP X.prog X.w).draws [Sum.inl c,Sum.inl c']) I3 (ob:=exO l q) (by rw[g3];exact True.intro) hsm ⟨q,hq⟩<|qZ hq;have kt':=kt.put [Sum.inl c,Sum.inl c'] had (show RelV (.ref a) (.ref a) from rfl);rw[sR _ vn] at kt' hl2;exact⟨σ,_,I4,_,_,S3.newW (o:=q) (k:=[Sum.inl c,Sum.inl c']) hs fa3 ha3 (rl.mono sF3) na (λv z=>by rw[u3] at z;cases z) ⟨hl2,hm,_,kt',es',ep',u2,u3,u4,u5⟩,sF1.trans sF3,hE a⟩
noncomputable def rkK(r:Int×Int):List Key:=[Sum.inl r.1,Sum.inl r.2]
theorem aMG{a b:Int×Int}(h:rkK a=rkK b):a=b:=by
 unfold rkK at h;injection h with h1 h2
 injection h2 with h2 _
 injection h1 with h1
 injection h2 with h2
 exact Prod.ext h1 h2
noncomputable abbrev WtT:=List<|(Int×Int)×List Pr2
structure Wt where
 l:BJ
 ls:List BJ
 T:WtT
noncomputable def wtK(T:WtT):List (List Key):=T.map λt=>rkK t.1
noncomputable def wtD(T:WtT):List (List D):=T.map λt=>t.2.map p2D
noncomputable def wtS(P:AD)(w:AI)(K:aA)(a:Wt):Slot:=odG P w K a.l (wtK a.T) a.ls<|wtD a.T
noncomputable def wtL(P:AD)(w:AI)(K:aA):Lent K:=⟨Wt,Wt.l,λa=>a.l::a.ls,λa=>Gg P w K a.l (wtK a.T) a.ls<|wtD a.T,λh=>h.1⟩
theorem aJc(P:AD)(w:AI)(K:aA)(a:Wt)(v:V)(F H:Hp)(b:BJ)(o:HO)(h:(wtL P w K).G a v F H)(hb:b∈(wtL P w K).own a)(e:H b=some o):¬ rA o:=by
 obtain⟨_,⟨ob,g,_⟩,hI⟩:=h
 rcases aU.mp (show b∈a.l::a.ls from hb) with rfl|hb
 ·rw[g] at e;cases e;exact λz=>z
 ·obtain⟨xs,g2⟩:=InD.of hI b hb;rw[g2] at e;cases e;exact λz=>z
noncomputable def kC:WtT->Int×Int->Pr2->WtT
 |[],r,x=>[(r,[x])]
 |t::T,r,x=>if t.1=r then(t.1,t.2++[x])::T else t::kC T r x
theorem yE{r:Int×Int}(x:Pr2):∀ {T:WtT},rkK r∉wtK T->kC T r x=T++[(r,[x])]
 |[],_=>rfl
 |t::T,h=>by
  have h1:t.1≠r:=λe=>h (by unfold wtK;rw[aV,e];exact aH)
  show(if t.1=r then _ else t::kC T r x)=_;rw[if_neg h1,yE x (T:=T) λz=>h<|aE _ z];rfl
theorem xL{r:Int×Int}(x:Pr2):∀ {T:WtT}{n:Nat}{ds:List D},(wtK T).Nodup->(wtK T)[n]? =some (rkK r)->(wtD T)[n]? =some ds->wtK (kC T r x)=wtK T/\wtD (kC T r x)=(wtD T).set n (ds++[p2D x])
 |[],n,ds,_,h,_=>by simp[wtK] at h
 |t::T,0,ds,nd,h,hd=>by
  have e:t.1=r:=aMG (by simpa[wtK] using h);have e2:t.2.map p2D=ds:=by simpa[wtD] using hd
  have ea:kC (t::T) r x=(t.1,t.2++[x])::T:=if_pos e;rw[ea];refine⟨rfl, ?_⟩;show((t.2++[x]).map p2D)::wtD T=((t.2.map p2D)::wtD T).set 0 _;rw[aZ,e2];rfl
 |t::T,n+1,ds,nd,h,hd=>by
  have nd':=bX.mp (show(rkK t.1::wtK T).Nodup from nd);have h':(wtK T)[n]? =some (rkK r):=by simpa[wtK] using h
  have hd':(wtD T)[n]? =some ds:=by simpa[wtD] using hd
  have ne:t.1≠r:=λe=>nd'.1<|e▸bH h'
  have ea:kC (t::T) r x=t::kC T r x:=if_neg ne;obtain⟨k1,k2⟩:=xL x nd'.2 h' hd';rw[ea];refine⟨by show rkK t.1::wtK (kC T r x)=rkK t.1::wtK T;rw[k1], ?_⟩;show t.2.map p2D::wtD (kC T r x)=(t.2.map p2D::wtD T).set (n+1) _;rw[k2];rfl
theorem aMh{r:Int×Int}(x:Pr2){T:WtT}(nd:(wtK T).Nodup):(wtK<|kC T r x).Nodup:=by
 by_cases h:rkK r∈wtK T
 ·obtain⟨n,hn⟩:=eY h
  have ln:n<T.length:=by have:=(aI.mp hn).1;simpa[wtK] using this
  obtain⟨ds,hd⟩:∃ds,(wtD T)[n]? =some ds:=⟨_,by unfold wtD;rw[aY,dC ln];rfl⟩;rw[(xL x nd hn hd).1];exact nd
 ·rw[yE x h];unfold wtK;rw[aZ];refine bJ.mpr ⟨nd,by simp,λa ha b hb e=>h ?_⟩;have q:b=rkK r:=by simpa using hb
  rw[<-q,<-e];exact ha
noncomputable def tot(T:WtT):Nat:=(T.map λt=>t.2.length+1).sum
theorem aET(r:Int×Int)(x:Pr2):∀T:WtT,tot (kC T r x)<=tot T+2
 |[]=>by simp[tot,kC]
 |t::T=>by
  have ih:=aET r x T;show tot (if t.1=r then(t.1,t.2++[x])::T else t::kC T r x)<=_
  split
  ·simp[tot];omega
  ·simp[tot] at ih ⊢;omega
theorem aMe(T:WtT):T.length<=tot T:=by
 induction T with
 |nil=>exact aR _
 |cons t T ih=>simp[tot] at ih ⊢;omega
theorem aMX{T:WtT}:∀ds∈wtD T,ds.length<=tot T:=by
 induction T with
 |nil=>exact λds h=>(dO h).elim
 |cons t T ih=>
  intro ds h
  rcases aU.mp (show ds∈t.2.map p2D::wtD T from h) with rfl|h
  ·rw[aB];simp[tot];omega
  ·have:=ih ds h;simp[tot] at this ⊢;omega
noncomputable def nP(x:List Nat×List Nat):Pr2:=(x.1.map λ(i:Nat)=>(i:Int),x.2.map λ(i:Nat)=>(i:Int))
theorem aQE(x:List Nat×List Nat):p2D (nP x)=.tup [.tup<|bG x.1,.tup<|bG x.2]:=by unfold p2D nP bN bG;rw[aN,aN];rfl
noncomputable def lgQ(p:Int×Int)(L:List SK)(b:Int)(r:Int×Int)(row nb:List Nat):Nat->WtT->WtT
 |0,T=>T
 |t+1,T=>if r.1+(L.getD t AG).2<=b then kC (lgQ p L b r row nb t T) (r.1+(L.getD t AG).2,r.2+1) (nP (row++[t],jF (jS p (L.getD t AG).1) nb)) else lgQ p L b r row nb t T
theorem aHH{p:Int×Int}{L:List SK}{b:Int}{r:Int×Int}{row nb:List Nat}{T:WtT}(nd:(wtK T).Nodup):∀t,(wtK<|lgQ p L b r row nb t T).Nodup
 |0=>nd
 |t+1=>by
  unfold lgQ
  split
  ·exact aMh _<|aHH nd t
  ·exact aHH nd t
theorem aKx{p:Int×Int}{L:List SK}{b:Int}{r:Int×Int}{row nb:List Nat}{T:WtT}:∀t,tot (lgQ p L b r row nb t T)<=tot T+2*t
 |0=>aR _
 |t+1=>by
  have ih:=aKx (p:=p) (L:=L) (b:=b) (r:=r) (row:=row) (nb:=nb) (T:=T) t;unfold lgQ
  split
  ·have:=aET (r.1+(L.getD t AG).2,r.2+1) (nP (row++[t],jF (jS p (L.getD t AG).1) nb))<|lgQ p L b r row nb t T;omega
  ·omega
def aSF(a:Wt)(ds:List D)(post:Wt->Prop):Prop:=∃p L b r row nb,p∈bU/\L.length<=100/\NOk p nb/\row.length<=400/\(wtK a.T).Nodup/\tot a.T+2*L.length<=900/\ds=[.lst (L.map<|mvD p),.int b,.tup [.int r.1,.int r.2],.tup<|bG row,.tup<|bG nb]/\post=λa'=>a'.l=a.l/\a'.T=lgQ p L b r row nb L.length a.T
noncomputable def unP(y:Pr2):List Nat×List Nat:=(y.1.map rK,y.2.map rK)
theorem aDS(x:List Nat×List Nat):unP (nP x)=x:=by
 have g:∀l:List Nat,(l.map λ(i:Nat)=>(i:Int)).map rK=l:=λl=>by rw[aN];exact(bQ λi _=>cF i).trans<|lD l
 unfold unP nP;exact Prod.ext (g x.1)<|g x.2
structure FdS where
 T:WtT
 kn:List (List Nat)
 fd:List (Int×List Nat×List Nat)
noncomputable def fdI(p:Int×Int)(L:List SK)(b:Int)(r:Int×Int)(S:FdS)(x:List Nat×List Nat):FdS:=if x.2∈S.kn then S else⟨lgQ p L b r x.1 x.2 L.length S.T,S.kn++[x.2],S.fd++[(r.1,x.1,x.2)]⟩
noncomputable def fdP(p:Int×Int)(L:List SK)(b:Int)(r:Int×Int)(S:FdS)(xs:List Pr2):FdS:=xs.foldl (λS y=>fdI p L b r S<|unP y) S
theorem wM(p:Int×Int)(L:List SK)(b:Int)(r:Int×Int)(S:FdS)(xs:List Pr2)(y:Pr2):fdP p L b r S (xs++[y])=fdI p L b r (fdP p L b r S xs) (unP y):=by unfold fdP;rw[eB];rfl
structure aQs(S:FdS):Prop where
 nk:(wtK S.T).Nodup
 kn:S.kn=S.fd.map λe=>e.2.2
 nd:S.kn.Nodup
theorem aPO{p:Int×Int}{L:List SK}{b:Int}{r:Int×Int}{S:FdS}(h:aQs S)(x:List Nat×List Nat):aQs (fdI p L b r S x):=by
 unfold fdI
 split
 ·exact h
 ·rename_i q;refine⟨aHH h.nk _, ?_,bJ.mpr ⟨h.nd,by simp,λa ha c hc e=>q ?_⟩⟩
  ·show S.kn++[x.2]=(S.fd++[(r.1,x.1,x.2)]).map _;rw[aZ,<-h.kn];rfl
  ·have hc:c=x.2:=by simpa using hc
   rw[<-hc,<-e];exact ha
def rlt(r s:Int×Int):Prop:=r.1<s.1\/(r.1=s.1/\r.2<s.2)
instance (r s:Int×Int):Decidable (rlt r s):=inferInstanceAs (Decidable<|_\/_)
noncomputable def rkD(r:Int×Int):D:=.tup [.int r.1,.int r.2]
theorem aJK(r s:Int×Int):dlt (rkD r) (rkD s)=decide (rlt r s):=by
 have e:dlt (rkD r) (rkD s)=(if deq (.int r.1) (.int s.1)=true then(if deq (.int r.2) (.int s.2)=true then false else decide (r.2<s.2)) else decide (r.1<s.1)):=rfl;have d:∀a b:Int,deq (.int a) (.int b)=decide (a=b):=λa b=>rfl
 rw[e,d,d];unfold rlt
 by_cases h1:r.1=s.1
 ·by_cases h2:r.2=s.2
  ·simp[h1,h2]
  ·simp[h1,h2]
 ·have:¬ (r.1=s.1/\r.2<s.2):=λz=>h1 z.1
  simp[h1]
theorem vK(bt:Nat->Nat->Bool):∀k,Ab bt k<=k
 |0=>aR _
 |k+1=>by
  show(if bt (k+1) (Ab bt k)=true then k+1 else Ab bt k)<=k+1
  split
  ·exact aR _
  ·exact Nat.le_succ_of_le<|vK bt k
theorem yD(rs:List (Int×Int)):∀k,k<rs.length->∀j,j<=k->¬ rlt (rs.getD j (0,0)) (rs.getD (Ab (λi k=>decide (rlt (rs.getD i (0,0))<|rs.getD k (0,0))) k) (0,0))
 |0,_,j,hj=>by
  have:j=0:=by omega
  subst this;show ¬ rlt _ (rs.getD 0 (0,0));unfold rlt;omega
 |k+1,hk,j,hj=>by
  have ih:=yD rs k (by omega);generalize hb:Ab (λi k=>decide (rlt (rs.getD i (0,0))<|rs.getD k (0,0))) k=bk at ih
  have e:Ab (λi k=>decide (rlt (rs.getD i (0,0))<|rs.getD k (0,0))) (k+1)=if decide (rlt (rs.getD (k+1) (0,0))<|rs.getD bk (0,0))=true then k+1 else bk:=by rw[<-hb];rfl
  rw[e]
  by_cases q:rlt (rs.getD (k+1) (0,0)) (rs.getD bk (0,0))
  ·rw[if_pos<|decide_eq_true q]
   by_cases hjk:j=k+1
   ·subst hjk;unfold rlt;omega
   ·have:=ih j (by omega);unfold rlt at *;omega
  ·rw[if_neg<|by rw[decide_eq_false q];decide]
   by_cases hjk:j=k+1
   ·subst hjk;exact q
   ·exact ih j<|by omega
theorem qU{bt bt':Nat->Nat->Bool}:∀k,(∀i j,i<=k->j<=k->bt i j=bt' i j)->Ab bt k=Ab bt' k
 |0,_=>rfl
 |k+1,h=>by
  have ih:=qU k λi j hi hj=>h i j (by omega)<|by omega
  show(if bt (k+1) (Ab bt k)=true then k+1 else Ab bt k)=(if bt' (k+1) (Ab bt' k)=true then k+1 else Ab bt' k);have:=vK bt' k;rw[ih,h (k+1) (Ab bt' k) (aR _)<|by omega]
theorem aPq(hu:X.A.units+4<AM){T:WtT}(hne:T≠[]):aLA X ((wtK T).map nT)/\∃t:(Int×Int)×List Pr2,T[kE<|(wtK T).map nT]? =some t/\((wtK T).map nT)[kE<|(wtK T).map nT]? =some (rkD t.1)/\(wtK T)[kE<|(wtK T).map nT]? =some (rkK t.1)/\(wtD T)[kE<|(wtK T).map nT]? =some (t.2.map p2D)/\∀s∈T,¬ rlt s.1 t.1:=by
 have l0:0<T.length:=jJ.mpr hne
 have em:(wtK T).map nT=T.map λt=>rkD t.1:=by unfold wtK;rw[aN];rfl
 have ln:((wtK T).map nT).length=T.length:=by rw[em,aB]
 have mem:∀d∈(wtK T).map nT,∃r,d=rkD r:=λd hd=>by rw[em] at hd;obtain⟨t,_,rfl⟩:=aJ.mp hd;exact⟨t.1,rfl⟩
 have gd:∀i,i<T.length->((wtK T).map nT).getD i .non=rkD ((T.map (·.1)).getD i (0,0)):=λi hi=>by rw[em];simp[bF,hi]
 have eb:kE ((wtK T).map nT)=Ab (λi k=>decide (rlt ((T.map (·.1)).getD i (0,0)) ((T.map (·.1)).getD k (0,0)))) (T.length-1):=by unfold kE;rw[ln];exact qU _ λi j hi hj=>by rw[gd i<|by omega,gd j<|by omega,aJK]
 have bl:=vK (λi k=>decide (rlt ((T.map (·.1)).getD i (0,0)) ((T.map (·.1)).getD k (0,0))))<|T.length-1;have bm:=yD (T.map (·.1)) (T.length-1) (by rw[aB];omega);rw[<-eb] at bl bm;generalize kE ((wtK T).map nT)=n at bl bm;have hn:n<T.length:=by omega
 have hT:T[n]? =some T[n]:=dC hn;refine⟨⟨by rw[ln];exact l0,λd hd d2 hd2=> ?_,λd hd=> ?_,λd hd=> ?_⟩,T[n],hT, ?_, ?_, ?_,λs hs=> ?_⟩
 ·obtain⟨r,rfl⟩:=mem d hd;obtain⟨r2,rfl⟩:=mem d2 hd2;rfl
 ·obtain⟨r,rfl⟩:=mem d hd;rfl
 ·obtain⟨r,rfl⟩:=mem d hd;show X.A.units+1+1<AM;omega
 ·rw[em,aY,hT];rfl
 ·unfold wtK;rw[aY,hT];rfl
 ·unfold wtD;rw[aY,hT];rfl
 ·obtain⟨j,hj⟩:=eY hs;have lj:j<T.length:=(aI.mp hj).1;have:=bm j (by omega);have e1:(T.map (·.1)).getD j (0,0)=s.1:=by simp[bF,hj]
  have e2:(T.map (·.1)).getD n (0,0)=T[n].1:=by simp[bF,hn]
  rw[e1,e2] at this;exact this
noncomputable def llt:List Int->List Int->Bool
 |[],[]=>false
 |[],_::_=>true
 |_::_,[]=>false
 |x::a,y::b=>if x=y then llt a b else decide (x<y)
theorem aLl:∀a b:List Int,qD (a.map D.int) (b.map D.int)=llt a b
 |[],[]=>rfl
 |[],_::_=>rfl
 |_::_,[]=>rfl
 |x::a,y::b=>by
  have e:qD ((x::a).map D.int) ((y::b).map D.int)=if decide (x=y)=true then qD (a.map D.int) (b.map D.int) else decide (x<y):=rfl
  rw[e,aLl a b];show _=if x=y then llt a b else decide (x<y)
  by_cases h:x=y
  ·rw[if_pos<|decide_eq_true h,if_pos h]
  ·rw[if_neg (by rw[decide_eq_false h];decide),if_neg h]
theorem pN:∀a:List Int,llt a a=false
 |[]=>rfl
 |x::a=>by show(if x=x then llt a a else decide (x<x))=false;rw[if_pos rfl];exact pN a
theorem aBd:∀a b:List Int,a≠b->llt a b=true\/llt b a=true
 |[],[],h=>absurd rfl h
 |[],_::_,_=>.inl rfl
 |_::_,[],_=>.inr rfl
 |x::a,y::b,h=>by
  show(if x=y then llt a b else decide (x<y))=true\/(if y=x then llt b a else decide (y<x))=true
  by_cases e:x=y
  ·subst e;rw[if_pos rfl,if_pos rfl];exact aBd a b λz=>h (by rw[z])
  ·rw[if_neg e,if_neg λz=>e z.symm,decide_eq_true_iff,decide_eq_true_iff];omega
theorem yS:∀a b c:List Int,llt a b=true->llt b c=true->llt a c=true
 |[],[],_,h,_=>by cases h
 |[],_::_,[],_,h=>by cases h
 |[],_::_,_::_,_,_=>rfl
 |_::_,[],_,h,_=>by cases h
 |_::_,_::_,[],_,h=>by cases h
 |x::a,y::b,z::c,h1,h2=>by
  have h1:(if x=y then llt a b else decide (x<y))=true:=h1;have h2:(if y=z then llt b c else decide (y<z))=true:=h2;show(if x=z then llt a c else decide (x<z))=true
  by_cases e1:x=y
  ·subst e1;rw[if_pos rfl] at h1
   by_cases e2:x=z
   ·subst e2;rw[if_pos rfl] at h2 ⊢;exact yS a b c h1 h2
   ·rw[if_neg e2] at h2 ⊢;exact h2
  ·rw[if_neg e1] at h1;have h1:=of_decide_eq_true h1
   by_cases e2:y=z
   ·subst e2;rw[if_neg e1];exact decide_eq_true h1
   ·rw[if_neg e2] at h2;have h2:=of_decide_eq_true h2;rw[if_neg<|by omega];exact decide_eq_true<|by omega
noncomputable def plt(x y:Pr2):Bool:=if x.1=y.1 then llt x.2 y.2 else llt x.1 y.1
theorem aNP(a b:List Int):deq (bN a) (bN b)=decide (a=b):=aCa a b
theorem aRH(x y:Pr2):dlt (p2D x) (p2D y)=plt x y:=by
 have e:dlt (p2D x) (p2D y)=if deq (bN x.1) (bN y.1)=true then(if deq (bN x.2) (bN y.2)=true then false else qD (x.2.map D.int) (y.2.map D.int)) else qD (x.1.map D.int) (y.1.map D.int):=rfl
 rw[e,aNP,aNP,aLl,aLl];unfold plt
 by_cases h:x.1=y.1
 ·rw[if_pos<|decide_eq_true h,if_pos h]
  by_cases h2:x.2=y.2
  ·rw[if_pos<|decide_eq_true h2,h2,pN]
  ·rw[if_neg<|by rw[decide_eq_false h2];decide]
 ·rw[if_neg (by rw[decide_eq_false h];decide),if_neg h]
theorem aMr(x:Pr2):plt x x=false:=by unfold plt;rw[if_pos rfl];exact pN _
theorem aAU{x y:Pr2}(h:x≠y):plt x y=true\/plt y x=true:=by
 unfold plt
 by_cases e:x.1=y.1
 ·rw[if_pos e,if_pos e.symm];exact aBd _ _ λz=>h<|Prod.ext e z
 ·rw[if_neg e,if_neg λz=>e z.symm];exact aBd _ _ e
theorem aKO{x y z:Pr2}(h1:plt x y=true)(h2:plt y z=true):plt x z=true:=by
 unfold plt at *
 by_cases e1:x.1=y.1
 ·rw[if_pos e1] at h1
  by_cases e2:y.1=z.1
  ·rw[if_pos e2] at h2;rw[if_pos<|e1.trans e2];exact yS _ _ _ h1 h2
  ·rw[if_neg e2] at h2;rw[e1,if_neg e2];exact h2
 ·rw[if_neg e1] at h1
  by_cases e2:y.1=z.1
  ·rw[<-e2,if_neg e1];exact h1
  ·rw[if_neg e2] at h2
   by_cases e3:x.1=z.1
   ·have:=yS _ _ _ h1 h2;rw[e3,pN] at this;cases this
   ·rw[if_neg e3];exact yS _ _ _ h1 h2
noncomputable def rkP(ps:List Pr2)(x:Pr2):Nat:=(ps.filter λy=>plt y x).length
theorem xN{x y:Pr2}(hx:x∈ps)(h:plt x y=true):rkP ps x<rkP ps y:=by
 unfold rkP
 have e:ps.filter (λz=>plt z x)=(ps.filter λz=>plt z y).filter λz=>plt z x:=by
  rw[List.filter_filter];refine uX λz _=> ?_
  cases q:plt z x with
  |false=>rfl
  |true=>rw[aKO q h];rfl
 rw[e];refine List.length_filter_lt_length_iff_exists.mpr ⟨x,cS.mpr ⟨hx,h⟩, ?_⟩;rw[aMr];decide
theorem aOz(nd:ps.Nodup)(hl:ps.length<64)(hu:A.units+8<AM):SrtP A ps (rkP ps):=by
 have key:∀x∈ps,∀y∈ps,x≠y->rkP ps x≠rkP ps y:=λx hx y hy ne=>by
  rcases aAU ne with h|h
  ·exact bM<|xN hx h
  ·exact iE<|xN hy h
 refine⟨hl,λx hx y hy=> ?_, ?_,hu⟩
 ·rw[aRH];cases h:plt x y with
  |true=>exact(decide_eq_true<|xN hx h).symm
  |false=>
   refine(decide_eq_false λq=> ?_).symm
   by_cases e:x=y
   ·rw[e] at q;omega
   ·rcases aAU e with z|z
    ·rw[h] at z;cases z
    ·have:=xN hy z;omega
 ·unfold List.Nodup;rw[gP];exact List.Pairwise.imp_of_mem (λ{a b} ha hb h=>key a ha b hb h) nd
noncomputable def aLe(x:Pr2):List Pr2->List Pr2
 |[]=>[x]
 |y::l=>if plt x y then x::y::l else y::aLe x l
noncomputable def iX:List Pr2->List Pr2
 |[]=>[]
 |x::l=>aLe x<|iX l
theorem uO(x:Pr2):∀l,(aLe x l).Perm (x::l)
 |[]=>.refl _
 |y::l=>by
  show(if plt x y then x::y::l else y::aLe x l).Perm _
  split
  ·exact .refl _
  ·exact((uO x l).cons y).trans<|.swap x y l
theorem iB:∀l,(iX l).Perm l
 |[]=>.refl _
 |x::l=>(uO x<|iX l).trans<|(iB l).cons x
theorem aFD{x:Pr2}:∀ {l:List Pr2},x∉l->l.Pairwise (λa b=>plt a b=true)->(aLe x l).Pairwise (λa b=>plt a b=true)
 |[],_,_=>by simp[aLe]
 |y::l,h,p=>by
  obtain⟨p1,p2⟩:=jU.mp p;show(if plt x y then x::y::l else y::aLe x l).Pairwise _
  by_cases q:plt x y=true
  ·rw[if_pos q];refine jU.mpr ⟨λz hz=> ?_,p⟩
   rcases aU.mp hz with rfl|hz
   ·exact q
   ·exact aKO q<|p1 z hz
  ·rw[if_neg q];refine jU.mpr ⟨λz hz=> ?_,aFD (λz=>h<|aE _ z) p2⟩
   rcases aU.mp ((uO x l).mem_iff.mp hz) with rfl|hz
   ·rcases aAU (x:=z) (y:=y) (λe=>h<|e▸aH) with w|w
    ·exact absurd w q
    ·exact w
   ·exact p1 z hz
theorem aBp:∀ {l:List Pr2},l.Nodup->(iX l).Pairwise (λa b=>plt a b=true)
 |[],_=>List.Pairwise.nil
 |x::l,h=>by obtain⟨h1,h2⟩:=bX.mp h;exact aFD (λz=>h1<|(iB l).mem_iff.mp z)<|aBp h2
theorem aMv{qs:List Pr2}(nd:ps.Nodup)(hp:qs.Perm ps)(hs:(qs.map<|rkP ps).Pairwise (·<·)):qs=iX ps:=by refine List.Perm.eq_of_pairwise (le:=λx y=>rkP ps x<rkP ps y) (λx y _ _ h1 h2=>by omega) (by rw[gP] at hs;exact hs) ?_ (hp.trans (iB ps).symm);exact List.Pairwise.imp_of_mem (λ{a b} ha _ h=>xN ((iB ps).mem_iff.mp ha) h)<|aBp nd
noncomputable def fM(T:WtT):Nat:=kE<|(wtK T).map nT
noncomputable def fdT(p:Int×Int)(L:List SK)(b:Int)(S:FdS):FdS:=match S.T[fM S.T]? with
 |none=>S
 |some t=>fdP p L b t.1 {S with T:=S.T.eraseIdx (fM S.T)} (iX t.2)
noncomputable def lO(p:Int×Int)(L:List SK)(b:Int):Nat->FdS->FdS
 |0,S=>S
 |k+1,S=>if S.T=[] then S else lO p L b k (fdT p L b S)
noncomputable def inR(row:List Nat):List Int:=row.map λ(i:Nat)=>(i:Int)
theorem aMT{a b:List Nat}(h:inR a=inR b):a=b:=by
 have:(inR a).map rK=(inR b).map rK:=by rw[h]
 have g:∀l:List Nat,(inR l).map rK=l:=λl=>by unfold inR;rw[aN];exact(bQ λi _=>cF i).trans<|lD l
 rwa[g,g] at this
noncomputable def rwP(y:Pr2):List Nat:=(unP y).1
noncomputable def itP(p:Int×Int)(L:List SK)(row:List Nat):Pr2:=nP (row,nrQ p L row)
theorem oX(p:Int×Int)(L:List SK)(row:List Nat):rwP (itP p L row)=row:=by unfold rwP itP;rw[aDS]
theorem aNM(p:Int×Int)(L:List SK)(row:List Nat):unP (itP p L row)=(row,nrQ p L row):=aDS _
noncomputable def rkR(L:List SK)(row:List Nat):Int×Int:=(S45.prQ (prK L) row,(row.length:Int))
def klt(L:List SK)(a c:List Nat):Prop:=rlt (rkR L a) (rkR L c)\/(rkR L a=rkR L c/\llt (inR a) (inR c)=true)
def kle(L:List SK)(a c:List Nat):Prop:=a=c\/klt L a c
theorem aPm{a b c:Int×Int}(h:rlt a b)(h2:rlt b c):rlt a c:=by unfold rlt at *;omega
theorem aNf{a b:Int×Int}(h:a≠b)(h2:¬ rlt b a):rlt a b:=by
 obtain⟨a1,a2⟩:=a;obtain⟨b1,b2⟩:=b;unfold rlt at *;have:¬ (a1=b1/\a2=b2):=λz=>h (by rw[z.1,z.2])
 simp only at *;omega
theorem aFc(L:List SK)(a:List Nat):¬ klt L a a:=by
 rintro(h|⟨_,h⟩)
 ·unfold rlt at h;omega
 ·rw[pN] at h;cases h
theorem aEh{L:List SK}{a b c:List Nat}(h:klt L a b)(h2:klt L b c):klt L a c:=by
 rcases h with h|⟨e,h⟩<;>rcases h2 with h2|⟨e2,h2⟩
 ·exact .inl<|aPm h h2
 ·exact .inl<|e2▸h
 ·exact .inl<|e▸h2
 ·exact .inr ⟨e.trans e2,yS _ _ _ h h2⟩
theorem aKV{L:List SK}{a b c:List Nat}(h:kle L a b)(h2:kle L b c):kle L a c:=by
 rcases h with rfl|h
 ·exact h2
 ·rcases h2 with rfl|h2
  ·exact .inr h
  ·exact .inr<|aEh h h2
theorem aCm{x:Int}:∀ {a b:List Int},a.length=b.length->llt a b=true->llt (a++[x]) (b++[x])=true
 |[],[],_,h=>by cases h
 |[],_::_,h,_=>by cases h
 |_::_,[],h,_=>by cases h
 |u::a,v::b,hl,h=>by
  have h:(if u=v then llt a b else decide (u<v))=true:=h;show(if u=v then llt (a++[x]) (b++[x]) else decide (u<v))=true
  by_cases e:u=v
  ·rw[if_pos e] at h ⊢;exact aCm (by simpa using hl) h
  ·rw[if_neg e] at h ⊢;exact h
theorem pW(L:List SK)(a:List Nat)(k:Nat):rkR L (a++[k])=((rkR L a).1+prK L k,(rkR L a).2+1):=by unfold rkR;rw[S45.pr_snoc,aP];rfl
theorem aHO{L:List SK}{a c:List Nat}(k:Nat)(h:kle L a c):kle L (a++[k]) (c++[k]):=by
 rcases h with rfl|h|⟨e,h⟩
 ·exact .inl rfl
 ·refine .inr<|.inl ?_;rw[pW,pW];unfold rlt at *;simp only;omega
 ·refine .inr (.inr ⟨by rw[pW,pW,e], ?_⟩)
  have el:a.length=c.length:=by have:=congrArg Prod.snd e;have:(a.length:Int)=(c.length:Int):=this;omega
  show llt ((a++[k]).map λ(i:Nat)=>(i:Int)) ((c++[k]).map λ(i:Nat)=>(i:Int))=true;rw[aZ,aZ];exact aCm (by rw[aB,aB];exact el) h
noncomputable def wrR(T:WtT):List (List Nat):=T.flatMap λt=>t.2.map rwP
theorem wrR_mem{T:WtT}{row:List Nat}:row∈wrR T↔∃t∈T,∃y∈t.2,rwP y=row:=by
 unfold wrR;rw[dN]
 constructor
 ·rintro⟨t,ht,h⟩;obtain⟨y,hy,e⟩:=aJ.mp h;exact⟨t,ht,y,hy,e⟩
 ·rintro⟨t,ht,y,hy,e⟩;exact⟨t,ht,aJ.mpr ⟨y,hy,e⟩⟩
theorem zX(r:Int×Int)(x:Pr2):∀T:WtT,(wrR<|kC T r x).Perm (rwP x::wrR T)
 |[]=>.refl _
 |t::T=>by
  show(wrR (if t.1=r then(t.1,t.2++[x])::T else t::kC T r x)).Perm _
  split
  ·show((t.2++[x]).map rwP++wrR T).Perm (rwP x::(t.2.map rwP++wrR T));rw[aZ,fX];exact oM
  ·show(t.2.map rwP++wrR (kC T r x)).Perm (rwP x::(t.2.map rwP++wrR T));exact((zX r x T).append_left _).trans oM
theorem aCy{r:Int×Int}{x:Pr2}:∀ {T:WtT}{t':(Int×Int)×List Pr2},(∀t∈T,t.2≠[])->t'∈kC T r x->t'.2≠[]/\∀y∈t'.2,(y=x/\t'.1=r)\/∃t∈T,t.1=t'.1/\y∈t.2
 |[],t',_,h=>by
  have:t'=(r,[x]):=by simpa[kC] using h
  subst this;exact⟨by simp,λy hy=>.inl ⟨by simpa using hy,rfl⟩⟩
 |t::T,t',hn,h=>by
  have h:t'∈(if t.1=r then(t.1,t.2++[x])::T else t::kC T r x):=h
  by_cases e:t.1=r
  ·rw[if_pos e] at h
   rcases aU.mp h with rfl|h
   ·refine⟨by simp,λy hy=> ?_⟩
    rcases bC.mp hy with hy|hy
    ·exact .inr ⟨t,aH,rfl,hy⟩
    ·exact .inl ⟨by simpa using hy,e⟩
   ·exact⟨hn _<|aE _ h,λy hy=>.inr ⟨t',aE _ h,rfl,hy⟩⟩
  ·rw[if_neg e] at h
   rcases aU.mp h with rfl|h
   ·exact⟨hn _ aH,λy hy=>.inr ⟨t',aH,rfl,hy⟩⟩
   ·obtain⟨h1,h2⟩:=aCy (λz hz=>hn z<|aE _ hz) h;exact⟨h1,λy hy=>(h2 y hy).imp id λ⟨z,hz,q⟩=>⟨z,aE _ hz,q⟩⟩
variable {p:Int×Int}{L:List SK}{b:Int}{r:Int×Int}{row nb:List Nat}{T:WtT}
noncomputable def chs(L:List SK)(b:Int)(r:Int×Int)(row:List Nat)(n:Nat):List (List Nat):=((aW n).filter λk=>decide<|r.1+prK L k<=b).map λk=>row++[k]
theorem chs_mem{c:List Nat}:c∈chs L b r row n↔∃k,k<n/\r.1+prK L k<=b/\c=row++[k]:=by
 unfold chs;rw[aJ]
 constructor
 ·rintro⟨k,hk,rfl⟩;obtain⟨h1,h2⟩:=cS.mp hk;exact⟨k,bE.mp h1,of_decide_eq_true h2,rfl⟩
 ·rintro⟨k,h1,h2,rfl⟩;exact⟨k,cS.mpr ⟨bE.mpr h1,decide_eq_true h2⟩,rfl⟩
theorem aPx(n:Nat):(chs L b r row n).Nodup:=by unfold chs List.Nodup;rw[gP];refine List.Pairwise.imp (λ{a c} h e=>h ?_) (List.Pairwise.filter _<|gY (n:=n));simpa using List.append_cancel_left e
theorem aFw:∀n:Nat,(wrR<|lgQ p L b r row nb n T).Perm (chs L b r row n++wrR T)
 |0=>.refl _
 |n+1=>by
  have ih:=aFw n
  have ec:chs L b r row (n+1)=chs L b r row n++(if r.1+prK L n<=b then[row++[n]] else[]):=by
   unfold chs;rw[pF,tI,aZ];congr 1
   by_cases h:r.1+prK L n<=b
   ·simp[h]
   ·simp[h]
  rw[ec];show(wrR (if r.1+(L.getD n AG).2<=b then kC _ _ _ else _)).Perm _
  by_cases h:r.1+prK L n<=b
  ·rw[if_pos h,if_pos (show r.1+(L.getD n AG).2<=b from h)];refine(zX _ _ _).trans ?_
   have e:rwP (nP (row++[n],jF (jS p (L.getD n AG).1) nb))=row++[n]:=by unfold rwP;rw[aDS]
   rw[e,fX];exact(ih.cons _).trans oM.symm
  ·rw[if_neg h,if_neg (show ¬ r.1+(L.getD n AG).2<=b from h),cH];exact ih
theorem aBQ:∀ (n:Nat) {t':(Int×Int)×List Pr2},(∀t∈T,t.2≠[])->t'∈lgQ p L b r row nb n T->t'.2≠[]/\∀y∈t'.2,(∃k,k<n/\r.1+prK L k<=b/\t'.1=(r.1+prK L k,r.2+1)/\y=nP (row++[k],jF (jS p (L.getD k AG).1) nb))\/∃t∈T,t.1=t'.1/\y∈t.2
 |0,t',hn,h=>⟨hn t' h,λy hy=>.inr ⟨t',h,rfl,hy⟩⟩
 |n+1,t',hn,h=>by
  have h:t'∈(if r.1+(L.getD n AG).2<=b then kC (lgQ p L b r row nb n T) (r.1+(L.getD n AG).2,r.2+1) (nP (row++[n],jF (jS p (L.getD n AG).1) nb)) else lgQ p L b r row nb n T):=h;have old:∀t∈lgQ p L b r row nb n T,t.2≠[]:=λt ht=>(aBQ n hn ht).1
  by_cases q:r.1+(L.getD n AG).2<=b
  ·rw[if_pos q] at h;obtain⟨h1,h2⟩:=aCy old h;refine⟨h1,λy hy=> ?_⟩
   rcases h2 y hy with⟨e1,e2⟩|⟨t,ht,e,hy2⟩
   ·exact .inl ⟨n,by omega,q,e2,e1⟩
   ·rcases(aBQ n hn ht).2 y hy2 with⟨k,k1,k2,k3,k4⟩|⟨s,s1,s2,s3⟩
    ·exact .inl ⟨k,by omega,k2,e▸k3,k4⟩
    ·exact .inr ⟨s,s1,s2.trans e,s3⟩
  ·rw[if_neg q] at h;obtain⟨h1,h2⟩:=aBQ n hn h;exact⟨h1,λy hy=>(h2 y hy).imp (λ⟨k,k1,k2⟩=>⟨k,by omega,k2⟩) id⟩
theorem aKQ:∀ {T:WtT},(∀t∈T,t.2≠[])->tot T<=2*(wrR T).length
 |[],_=>aR _
 |t::T,h=>by
  have ih:=aKQ (T:=T) λz hz=>h z<|aE _ hz
  have h1:0<t.2.length:=jJ.mpr<|h t aH;have e1:tot (t::T)=(t.2.length+1)+tot T:=by simp[tot]
  have e2:(wrR (t::T)).length=t.2.length+(wrR T).length:=by show(t.2.map rwP++wrR T).length=_;rw[aP,aB]
  omega
structure uG(L:List SK)(b:Int)(U:List (List Nat)):Prop where
 len:U.length<=400
 rl:∀row∈U,row.length<=300
 all:∀row,RowOk L row->S45.prQ (prK L) row<=b->row∈U
 gr:∀r,(U.filter λrow=>decide<|rkR L row=r).length<64
def Cov(p:Int×Int)(L:List SK)(S:FdS)(rest:List Pr2)(row:List Nat):Prop:=row∈wrR S.T\/row∈rest.map rwP\/∃e∈S.fd,e.2.2=nrQ p L row/\kle L e.2.1 row
structure Wk(p:Int×Int)(L:List SK)(b:Int)(dn:List (List Nat))(r:Int×Int)(rest:List Pr2)(S:FdS):Prop where
 ok:aQs S
 ne:∀t∈S.T,t.2≠[]
 wt:∀t∈S.T,∀y∈t.2,∃row,y=itP p L row/\RowOk L row/\t.1=rkR L row/\t.1.1<=b
 rs:∀y∈rest,∃row,y=itP p L row/\RowOk L row/\r=rkR L row/\r.1<=b
 up:rest.Pairwise λx y=>plt x y=true
 gt:rest≠[]->∀t∈S.T,rlt r t.1
 nd:(dn++rest.map rwP++wrR S.T).Nodup
 fd:∀e∈S.fd,e.2.1∈dn/\RowOk L e.2.1/\e.1=S45.prQ (prK L) e.2.1/\e.1<=b/\e.2.2=nrQ p L e.2.1
 par:∀row,row∈dn++rest.map rwP++wrR S.T->row=[]\/∃q k,row=q++[k]/\q∈S.fd.map λe=>e.2.1
 du:∀row∈dn,RowOk L row/\S45.prQ (prK L) row<=b
 srt:(S.fd.map λe=>e.2.1).Pairwise (klt L)
 lt1:∀e∈S.fd,∀y∈rest,klt L e.2.1<|rwP y
 lt2:∀e∈S.fd,∀row∈wrR S.T,klt L e.2.1 row
 cl:∀e∈S.fd,∀k,k<L.length->e.1+prK L k<=b->Cov p L S rest (e.2.1++[k])
 st:0<=b->Cov p L S rest []
variable {dn:List (List Nat)}{rest:List Pr2}{S:FdS}{U:List (List Nat)}
theorem Wk.all(W:Wk p L b dn r rest S)(F:uG L b U):∀row∈dn++rest.map rwP++wrR S.T,row∈U:=λrow h=>by
 rcases bC.mp h with h|h
 ·rcases bC.mp h with h|h
  ·obtain⟨h1,h2⟩:=W.du row h;exact F.all row h1 h2
  ·obtain⟨y,hy,e⟩:=aJ.mp h;obtain⟨q,rfl,q2,q3,q4⟩:=W.rs y hy;rw[oX] at e;subst e;exact F.all q q2 (by rw[q3] at q4;exact q4)
 ·obtain⟨t,ht,y,hy,e⟩:=wrR_mem.mp h;obtain⟨q,rfl,q2,q3,q4⟩:=W.wt t ht y hy;rw[oX] at e;subst e;exact F.all q q2 (by rw[q3] at q4;exact q4)
theorem Wk.few(W:Wk p L b dn r rest S)(F:uG L b U):dn.length+rest.length+(wrR S.T).length<=U.length:=by have:=W.nd.length_le_of_subset<|W.all F;rw[aP,aP,aB] at this;exact this
theorem Wk.r64(W:Wk p L b dn r rest S)(F:uG L b U):rest.length<64:=by
 have nd:(rest.map rwP).Nodup:=(bJ.mp (bJ.mp W.nd).1).2.1
 have:=nd.length_le_of_subset (l₂:=U.filter λrow=>decide<|rkR L row=r) λrow h=>by obtain⟨y,hy,e⟩:=aJ.mp h;obtain⟨q,rfl,q2,q3,q4⟩:=W.rs y hy;rw[oX] at e;subst e;exact cS.mpr ⟨F.all q q2 (by rw[q3] at q4;exact q4),decide_eq_true q3.symm⟩
 rw[aB] at this;exact eD this<|F.gr r
theorem Wk.tot(W:Wk p L b dn r rest S)(F:uG L b U):tot S.T<=800:=by have:=aKQ W.ne;have:=W.few F;have:=F.len;omega
theorem Wk.fdl(W:Wk p L b dn r rest S)(F:uG L b U):S.fd.length<=400:=by
 have nd:(S.fd.map λe=>e.2.1).Nodup:=List.Pairwise.imp (S:=(·≠·)) (λ{a c} h e=>aFc L a<|by rw[<-e] at h;exact h) W.srt
 have:=nd.length_le_of_subset (l₂:=dn) λrow h=>by obtain⟨e,he,rfl⟩:=aJ.mp h;exact(W.fd e he).1
 rw[aB] at this;have:=W.few F;have:=F.len;omega
theorem Wk.step(hpr:∀k,k<L.length->1<=prK L k){y:Pr2}(W:Wk p L b dn r (y::rest) S):Wk p L b (dn++[rwP y]) r rest (fdI p L b r S<|unP y):=by
 obtain⟨row,ey,ro,er,rb⟩:=W.rs y aH;subst ey;have up:=jU.mp W.up;have rp:S45.prQ (prK L) row<=b:=by rw[er] at rb;exact rb
 rw[aNM];have ew:(itP p L row::rest).map rwP=row::rest.map rwP:=by rw[aV,oX]
 have nd:=W.nd;have par:=W.par;rw[ew] at nd par;have e1:dn++row::rest.map rwP=(dn++[row])++rest.map rwP:=by simp
 rw[e1] at nd par;rw[oX]
 have cv:∀c,Cov p L S (itP p L row::rest) c->c=row\/Cov p L S rest c:=λc h=>by
  rcases h with h|h|h
  ·exact .inr<|.inl h
  ·rw[ew] at h
   rcases aU.mp h with h|h
   ·exact .inl h
   ·exact .inr (.inr<|.inl h)
  ·exact .inr (.inr<|.inr h)
 have du:∀c∈dn++[row],RowOk L c/\S45.prQ (prK L) c<=b:=λc h=>by
  rcases bC.mp h with h|h
  ·exact W.du c h
  ·rw[aF.mp h];exact⟨ro,rp⟩
 have rs:∀y∈rest,∃row,y=itP p L row/\RowOk L row/\r=rkR L row/\r.1<=b:=λz hz=>W.rs z<|aE _ hz
 have gt:=W.gt (by simp);unfold fdI
 by_cases hk:nrQ p L row∈S.kn
 ·rw[if_pos hk];rw[W.ok.kn] at hk;obtain⟨e,he,en⟩:=aJ.mp hk
  have ke:klt L e.2.1 row:=by have:=W.lt1 e he _ aH;rw[oX] at this;exact this
  have cv2:∀c,Cov p L S (itP p L row::rest) c->Cov p L S rest c:=λc h=>by
   rcases cv c h with rfl|h
   ·exact .inr<|.inr ⟨e,he,en,.inr ke⟩
   ·exact h
  exact⟨W.ok,W.ne,W.wt,rs,up.2,λ_=>gt,nd,λe he=>⟨cA _ (W.fd e he).1,(W.fd e he).2⟩,par,du,W.srt,λe he z hz=>W.lt1 e he z<|aE _ hz,W.lt2,λe he k hk hle=>cv2 _<|W.cl e he k hk hle,λh=>cv2 _<|W.st h⟩
 ·have ok:=aPO (p:=p) (L:=L) (b:=b) (r:=r) W.ok (row,nrQ p L row);unfold fdI at ok;rw[if_neg hk] at ok ⊢;have pm:=aFw (p:=p) (L:=L) (b:=b) (r:=r) (row:=row) (nb:=nrQ p L row) (T:=S.T) L.length;have lm:=λt' h=>aBQ (p:=p) (L:=L) (b:=b) (r:=r) (row:=row) (nb:=nrQ p L row) (T:=S.T) L.length (t':=t') W.ne h
  have rno:row∉S.fd.map λe=>e.2.1:=λh=>by obtain⟨e,he,ee⟩:=aJ.mp h;have:=(W.fd e he).1;rw[ee] at this;have n2:=(bJ.mp (bJ.mp nd).1).1;exact(bJ.mp n2).2.2 row this row (by simp) rfl
  have mem':∀c,c∈wrR (lgQ p L b r row (nrQ p L row) L.length S.T)↔c∈chs L b r row L.length\/c∈wrR S.T:=λc=>by rw[pm.mem_iff,bC]
  have ch_lt:∀c∈chs L b r row L.length,klt L row c:=λc h=>by obtain⟨k,k1,k2,rfl⟩:=chs_mem.mp h;refine .inl ?_;rw[pW];have:=hpr k k1;unfold rlt;simp only;omega
  have T_lt:∀c∈wrR S.T,klt L row c:=λc h=>by obtain⟨t,ht,y,hy,e⟩:=wrR_mem.mp h;obtain⟨q,rfl,q2,q3,q4⟩:=W.wt t ht y hy;rw[oX] at e;subst e;refine .inl ?_;rw[<-er,<-q3];exact gt t ht
  have rest_lt:∀z∈rest,klt L row (rwP z):=λz hz=>by
   obtain⟨q,rfl,q2,q3,q4⟩:=rs z hz;rw[oX];refine .inr ⟨er.symm.trans q3, ?_⟩;have:=up.1 _ hz;unfold plt at this
   by_cases e:(itP p L row).1=(itP p L q).1
   ·exfalso;have e2:row=q:=aMT e;subst e2;rw[if_pos rfl,pN] at this;cases this
   ·rw[if_neg e] at this;exact this
  have cvn:∀c,Cov p L S (itP p L row::rest) c->Cov p L ⟨lgQ p L b r row (nrQ p L row) L.length S.T,S.kn++[nrQ p L row],S.fd++[(r.1,row,nrQ p L row)]⟩ rest c:=λc h=>by
   rcases cv c h with rfl|h|h|⟨e,he,q⟩
   ·exact .inr<|.inr ⟨(r.1,c,nrQ p L c),aX _<|cQ _,rfl,.inl rfl⟩
   ·exact .inl ((mem' c).mpr<|.inr h)
   ·exact .inr<|.inl h
   ·exact .inr<|.inr ⟨e,cA _ he,q⟩
  have efd:(S.fd++[(r.1,row,nrQ p L row)]).map (λe=>e.2.1)=S.fd.map (λe=>e.2.1)++[row]:=by rw[aZ];rfl
  refine⟨ok,λt h=>(lm t h).1,λt ht y hy=> ?_,rs,up.2,λ_ t ht=> ?_, ?_,λe he=> ?_,λc hc=> ?_,du, ?_,λe he z hz=> ?_,λe he c hc=> ?_,λe he k hk hle=> ?_,λh=>cvn _<|W.st h⟩
  ·rcases(lm t ht).2 y hy with⟨k,k1,k2,k3,k4⟩|⟨s,s1,s2,s3⟩
   ·refine⟨row++[k],by rw[k4];unfold itP;rw[aBv],λi hi=> ?_,by rw[k3,pW,er],by rw[k3];exact k2⟩
    rcases bC.mp hi with hi|hi
    ·exact ro i hi
    ·rw[aF.mp hi];exact k1
   ·rw[<-s2];exact W.wt s s1 y s3
  ·obtain⟨h1,h2⟩:=lm t ht;obtain⟨y,hy⟩:=List.exists_mem_of_ne_nil _ h1
   rcases h2 y hy with⟨k,k1,k2,k3,k4⟩|⟨s,s1,s2,s3⟩
   ·rw[k3];have:=hpr k k1;unfold rlt;simp only;omega
   ·rw[<-s2];exact gt s s1
  ·have pm2:((dn++[row]++rest.map rwP)++wrR (lgQ p L b r row (nrQ p L row) L.length S.T)).Perm (chs L b r row L.length++((dn++[row]++rest.map rwP)++wrR S.T)):=(pm.append_left _).trans (by
    rw[<-fX,<-fX (chs L b r row L.length)]
    exact List.perm_append_comm.append_right _)
   refine pm2.nodup_iff.mpr<|bJ.mpr ⟨aPx _,nd,λc hc d hd e=> ?_⟩;subst e;obtain⟨k,k1,k2,rfl⟩:=chs_mem.mp hc
   rcases par _ hd with h|⟨q,j,h1,h2⟩
   ·simp at h
   ·have:row=q:=(List.append_inj' h1 rfl).1;subst this;exact rno h2
  ·rcases bC.mp he with he|he
   ·exact⟨cA _ (W.fd e he).1,(W.fd e he).2⟩
   ·rw[aF.mp he];exact⟨aX _<|cQ _,ro,by rw[er];rfl,rb,rfl⟩
  ·rw[efd]
   have h:c∈dn++[row]++rest.map rwP++wrR S.T\/c∈chs L b r row L.length:=by
    rcases bC.mp hc with h|h
    ·exact .inl<|cA _ h
    ·rcases(mem' c).mp h with h|h
     ·exact .inr h
     ·exact .inl<|aX _ h
   rcases h with h|h
   ·exact(par c h).imp id λ⟨q,k,h1,h2⟩=>⟨q,k,h1,cA _ h2⟩
   ·obtain⟨k,_,_,rfl⟩:=chs_mem.mp h;exact .inr ⟨row,k,rfl,aX _<|cQ _⟩
  ·rw[efd];refine aHd.mpr ⟨W.srt,aCN _ _,λa ha c hc=> ?_⟩;rw[aF.mp hc];obtain⟨e,he,rfl⟩:=aJ.mp ha;have:=W.lt1 e he _ aH;rw[oX] at this;exact this
  ·rcases bC.mp he with he|he
   ·exact W.lt1 e he z<|aE _ hz
   ·rw[aF.mp he];exact rest_lt z hz
  ·rcases bC.mp he with he|he
   ·rcases(mem' c).mp hc with h|h
    ·have:=W.lt1 e he _ aH;rw[oX] at this;exact aEh this<|ch_lt c h
    ·exact W.lt2 e he c h
   ·rw[aF.mp he]
    rcases(mem' c).mp hc with h|h
    ·exact ch_lt c h
    ·exact T_lt c h
  ·rcases bC.mp he with he|he
   ·exact cvn _<|W.cl e he k hk hle
   ·rw[aF.mp he] at hle ⊢;exact .inl<|(mem' _).mpr (.inl<|chs_mem.mpr ⟨k,hk,hle,rfl⟩)
theorem Wk.pop{t:(Int×Int)×List Pr2}(W:Wk p L b dn r [] S)(hn:S.T[n]? =some t)(hm:∀s∈S.T,¬ rlt s.1 t.1):t.2.Nodup/\Wk p L b dn t.1 (iX t.2) {S with T:=S.T.eraseIdx n}:=by
 have tm:=bH hn;obtain⟨nl,en⟩:=aI.mp hn
 have pT:S.T.Perm (t::S.T.eraseIdx n):=by
  have e1:S.T=S.T.take n++t::S.T.drop (n+1):=by rw[<-en,<-fN nl,gE]
  rw[dQ];exact(e1▸List.Perm.refl S.T:S.T.Perm (S.T.take n++t::S.T.drop (n+1))).trans oM
 have pw:(wrR S.T).Perm (t.2.map rwP++wrR (S.T.eraseIdx n)):=pT.flatMap_right _;have ps:((iX t.2).map rwP).Perm (t.2.map rwP):=(iB t.2).map _;have nd:=W.nd;rw[eA,cH] at nd
 have pall:(dn++(iX t.2).map rwP++wrR (S.T.eraseIdx n)).Perm (dn++wrR S.T):=by rw[fX];exact((ps.append_right _).trans pw.symm).append_left _
 have ndt:t.2.Nodup:=by have h1:=(bJ.mp<|pw.nodup_iff.mp (bJ.mp nd).2.1).1;exact List.Pairwise.of_map _ (λa c h e=>h<|by rw[e]) h1
 have er:∀s∈S.T.eraseIdx n,s∈S.T:=λs hs=>jQ hs
 have sub:∀c∈wrR (S.T.eraseIdx n),c∈wrR S.T:=λc hc=>pw.symm.mem_iff.mp<|aX _ hc
 have sub2:∀y∈iX t.2,rwP y∈wrR S.T:=λy hy=>pw.symm.mem_iff.mp (cA _<|aJ.mpr ⟨y,(iB t.2).mem_iff.mp hy,rfl⟩)
 have cv:∀c,Cov p L S [] c->Cov p L {S with T:=S.T.eraseIdx n} (iX t.2) c:=λc h=>by
  rcases h with h|h|h
  ·rcases bC.mp (pw.mem_iff.mp h) with h|h
   ·exact .inr (.inl<|ps.symm.mem_iff.mp h)
   ·exact .inl h
  ·cases h
  ·exact .inr<|.inr h
 have ek:wtK (S.T.eraseIdx n)=(wtK S.T).eraseIdx n:=by unfold wtK;rw[dQ,dQ,aZ,gC,gD]
 refine⟨ndt,⟨by rw[ek];exact W.ok.nk.sublist<|qB _ _,W.ok.kn,W.ok.nd⟩,λs hs=>W.ne s<|er s hs,λs hs=>W.wt s<|er s hs,λy hy=>W.wt t tm y<|(iB t.2).mem_iff.mp hy,aBp ndt,λ_ s hs=> ?_,pall.nodup_iff.mpr nd,W.fd,λc hc=> ?_,W.du,W.srt,λe he y hy=>W.lt2 e he _<|sub2 y hy,λe he c hc=>W.lt2 e he c<|sub c hc,λe he k hk hle=>cv _<|W.cl e he k hk hle,λh=>cv _<|W.st h⟩
 ·refine aNf (λe=> ?_) (hm s<|er s hs);have nk:=W.ok.nk;have pk:(wtK S.T).Perm (rkK t.1::wtK (S.T.eraseIdx n)):=pT.map _;have:=(bX.mp<|pk.nodup_iff.mp nk).1;refine this ?_;rw[e];exact aJ.mpr ⟨s,hs,rfl⟩
 ·refine W.par c ?_;rw[eA,cH];exact pall.mem_iff.mp hc
theorem aJy(hne:T≠[]):∃t:(Int×Int)×List Pr2,T[fM T]? =some t/\∀s∈T,¬ rlt s.1 t.1:=by
 have l0:0<T.length:=jJ.mpr hne
 have em:(wtK T).map nT=T.map λt=>rkD t.1:=by unfold wtK;rw[aN];rfl
 have ln:((wtK T).map nT).length=T.length:=by rw[em,aB]
 have gd:∀i,i<T.length->((wtK T).map nT).getD i .non=rkD ((T.map (·.1)).getD i (0,0)):=λi hi=>by rw[em];simp[bF,hi]
 have eb:fM T=Ab (λi k=>decide (rlt ((T.map (·.1)).getD i (0,0)) ((T.map (·.1)).getD k (0,0)))) (T.length-1):=by unfold fM kE;rw[ln];exact qU _ λi j hi hj=>by rw[gd i<|by omega,gd j<|by omega,aJK]
 have bl:=vK (λi k=>decide (rlt ((T.map (·.1)).getD i (0,0)) ((T.map (·.1)).getD k (0,0))))<|T.length-1;have bm:=yD (T.map (·.1)) (T.length-1) (by rw[aB];omega);rw[<-eb] at bl bm;generalize fM T=n at bl bm;have hn:n<T.length:=by omega
 refine⟨T[n],dC hn,λs hs=> ?_⟩;obtain⟨j,hj⟩:=eY hs;have lj:j<T.length:=(aI.mp hj).1;have:=bm j (by omega);have e1:(T.map (·.1)).getD j (0,0)=s.1:=by simp[bF,hj]
 have e2:(T.map (·.1)).getD n (0,0)=T[n].1:=by simp[bF,hn]
 rw[e1,e2] at this;exact this
noncomputable def fd0(p:Int×Int)(b:Int):FdS:=⟨if 0<=b then[((0,0),[nP ([],st0 p)])] else[],[],[]⟩
noncomputable def bkF(p:Int×Int)(L:List SK)(b:Int):List (Int×List Nat×List Nat):=(lO p L b 401<|fd0 p b).fd
theorem wk0(p:Int×Int)(L:List SK)(b:Int):Wk p L b [] (0,0) [] (fd0 p b):=by
 have e:nP ([],st0 p)=itP p L []:=rfl
 by_cases h:0<=b
 ·have e0:fd0 p b=⟨[((0,0),[itP p L []])],[],[]⟩:=by unfold fd0;rw[if_pos h,e]
  have ew:wrR [((0,0),[itP p L []])]=[[]]:=by show[rwP<|itP p L []]++[]=_;rw[oX];rfl
  rw[e0];refine⟨⟨by simp[wtK],rfl,dA⟩,λt ht=> ?_,λt ht y hy=> ?_,λy hy=>(nomatch hy),List.Pairwise.nil,λh=>absurd rfl h, ?_,λe he=>(nomatch he),λrow hr=> ?_,λrow hr=>(nomatch hr),List.Pairwise.nil,λe he=>(nomatch he),λe he=>(nomatch he),λe he=>(nomatch he),λ_=>.inl ?_⟩
  ·rw[aF.mp ht];simp
  ·rw[aF.mp ht] at hy ⊢;exact⟨[],aF.mp hy,λi hi=>(nomatch hi),rfl,h⟩
  ·show(wrR [((0,0),[itP p L []])]).Nodup;rw[ew];simp
  ·have hr:row∈wrR [((0,0),[itP p L []])]:=hr;rw[ew] at hr;exact .inl<|aF.mp hr
  ·show[]∈wrR [((0,0),[itP p L []])];rw[ew];exact cQ _
 ·have e0:fd0 p b=⟨[],[],[]⟩:=by unfold fd0;rw[if_neg h]
  rw[e0];exact⟨⟨dA,rfl,dA⟩,λt ht=>(nomatch ht),λt ht=>(nomatch ht),λy hy=>(nomatch hy),List.Pairwise.nil,λh=>absurd rfl h,dA,λe he=>(nomatch he),λrow hr=>(nomatch hr),λrow hr=>(nomatch hr),List.Pairwise.nil,λe he=>(nomatch he),λe he=>(nomatch he),λe he=>(nomatch he),λz=>absurd z h⟩
theorem Wk.take(hpr:∀k,k<L.length->1<=prK L k)(W:Wk p L b dn r rest S):∀j,j<=rest.length->Wk p L b (dn++(rest.take j).map rwP) r (rest.drop j) (fdP p L b r S<|rest.take j)
 |0,_=>by rw[aAH,eA,cH];exact W
 |j+1,hj=>by
  have ih:=Wk.take hpr W j (by omega);have lj:j<rest.length:=by omega
  rw[fN lj] at ih;have:=ih.step hpr;rw[<-wM] at this
  have et:rest.take (j+1)=rest.take j++[rest[j]]:=by rw[eK,dC lj];rfl
  rw[et,aZ,<-fX];exact this
theorem Wk.turn(hpr:∀k,k<L.length->1<=prK L k)(W:Wk p L b dn r [] S)(hne:S.T≠[]):∃t:(Int×Int)×List Pr2,S.T[fM S.T]? =some t/\(∀s∈S.T,¬ rlt s.1 t.1)/\t.2.Nodup/\t.2≠[]/\Wk p L b dn t.1 (iX t.2) {S with T:=S.T.eraseIdx (fM S.T)}/\fdT p L b S=fdP p L b t.1 {S with T:=S.T.eraseIdx (fM S.T)} (iX t.2)/\Wk p L b (dn++(iX t.2).map rwP) t.1 [] (fdT p L b S):=by
 obtain⟨t,ht,hm⟩:=aJy hne;obtain⟨n1,W1⟩:=W.pop ht hm
 have e:fdT p L b S=fdP p L b t.1 {S with T:=S.T.eraseIdx (fM S.T)} (iX t.2):=by unfold fdT;rw[ht]
 refine⟨t,ht,hm,n1,W.ne t<|bH ht,W1,e, ?_⟩;have:=W1.take hpr (iX t.2).length<|aR _;rw[dW,vZ] at this;rw[e];exact this
theorem aFh(hpr:∀k,k<L.length->1<=prK L k)(F:uG L b U):∀ (m:Nat) {dn:List (List Nat)}{r:Int×Int}{S:FdS},Wk p L b dn r [] S->U.length<dn.length+m->∃dn' r',Wk p L b dn' r' [] (lO p L b m S)/\(lO p L b m S).T=[]
 |0,dn,r,S,W,h=>by have:=W.few F;omega
 |m+1,dn,r,S,W,h=>by
  show ∃dn' r',Wk p L b dn' r' [] (if S.T=[] then S else lO p L b m (fdT p L b S))/\(if S.T=[] then S else lO p L b m (fdT p L b S)).T=[]
  by_cases q:S.T=[]
  ·rw[if_pos q];exact⟨dn,r,W,q⟩
  ·rw[if_neg q];obtain⟨t,_,_,_,ne,_,_,W2⟩:=W.turn hpr q;refine aFh hpr F m W2 ?_
   have:0<(iX t.2).length:=by rw[(iB t.2).length_eq];exact jJ.mpr ne
   rw[aP,aB];omega
structure BkFOk(p:Int×Int)(L:List SK)(b:Int)(B:List (Int×List Nat×List Nat)):Prop where
 len:B.length<=400
 ent:∀e∈B,RowOk L e.2.1/\e.1=S45.prQ (prK L) e.2.1/\e.1<=b/\e.2.2=nrQ p L e.2.1/\e.2.1.length<=300
 nd:(B.map λe=>e.2.2).Nodup
 srt:(B.map λe=>e.2.1).Pairwise (klt L)
 cl:∀e∈B,∀k,k<L.length->e.1+prK L k<=b->∃e'∈B,e'.2.2=nrQ p L (e.2.1++[k])/\kle L e'.2.1 (e.2.1++[k])
 st:0<=b->∃e∈B,e.2.2=nrQ p L []/\kle L e.2.1 []
theorem aJU(hpr:∀k,k<L.length->1<=prK L k)(F:uG L b U):BkFOk p L b (bkF p L b):=by
 obtain⟨dn,r,W,e⟩:=aFh hpr F 401 (wk0 p L b) (by have:=F.len;simp;omega)
 have cv:∀c,Cov p L (lO p L b 401<|fd0 p b) [] c->∃e∈(lO p L b 401<|fd0 p b).fd,e.2.2=nrQ p L c/\kle L e.2.1 c:=λc h=>by
  rcases h with h|h|h
  ·rw[e] at h;cases h
  ·cases h
  ·exact h
 refine⟨W.fdl F,λe he=> ?_,by have:=W.ok.nd;rw[W.ok.kn] at this;exact this,W.srt,λe he k hk hle=>cv _<|W.cl e he k hk hle,λh=>cv _<|W.st h⟩;obtain⟨h1,h2,h3,h4,h5⟩:=W.fd e he;exact⟨h2,h3,h4,h5,F.rl _ (F.all _ h2<|by rw[<-h3];exact h4)⟩
theorem BkFOk.all{B:List (Int×List Nat×List Nat)}(hpr:∀k,k<L.length->1<=prK L k)(O:BkFOk p L b B):∀row,RowOk L row->S45.prQ (prK L) row<=b->∃e∈B,e.2.2=nrQ p L row/\kle L e.2.1 row:=by
 have g:∀ (n:Nat) (row:List Nat),row.length=n->RowOk L row->S45.prQ (prK L) row<=b->∃e∈B,e.2.2=nrQ p L row/\kle L e.2.1 row:=λn=>by
  induction n with
  |zero=>intro row hl _ hb;have:row=[]:=dS hl;subst this;exact O.st hb
  |succ n ih=>
   intro row hl ho hb;have hne:row≠[]:=λz=>by rw[z] at hl;cases hl
   have ed:=yV hne;generalize row.dropLast=q at ed;generalize row.getLast hne=k at ed;subst ed;have kn:k<L.length:=ho k (by simp);have h1:=hpr k kn;rw[S45.pr_snoc] at hb;obtain⟨e,he,e1,e2⟩:=ih q (by simpa using hl) (λi hi=>ho i<|cA _ hi) (by omega);obtain⟨_,h3,_,h5,_⟩:=O.ent e he
   have le:S45.prQ (prK L) e.2.1<=S45.prQ (prK L) q:=by
    rcases e2 with z|(z|⟨z,_⟩)
    ·rw[z];exact Int.le_refl _
    ·have:(rkR L e.2.1).1<=(rkR L q).1:=by unfold rlt at z;omega
     exact this
    ·exact Int.le_of_eq<|congrArg Prod.fst z
   obtain⟨e',he',e3,e4⟩:=O.cl e he k kn (by omega);refine⟨e',he', ?_,aKV e4<|aHO k e2⟩;rw[e3,aBv,aBv,<-h5,e1]
 exact λrow=>g row.length row rfl
noncomputable def fdD(e:Int×List Nat×List Nat):D:=.tup [.int e.1,.tup<|bG e.2.1,.tup<|bG e.2.2]
def aKU:List D->R->Prop:=λds r=>∃p L b U,p∈bU/\StkOk p L/\uG L b U/\ds=[.lst (L.map<|mvD p),.int b,.tup (bG<|st0 p)]/\r=.own ((bkF p L b).map fdD)
noncomputable def zU(ds:List D):List Nat:=ds.map λd=>match d with | .int i=>i.toNat|_=>0
theorem aFo(l:List Nat):zU (bG l)=l:=by unfold zU bG;rw[aN];exact(bQ λi _=>cF i).trans<|lD l
noncomputable def unE:D->Int×List Nat×List Nat
 |.tup [.int a,.tup r,.tup n]=>(a,zU r,zU n)
 |_=>(0,[],[])
theorem aLq(e:Int×List Nat×List Nat):unE (fdD e)=e:=by show(e.1,zU<|bG e.2.1,zU<|bG e.2.2)=e;rw[aFo,aFo]
noncomputable def bkQ(p:Int×Int)(L:List SK)(b:Int):List Bk:=(bkF p L b).map λe=>(e.1,e.2.1,jR p e.2.2)
def aLn:List D->R->Prop:=λds r=>∃p L b U,p∈bU/\StkOk p L/\(L.map λs=>sqD s.1).Nodup/\uG L b U/\ds=[bW p,.lst<|L.map skD,.int b]/\r=.own ((bkQ p L b).map enD)
section
open PySem.W PySem.Calls Att
end
section
open PySem.SeqAt
open PySem.AutoSeq1 (wpAny_loadPart')
open PySem.MeetsSeq PySem.MeetsSeq2 PySem.MeetsSeq3
end
theorem vU{f:Int}{pr:Nat->Int}:∀ (row:List Nat),(∀k∈row,f<=pr k)->f*(row.length:Int)<=S45.prQ pr row
 |[],_=>by simp[S45.prQ]
 |k::row,h=>by
  have ih:=vU row λj hj=>h j<|aE _ hj
  have h1:=h k aH;show f*((row.length+1:Nat):Int)<=(pr k::row.map pr).sum;rw[aCO];have e:S45.prQ pr row=(row.map pr).sum:=rfl;rw[<-e,Int.natCast_add,Int.mul_add];omega
def aNV:List D->R->Prop:=λds r=>∃ (L:List SK) (row:List Nat),RowOk L row/\row.length<=400/\ds=[.lst<|L.map skD,.tup<|bG row]/\r=.val (.int<|S45.prQ (prK L) row)
structure aQD(p:Int×Int)(L:List SK)(b:Int)(B:List Bk):Prop where
 len:B.length<=400
 ent:∀e∈B,RowOk L e.2.1/\e.1=S45.prQ (prK L) e.2.1/\e.1<=b/\e.2.2=S45.tabQ (qH p L) (bT p) e.2.1/\e.2.1.length<=300
 nd:(B.map λe=>e.2.2).Nodup
 srt:(B.map λe=>e.2.1).Pairwise (klt L)
 cl:∀e∈B,∀k,k<L.length->e.1+prK L k<=b->∃e'∈B,e'.2.2=qH p L k e.2.2/\kle L e'.2.1 (e.2.1++[k])
 st:0<=b->∃e∈B,e.2.2=bT p/\kle L e.2.1 []
 all:∀row,RowOk L row->S45.prQ (prK L) row<=b->∃e∈B,e.2.2=S45.tabQ (qH p L) (bT p) row/\kle L e.2.1 row
theorem tZ(hp:p∈bU)(S:StkOk p L)(F:uG L b U):aQD p L b (bkQ p L b):=by
 have O:=aJU (p:=p) S.pr F;have nr:∀ {row:List Nat},RowOk L row->NOk p (nrQ p L row)/\jR p (nrQ p L row)=S45.tabQ (qH p L) (bT p) row:=λh=>aDR hp (λs hs=>(S.st s hs).1) h
 have mem:∀ {e:Int×List Nat×List Nat},e∈bkF p L b->(e.1,e.2.1,jR p e.2.2)∈bkQ p L b:=λh=>aJ.mpr ⟨_,h,rfl⟩
 refine⟨by unfold bkQ;rw[aB];exact O.len,λx hx=> ?_, ?_, ?_,λx hx k hk hle=> ?_,λh=> ?_,λrow ho hr=> ?_⟩
 ·obtain⟨e,he,rfl⟩:=aJ.mp hx;obtain⟨h1,h2,h3,h4,h5⟩:=O.ent e he;exact⟨h1,h2,h3,by show jR p e.2.2=_;rw[h4];exact(nr h1).2,h5⟩
 ·unfold bkQ;rw[aN];have:(bkF p L b).map ((λe:Bk=>e.2.2) ∘ λe=>(e.1,e.2.1,jR p e.2.2))=((bkF p L b).map λe=>e.2.2).map (jR p):=by rw[aN];rfl
  rw[this];have q:=O.nd;unfold List.Nodup at q ⊢;rw[gP];refine List.Pairwise.imp_of_mem (λ{a c} ha hc h z=>h ?_) q;obtain⟨e,he,rfl⟩:=aJ.mp ha;obtain⟨e',he',rfl⟩:=aJ.mp hc;have n1:=(nr (O.ent e he).1).1;have n2:=(nr (O.ent e' he').1).1;rw[<-(O.ent e he).2.2.2.1] at n1;rw[<-(O.ent e' he').2.2.2.1] at n2;exact aII hp n1 n2 z
 ·unfold bkQ;rw[aN];exact O.srt
 ·obtain⟨e,he,rfl⟩:=aJ.mp hx;obtain⟨e',he',h1,h2⟩:=O.cl e he k hk hle;obtain⟨o1,_,_,o4,_⟩:=O.ent e he;refine⟨_,mem he', ?_,h2⟩
  have ho:RowOk L (e.2.1++[k]):=λi hi=>by
   rcases bC.mp hi with hi|hi
   ·exact o1 i hi
   ·rw[aF.mp hi];exact hk
  show jR p e'.2.2=qH p L k (jR p e.2.2);rw[h1,(nr ho).2,S45.tab_snoc,o4,(nr o1).2]
 ·obtain⟨e,he,h1,h2⟩:=O.st h;refine⟨_,mem he, ?_,h2⟩;show jR p e.2.2=bT p;rw[h1];exact aEX p
 ·obtain⟨e,he,h1,h2⟩:=O.all S.pr row ho hr;refine⟨_,mem he, ?_,h2⟩;show jR p e.2.2=_;rw[h1];exact(nr ho).2
theorem aMi(hp:p∈bU)(S:StkOk p L)(h:RowOk L row):(S45.tabQ (qH p L) (bT p) row).length=(bT p).length:=by obtain⟨q1,q2⟩:=aDR hp (λs hs=>(S.st s hs).1) h;rw[<-q2];unfold jR;rw[aB];exact q1.1
theorem aRt(q:SQ):pl (sqD q)=true/\dep (sqD q)=1:=by
 show pl (gI _ _ _ _)=true/\dep (gI _ _ _ _)=1;unfold gI
 split
 ·exact⟨rfl,rfl⟩
 ·split<;>exact⟨rfl,rfl⟩
open PySem.W (KasT kas_sort)
noncomputable def doQ(p:Int×Int)(w:List (Option (List<|List Int)))(T:List (List Int)):Bool:=(rQ w (bT p) T).isNone
noncomputable def ftQ(p:Int×Int)(w:List (Option (List<|List Int)))(B:List Bk):Option Bk:=B.find? λe=>doQ p w e.2.2
noncomputable def oeD:Option Bk->D
 |none=>.non
 |some e=>enD e
def aLx:List D->R->Prop:=λds r=>∃p L b B w,p∈bU/\StkOk p L/\aQD p L b B/\aBS p w/\ds=[bW p,.lst<|B.map enD,.lst<|w.map wsD]/\r=.val (oeD<|ftQ p w B)
theorem aLP(hp:p∈bU)(S:StkOk p L)(h:RowOk L row):aCQ p (S45.tabQ (qH p L) (bT p) row):=⟨aMi hp S h,λws hw=>hW hp<|aIh hp S h ws hw⟩
theorem aME{B:List Bk}(O:aQD p L b B){w:List (Option (List<|List Int))}{e:Bk}(h:ftQ p w B=some e):e∈B/\doQ p w e.2.2=true/\∀row,RowOk L row->S45.prQ (prK L) row<=b->doQ p w (S45.tabQ (qH p L) (bT p) row)=true->kle L e.2.1 row:=by
 obtain⟨h1,as,bs,e1,h2⟩:=List.find?_eq_some_iff_append.mp h;refine⟨by rw[e1];simp,h1,λrow ho hr hd=> ?_⟩;obtain⟨x,hx,x1,x2⟩:=O.all row ho hr;refine aKV ?_ x2;rw[e1] at hx
 rcases bC.mp hx with hx|hx
 ·have:=h2 x hx;rw[x1] at this;simp[hd] at this
 ·rcases aU.mp hx with rfl|hx
  ·exact .inl rfl
  ·have:=O.srt;rw[e1,aZ,aV] at this;have:=(jU.mp (aHd.mp this).2.1).1;exact .inr (this x.2.1<|aJ.mpr ⟨x,hx,rfl⟩)
def FI(K:aA)(mg:Str->Option BH)(n:Str)(st:BN):Prop:=∃f fd,mg n=some (.ref f)/\Fun K n n st f fd
theorem FI.mk{h:BL}{mg:Str->Option BH}{n:Str}{st:BN}{od an:Option BJ}{sl:Array (Option BH)}{oc kV dc pm cd ct:BH}{f:BJ}(X:K.In h)(G:h.Ns AN mg)(a:kB K AN n=some (some<|.ref f))(l:K.lookup f=some ⟨oc,od,.func<|cV n n (fT st) (dY st) (bK st) .none kV dc pm an cd ct,sl⟩)(c:fE K cd n=true)(k:cU K (.ref f)=true):FI K mg n st:=⟨f,_,jI X G a,aBI (st:=st) l c k⟩
theorem aDZ(p:Int×Int)(L:List SK)(row:List Nat):tabQ p L row=S45.tabQ (qH p L) (bT p) row:=by
 have g:∀ (row:List Nat) (A:List (List Int)),A.map (λws=>cY p L row ws)=row.foldl (λt k=>qH p L k t) A:=λrow=>by
  induction row with
  |nil=>exact λA=>(bQ λ_ _=>rfl).trans<|lD A
  |cons k row ih=>intro A;show A.map (λws=>cY p L row<|onQ p (L.getD k AG).1 ws)=row.foldl (λt k=>qH p L k t) (qH p L k A);rw[<-ih];unfold qH;rw[aN];rfl
 exact g row<|bT p
def JSh(p:Int×Int)(L:List SK)(ks:List Key)(ds:List D):Prop:=ks.Nodup/\ks.length=ds.length/\∀ (n:Nat) (k:Key),ks[n]? =some k->∃b:Nat,b<=900/\k=Sum.inl (b:Int)/\ds[n]? =some (D.lst<|(bkQ p L (b:Int)).map enD)
theorem JSh.nil:JSh p L [] []:=⟨dA,rfl,λn k h=>by simp at h⟩
theorem JSh.len{ks:List Key}(h:JSh p L ks ds):ds.length<=1000:=by
 have:=h.1.length_le_of_subset (l₂:=(aW 901).map λ(b:Nat)=>(.inl (b:Int):Key)) λk hk=>by obtain⟨n,hn⟩:=eY hk;obtain⟨b,hb,e,_⟩:=h.2.2 n k hn;exact aJ.mpr ⟨b,bE.mpr<|by omega,e.symm⟩
 rw[aB,dE] at this;have:=h.2.1;omega
theorem JSh.put{ks:List Key}(h:JSh p L ks ds){b:Nat}(hb:b<=900)(hk:(.inl (b:Int):Key)∉ks):JSh p L (ks++[.inl (b:Int)]) (ds++[.lst<|(bkQ p L (b:Int)).map enD]):=by
 refine⟨bJ.mpr ⟨h.1,bX.mpr ⟨by simp,dA⟩,λa ha c hc e=>hk ?_⟩,by rw[aP,aP,h.2.1];rfl,λn k hn=> ?_⟩
 ·rw[<-aF.mp hc,<-e];exact ha
 ·by_cases hl:n<ks.length
  ·rw[gJ hl] at hn;obtain⟨b',q1,q2,q3⟩:=h.2.2 n k hn;exact⟨b',q1,q2,by rw[gJ<|by rw[<-h.2.1];exact hl];exact q3⟩
  ·have e:n=ks.length:=by have:=(aI.mp hn).1;rw[aP] at this;simp at this;omega
   subst e;rw[lZ] at hn;refine⟨b,hb,(bY.inj hn).symm, ?_⟩;rw[h.2.1,lZ]
theorem JSh.at_{ks:List Key}(h:JSh p L ks ds){b:Nat}(hk:(.inl (b:Int):Key)∈ks):∃n:Nat,ks[n]? =some (Sum.inl (b:Int))/\ds[n]? =some (D.lst<|(bkQ p L (b:Int)).map enD):=by
 obtain⟨n,hn⟩:=eY hk;obtain⟨b',_,e,q⟩:=h.2.2 n _ hn
 have:b=b':=by have:=Sum.inl.inj e;omega
 subst this;exact⟨n,hn,q⟩
noncomputable def aSg(p:Int×Int)(L:List SK):List (Str×D):=[("size",bW p),("stock",.lst<|L.map skD)]
noncomputable abbrev shZ(K:aA)(C:BJ)(p:Int×Int)(L:List SK):Lent K:=shL K C (aSg p L)<|JSh p L
structure aSr(p:Int×Int)(L:List SK)(b:Nat):Prop where
 hp:p∈bU
 st:StkOk p L
 nd:(L.map λs=>sqD s.1).Nodup
 few:∃U,uG L (b:Int) U
 le:b<=900
def aSt{α:Type}(p:Int×Int)(L:List SK):α->List D->D->Prop:=λ_ ds d=>∃b:Nat,aSr p L b/\ds=[.int (b:Int)]/\d=.lst ((bkQ p L (b:Int)).map enD)
noncomputable def pfD:Option Bk->D
 |none=>.non
 |some e=>.tup<|bG e.2.1
noncomputable def pcQ(p:Int×Int)(L:List SK)(row:List Nat)(pl mn:Nat)(bs:List Nat):Option Bk:=ftQ p (waQ p L row pl mn bs) (bkQ p L<|xU (sG L<|(row.drop pl).take mn)-1)
structure aJG(p:Int×Int)(L:List SK)(row:List Nat)(pl mn:Nat)(o:Option (List Nat)):Prop where
 rw:∀t∈row,t<L.length
 rl:row.length<=120
 m1:1<=mn
 le:pl+mn<=row.length
 lk:aJE p o
 bk:∃b:Nat,xU (sG L<|(row.drop pl).take mn)-1=(b:Int)/\aSr p L b
def CPf{α:Type}(p:Int×Int)(L:List SK):α->List D->D->Prop:=λ_ ds d=>∃row pl mn o,aJG p L row pl mn o/\ds=[.tup<|bG row,.int (pl:Int),.int (mn:Int),lkD o]/\d=pfD (pcQ p L row pl mn<|bxQ p.2.toNat o)
def aLv:List D->R->Prop:=λds r=>∃p L row pl mn o,aJG p L row pl mn o/\ds=[bW p,.lst<|L.map skD,.tup<|bG row,.int (pl:Int),.int (mn:Int),lkD o]/\r=.val (pfD (pcQ p L row pl mn<|bxQ p.2.toNat o))
theorem aNl{C:BJ}{fs:List (Str×D)}{J:List Key->List D->Prop}{a:BJ×BJ}(F H:Hp)(h:(shL K C fs J).G a (.ref<|(shL K C fs J).ad a) F H):aNO K C "book_up_to" ((shL K C fs J).ad a) F:=by obtain⟨_,⟨x,dx,od,mA,e,h1,h2,ne,ns,_,_,hb⟩,_⟩:=h;cases e;exact⟨dx,od,mA,h1,h2,ne,ns,hb⟩
theorem aBK{C:BJ}{fs:List (Str×D)}{J:List Key->List D->Prop}(a:BJ×BJ)(v:V)(F H:Hp)(b:BJ)(o:HO)(h:(shL K C fs J).G a v F H)(hb:b∈(shL K C fs J).own a)(e:H b=some o):¬ rA o:=by obtain⟨_,_,ks,ds,_,xs,q,_⟩:=h;rw[aF.mp hb] at e;have e':=q.symm.trans e;cases e';exact id
variable {b tg iter o:Expr}{es:List Expr}{r ra rb:R}{d:D}{st:BN}{rest:List BN}
structure aNK(dv:Array BH)(K:aA)(x qual:Str)(st:BN)(f:BJ)(fd:AL):Prop where
 ex:∃ (oc:BH) (od:Option BJ) (T:BJ) (kV doc pm:BH) (an:Option BJ) (cdv ct:BH) (osl:Array (Option BH)) (tc:BH) (td:Option BJ) (n:Nat) (tsl:Array (Option BH)),
  fd=cV x qual (fT st) (dY st) (bK st) (.ref T) kV doc pm an cdv ct/\K.lookup f=some ⟨oc,od,.func fd,osl⟩/\fE K cdv qual=true/\K.lookup T=some ⟨tc,td,.seq dv n,tsl⟩
 kp:cU K (.ref f)=true
structure CalleeE(xs:List BH)(P:AD)(w:AI)(K:aA)(mg:Str->Option BH)(base:BL)(x:Str)(k n:Nat)(C:List D->R->Prop):Prop where
 ex:∃ (f:BJ) (fd:AL) (ps:List Str),mg x=some (.ref f)/\cU K (.ref f)=true/\Binds K fd ps []/\Binds K fd ps xs/\FnOk P w K mg base CX0 k f fd ps (spC K n C)
theorem CalleeE.full{xs:List BH}{mg:Str->Option BH}{base:BL}{k:Nat}{C:List D->R->Prop}(G:CalleeE xs P w K mg base x k n C):bA P w K mg base x k n C:=by obtain⟨f,fd,ps,a,b,c,_,d⟩:=G.ex;exact⟨f,fd,ps,a,b,c,d⟩
theorem vI{dv:Array BH}{xs:List BH}{mg:Str->Option BH}{base:BL}{qual:Str}{f:BJ}{fd:AL}{N ps:List Str}{k:Nat}{C:List D->R->Prop}(F:aNK dv K x qual st f fd)(S:kR N ps (bK st))
  (hm:mg x=some (.ref f)) (hb:∀ (s:BI) (T:BJ) (o:BM) (nn:Nat) (kV doc pm:BH) (an:Option BJ) (cdv ct:BH) (us:List BH),s.heap.get? T=some o->o.data=.seq dv nn->us.length=ps.length->BindsTo s (cV x qual (fT st) (dY st) (bK st) (.ref T) kV doc pm an cdv ct) ⟨us,[]⟩ (ps.zip us))
  (hb2:∀ (s:BI) (T:BJ) (o:BM) (nn:Nat) (kV doc pm:BH) (an:Option BJ) (cdv ct:BH) (us:List BH),s.heap.get? T=some o->o.data=.seq dv nn->us.length+xs.length=ps.length->BindsTo s (cV x qual (fT st) (dY st) (bK st) (.ref T) kV doc pm an cdv ct) ⟨us,[]⟩ (ps.zip<|us++xs))
  (body:∀ (cdv:BH) (A:BK) (outer:List Env) (s:BI) (H:Hp) (E:XK),Room k (A.deeper (envOfC qual (bK st) s.heap.objs.size f cdv))→∀ds r,ds.length=ps.length→C ds r→
   PSd (qG CX0 P w K mg base N qual (bK st) f cdv A outer s H E).nox (init N.length ds) (dY st) {nx:=λ_=>r=.val .non,rt:=λr'=>r'=r}):CalleeE xs P w K mg base x (k+1) ps.length C:=by
 obtain⟨oc,od,T,kV,doc,pm,an,cdv,ct,osl,tc,td,n,tsl,rfl,lk,hcd,lT⟩:=F.ex;refine⟨f,cV x qual (fT st) (dY st) (bK st) (.ref T) kV doc pm an cdv ct,ps,hm,F.kp,λs us KX hl=> ?_,λs us KX hl=> ?_, ?_⟩
 ·rw[cH] at hl ⊢;exact hb s T _ n kV doc pm an cdv ct us (KX T _ lT) rfl hl
 ·exact hb2 s T _ n kV doc pm an cdv ct us (KX T _ lT) rfl (by rw[<-hl,aP])
 ·refine aOf lk hcd S (λvs H Q E h=>h.1) λA outer s H vs Q E hr h=> ?_
  obtain⟨hl,sm,ds,r,rl,c,q⟩:=h;have hds:ds.length=ps.length:=by rw[<-rl.len];exact hl
  refine⟨_,pss_w.nox, ?_⟩;have hlen:N.length-vs.length=N.length-ds.length:=by rw[rl.len]
  have S0:StF K H H H (L2.start N vs) (init N.length ds):=by
   refine⟨Same.refl _,Same.refl _,sm, ?_, ?_⟩
   ·unfold L2.start init;rw[hlen];exact lU (m:=0) rl
   ·unfold init;rw[lP];exact dA
  refine(body cdv A outer s H E hr ds r hds c (L2.start N vs) H H S0).imp ?_ ?_ (λ_ _ ⟨_,_,_,_,z⟩=>z) λ_ _ ⟨_,_,_,_,z⟩=>z
  ·rintro σ' H' ⟨sd',F',S',s',e⟩;have e:r=.val .non:=e;subst e;exact q .non H' ⟨F',S'.base,S'.sub,S'.smp,by simp only[ResOk,Rep]⟩
  ·rintro v H' ⟨r',ro,e⟩;have e:r'=r:=e;subst e;exact q v H' ro
theorem aFn{qual:Str}{f T:BJ}{oc kV doc pm cdv ct tc:BH}{od an td:Option BJ}{osl tsl:Array (Option BH)}{dv:Array BH}
  (l:K.lookup f=some ⟨oc,od,.func<|cV x qual (fT st) (dY st) (bK st) (.ref T) kV doc pm an cdv ct,osl⟩) (c:fE K cdv qual=true) (k:cU K (.ref f)=true) (t:K.lookup T=some ⟨tc,td,.seq dv n,tsl⟩):
  aNK dv K x qual st f (cV x qual (fT st) (dY st) (bK st) (.ref T) kV doc pm an cdv ct):=⟨⟨_,_,_,_,_,_,_,_,_,_,_,_,_,_,rfl,l,c,t⟩,k⟩
variable {p:Pos}{ls:List D}
theorem aGu{Z:Lent X.K}{a:Z.α}{x1}(i j:Nat)(hij:i≠j)(hs:sd[i]? =some (Z.sl a))(hj:sd[j]? =some (.own l ls))(hx:PE X (.Name x p) (iQ j))(h:PEd X sd e (.val d))(hE:E.rt (rtR Z a<|.pr d ls))
  (hst:AC [e, .Name x p] X.env=(false,eval e X.env)::AC [.Name x p] X.env:=by rfl) (hst2:AC [.Name x p] X.env=(false,eval (.Name x p) X.env)::AC [] X.env:=by rfl):PSd1 X sd (.Return (some<|.Tuple [e, .Name x p] x1 p2) pos) E:=.mk λσ F H S=>
 (tY (aEw (dP eV (dP hx pa_nil hst2) hst))).to ((h σ F H S).imp fun v H1 ⟨F1,S1,s1,q1⟩=>by
  obtain⟨o',h1,h2,n,xs,q,rl⟩:=S1.slots.get hj;obtain⟨o,g1,v0,g2,ow,gg⟩:=S1.slots.get hs;have ev:=Z.hv<|gg F1 H1 (Same.refl _) λ_ _ _ e=>e;subst ev;refine⟨.ref l,by rw[h1,h2],dL<|eG (show 2<=1000 by decide),λp hp=> ?_⟩;obtain⟨S2,s2⟩:=S1.lay (o:=.tup [v,.ref l]) hp trivial;have ne:l≠p:=cE q hp;have nl:l∉Z.own a:=λz=>hV S1.nd hs (show l∈fS (Z.sl a) from z)<|dN.mpr ⟨.own l ls,bH (i:=j) (by rw[gO hij];exact hj),by simp[fS]⟩
  have nz:∀b∈Z.own a,b≠p:=λb hb=>by obtain⟨_,ob,e,_⟩:=ow b hb;exact cE e hp
  refine⟨rtR Z a<|.pr d ls,⟨_,S2.base,S2.sub,S2.smp,Z.own a++[l], ?_,λb hb=> ?_,λF' H' sF k=> ?_⟩,hE⟩
  ·exact bJ.mpr ⟨iL S1.nd hs,by simp,λb hb c hc e=>nl<|by rw[<-aF.mp hc,<-e];exact hb⟩
  ·refine⟨?_, ?_,by simp[cC]⟩
   ·rcases bC.mp hb with hb|hb
    ·rw[bD<|nz b hb];exact(ow b hb).1
    ·rw[aF.mp hb,bD ne];exact n
   ·rcases bC.mp hb with hb|hb
    ·rw[bD<|nz b hb];exact(ow b hb).2
    ·rw[aF.mp hb,bD ne];exact⟨_,q,trivial⟩
  ·exact⟨p,l,xs,v,rfl,rfl,sF _ _ bL,Rep.mono sF (Rep.mono s2 q1),k l (by simp) _ (by rw[bD ne];exact q),(rl.mono s2).mono sF,λF2 H2 s3 k2=>gg F2 H2 ((s2.trans sF).trans s3) λb hb ob e=>k2 b hb ob (k b (cA _ hb) ob (by rw[bD (nz b hb)];exact e))⟩)
structure aRL(p:Int×Int)(L:List SK):Prop where
 hp:p∈bU
 st:StkOk p L
 le:L.length<=3
 pr:∀s∈L,s.2<=2
 nd:(L.map λs=>sqD s.1).Nodup
theorem aKm(p:Int×Int)(ns:List Int)(st:Nat)(d:Int):∀t,((ktN p ns st d t).map λs=>sqD s.1).Nodup
 |0=>dA
 |t+1=>by
  have ih:=aKm p ns st d t;unfold ktN
  split
  ·exact ih
  ·rename_i h;rw[aZ];refine bJ.mpr ⟨ih,by simp,λx hx y hy z=>h ?_⟩;have ey:y=sqD (vA p (kJ (ns.getD (st+t) 0)<|t+1)):=by simpa using hy
   obtain⟨s,hs,rfl⟩:=aJ.mp hx;refine vY.mpr ⟨sqD s.1,aJ.mpr ⟨skD s,aJ.mpr ⟨s,hs,rfl⟩,rfl⟩, ?_⟩;rw[<-ey,<-z];exact oV _ (aRt _).1
theorem aKH(p:Int×Int)(ns:List Int)(st:Nat):∀t,∀s∈ktN p ns st 2 t,s.2<=2
 |0=>λs hs=>by cases hs
 |t+1=>λs hs=>by
  have ih:=aKH p ns st t;unfold ktN at hs
  split at hs
  ·exact ih s hs
  ·rcases bC.mp hs with hs|hs
   ·exact ih s hs
   ·have e:=aF.mp hs;subst e;have:=cK (kJ (ns.getD (st+t) 0) (t+1) / 10^6) (show(0:Int)<2 by decide);show 1+_<=(2:Int);omega
theorem aRQ{p:Int×Int}(hp:p∈bU)(ns:List Int):aRL p (ktN p ns 4 2 3):=⟨hp,aRe hp ns 4 (by decide) (by decide) (by decide)<|by decide,(aBO hp ns 4 (by decide) (by decide) 3).1,aKH p ns 4 3,aKm p ns 4 2 3⟩
noncomputable def enu(q:List Int):Nat->Int->List (List Nat)
 |0,b=>if b<0 then[] else[[]]
 |n+1,b=>if b<0 then[] else[]::(aW q.length).flatMap λk=>(enu q n<|b-q.getD k 1).map (k::·)
theorem aFz(q:List Int):∀ (n:Nat) (b:Int) (row:List Nat),row∈enu q n b->row.length<=n
 |0,b,row,h=>by
  unfold enu at h
  split at h
  ·cases h
  ·rw[aF.mp h];exact aR _
 |n+1,b,row,h=>by
  unfold enu at h
  split at h
  ·cases h
  ·rcases aU.mp h with rfl|h
   ·exact cD _
   ·obtain⟨k,_,h⟩:=dN.mp h;obtain⟨r,hr,rfl⟩:=aJ.mp h;exact oP<|aFz q n _ r hr
theorem aEM(q:List Int)(hq:∀x∈q,1<=x):∀ (n:Nat) (b:Int) (row:List Nat),(∀k∈row,k<q.length)->row.length<=n->S45.prQ (λk=>q.getD k 1) row<=b->row∈enu q n b
 |0,b,row,_,hl,hb=>by rw[dS<|Nat.le_zero.mp hl] at hb ⊢;have:(0:Int)<=b:=hb;unfold enu;rw[if_neg<|by omega];simp
 |n+1,b,[],_,_,hb=>by
  have:¬ b<0:=by have:(0:Int)<=b:=hb;omega
  unfold enu;rw[if_neg this];simp
 |n+1,b,k::r,hk,hl,hb=>by
  have h0:=vU (f:=1) (pr:=λk=>q.getD k 1) r λi hi=>hq _<|getD_mem (hk i<|aE _ hi)
  have h1:1<=q.getD k 1:=hq _<|getD_mem (hk k<|aH ..)
  have hb:q.getD k 1+S45.prQ (λk=>q.getD k 1) r<=b:=by
   have:S45.prQ (λk=>q.getD k 1) (k::r)=q.getD k 1+S45.prQ (λk=>q.getD k 1) r:=by unfold S45.prQ;rw[aV,aCO]
   omega
  unfold enu;rw[if_neg<|by omega];refine aE _<|dN.mpr ⟨k,bE.mpr (hk k<|aH ..),aJ.mpr ⟨r,aEM q hq n _ r (λi hi=>hk i<|aE _ hi) (Nat.le_of_succ_le_succ hl)<|by omega,rfl⟩⟩
theorem aKy(q:List Int):∀ (n:Nat) (b:Int) (row:List Nat),row∈enu q n b->∀k∈row,k<q.length
 |0,b,row,h=>by
  unfold enu at h
  split at h
  ·cases h
  ·rw[aF.mp h];exact λk hk=>nomatch hk
 |n+1,b,row,h=>by
  unfold enu at h
  split at h
  ·cases h
  ·rcases aU.mp h with rfl|h
   ·exact λk hk=>nomatch hk
   ·obtain⟨k,hk,h⟩:=dN.mp h;obtain⟨r,hr,rfl⟩:=aJ.mp h;intro x hx
    rcases aU.mp hx with rfl|hx
    ·exact bE.mp hk
    ·exact aKy q n _ r hr x hx
noncomputable def enC(q:List Int)(B:Nat):Bool:=decide ((enu q B (B:Int)).length<=400)&&(enu q B (B:Int)).all λu=>decide<|((enu q B (B:Int)).filter λv=>decide<|S45.prQ (λk=>q.getD k 1) v=S45.prQ (λk=>q.getD k 1) u/\v.length=u.length).length<64
theorem aLL{p:Int×Int}(h:StkOk p L){B:Nat}(hB:B<=300)(hl:enC (L.map (·.2)) B=true):uG L (B:Int) (enu (L.map (·.2)) B (B:Int)):=by
 simp only[enC,bR,decide_eq_true_eq,cW] at hl
 have ee:∀row:List Nat,row∈enu (L.map (·.2)) B (B:Int)->S45.prQ (λk=>(L.map (·.2)).getD k 1) row=S45.prQ (prK L) row:=λrow hr=>by
  unfold S45.prQ;congr 1;refine bQ λk hk=> ?_
  have:=aKy _ _ _ row hr k hk;rw[aB] at this;unfold prK;simp[bF,this]
 refine⟨hl.1,λrow hr=>bZ (aFz _ _ _ row hr) hB,λrow ho hr=> ?_,λr=> ?_⟩
 rotate_left
 ·cases h0:(enu (L.map (·.2)) B (B:Int)).filter λrow=>decide (rkR L row=r) with
  |nil=>exact Nat.zero_lt_succ _
  |cons u us=>
   have hu:u∈(enu (L.map (·.2)) B (B:Int)).filter λrow=>decide (rkR L row=r):=by rw[h0];exact aH ..
   obtain⟨m1,m2⟩:=cS.mp hu;have m2:=of_decide_eq_true m2;rw[<-h0];refine eD (pG (congrArg qM<|uX λrow hr=> ?_))<|hl.2 u m1;subst m2;refine decide_eq_decide.mpr ?_;unfold rkR;rw[<-ee row hr,<-ee u m1]
   constructor
   ·intro h;injection h with h1 h2
    exact⟨h1,by omega⟩
   ·rintro⟨h1,h2⟩;rw[h1,h2]
 have e:S45.prQ (λk=>(L.map (·.2)).getD k 1) row=S45.prQ (prK L) row:=by
  unfold S45.prQ;congr 1;refine bQ λk hk=> ?_
  have:=ho k hk;unfold prK;simp[bF,this]
 have h1:=vU (f:=1) (pr:=prK L) row λk hk=>(h.st _ (getD_mem (d:=(AG:SK))<|ho k hk)).2.1
 refine aEM _ (λx hx=> ?_) _ _ row (λk hk=>by rw[aB];exact ho k hk) (by omega) (by rw[e];exact hr);obtain⟨s,hs,rfl⟩:=aJ.mp hx;exact(h.st s hs).2.1
theorem aBP{f:Int}{pr:Nat->Int}:∀ (row:List Nat),(∀k∈row,pr k<=f)->S45.prQ pr row<=f*(row.length:Int)
 |[],_=>by simp[S45.prQ]
 |k::r,h=>by
  have ih:=aBP (f:=f) (pr:=pr) r λi hi=>h i<|aE _ hi
  have h1:=h k<|aH ..;have e:S45.prQ pr (k::r)=pr k+S45.prQ pr r:=by unfold S45.prQ;rw[aV,aCO]
  have e2:f*((k::r).length:Int)=f*(r.length:Int)+f:=by rw[bP];push_cast;rw[Int.mul_add,Int.mul_one]
  omega
theorem aBU(pr:Nat->Int)(a b:List Nat):S45.prQ pr (a++b)=S45.prQ pr a+S45.prQ pr b:=by unfold S45.prQ;rw[aZ,yW]
theorem aDo{m:Int}(hg:Gl X "range")(hm:X.mg "range"=none)(h:PEd X sd a (.val<|.int m))(hn: -(2^62)<=m/\m<2^62)(hs:AC [a] X.env=[(false,eval a X.env)]:=by rfl):PId X sd PT0 tg (.Call (.Name "range" p) [a] [] pos) (fC 0 m.toNat):=.mk λσ F H S=>
 (zT hg hm rC hs).to ((aC h aM trivial hs σ F H S).imp fun vs H1 ⟨F1,S1,s1,q1⟩=>by
  cases q1 with
  |cons q1 q2=>
   cases q2;simp only[ResOk,Rep] at q1;subst q1
   exact⟨m,rfl,by omega,hn.2,F1,S1,s1,tX⟩)
structure Kw(p:Int×Int)(L:List SK)(w:Nat):Prop where
 hp:p∈bU
 st:StkOk p L
 nd:(L.map λs=>sqD s.1).Nodup
 mx:∃ (m:Int) (B:Nat) (U:List (List Nat)),(∀s∈L,s.2<=m)/\0<=m/\m*(w:Int)<=B+1/\B<=900/\uG L (B:Int) U
structure McIn(p:Int×Int)(L:List SK)(row:List Nat)(o:Option (List Nat))(w:Nat):Prop where
 k:Kw p L w
 rw:RowOk L row
 pr:S45.prQ (prK L) row<=120
 lk:aJE p o
theorem nK{p:Int×Int}(S:StkOk p L)(h:RowOk L row):(row.length:Int)<=S45.prQ (prK L) row:=by
 have:=vU (f:=1) (pr:=prK L) row λk hk=>(S.st _ (getD_mem (d:=(AG:SK))<|h k hk)).2.1
 omega
theorem McIn.pc{p:Int×Int}{o:Option (List Nat)}{w:Nat}(I:McIn p L row o w){pl mn:Nat}(m1:1<=mn)(mw:mn<=w)(hw:pl+mn<=row.length):aJG p L row pl mn o:=by
 obtain⟨m,B,U,h1,h0,h2,h3,fu⟩:=I.k.mx
 have hl:((row.drop pl).take mn).length=mn:=by rw[dD,eX];omega
 have ok:RowOk L ((row.drop pl).take mn):=λt ht=>I.rw t (eC<|dR ht)
 have a1:=nK I.k.st ok;have a2:=aBP (f:=m) (pr:=prK L) ((row.drop pl).take mn) λk hk=>h1 _ (getD_mem (d:=(AG:SK))<|ok k hk)
 have a3:=nK I.k.st I.rw;have a4:=I.pr;rw[hl] at a1 a2;have a5:m*(mn:Int)<=m*(w:Int):=Int.mul_le_mul_of_nonneg_left (by omega) h0;refine⟨I.rw,by omega,m1,hw,I.lk,(xU (sG L<|(row.drop pl).take mn)-1).toNat,by rw[oS];omega,I.k.hp,I.k.st,I.k.nd,⟨U,fu.len,fu.rl,λr hr hb=>fu.all r hr<|Int.le_trans hb ?_,fu.gr⟩, ?_⟩
 ·rw[oS];omega
 ·rw[oS];omega
theorem aBg{β:Type}{f:Nat->Option β}{i:Nat}{y:β}:∀ {n:Nat},i<n->(∀j,j<i->f j=none)->f i=some y->(aW n).findSome? f=some y
 |n+1,h,h1,h2=>by
  rw[pF,List.findSome?_append]
  by_cases q:i<n
  ·rw[aBg q h1 h2];rfl
  ·have:i=n:=by omega
   subst this;rw[fG.mpr λj hj=>h1 j<|bE.mp hj];simp[h2]
theorem aEZ{β:Type}{f:Nat->Option β}(h:∀j,j<n->f j=none):(aW n).findSome? f=none:=fG.mpr λj hj=>h j<|bE.mp hj
noncomputable def fcP(p:Int×Int)(L:List SK)(row:List Nat)(bs:List Nat)(m pl:Nat):Option Ch:=(pcQ p L row pl (m+1) bs).map λe=>(pl,m+1,e.2.1)
noncomputable def fcM(p:Int×Int)(L:List SK)(row:List Nat)(bs:List Nat)(m:Nat):Option Ch:=(aW<|row.length-m).findSome?<|fcP p L row bs m
noncomputable def fcQ(p:Int×Int)(L:List SK)(bs:List Nat)(w:Nat)(row:List Nat):Option Ch:=(aW w).findSome?<|fcM p L row bs
noncomputable def ocD:Option Ch->D
 |none=>.non
 |some c=>chD c
theorem sK{p:Int×Int}{o:Option (List Nat)}{w:Nat}(I:McIn p L row o w){bs:List Nat}{c:Ch}(h:fcQ p L bs w row=some c):RowOk L c.2.2/\c.2.2.length<=300/\c.1+c.2.1<=row.length/\S45.prQ (prK L) (wcQ row c)<S45.prQ (prK L) row:=by
 obtain⟨m,hm,h⟩:=gQ h;obtain⟨pl,hpl,h⟩:=gQ h;have hm:=bE.mp hm;have hpl:=bE.mp hpl;obtain⟨e,he,rfl⟩:=eE.mp h;have P:=I.pc (pl:=pl) (mn:=m+1) (by omega) hm (by omega);obtain⟨b,eb,Ib⟩:=P.bk;obtain⟨U,fu⟩:=Ib.few;unfold pcQ at he;rw[eb] at he;obtain⟨q1,q2,q3,_,q5⟩:=(tZ Ib.hp Ib.st fu).ent e<|mX he;refine⟨q1,q5,by show pl+(m+1)<=_;omega, ?_⟩;rw[oS] at eb;unfold wcQ;rw[aBU,aBU]
 have e1:row=row.take pl++((row.drop pl).take (m+1)++row.drop (pl+(m+1))):=by rw[<-aPR,gE,gE]
 have e2:=congrArg (S45.prQ<|prK L) e1;rw[aBU,aBU] at e2;rw[e2];show S45.prQ (prK L) (row.take pl)+S45.prQ (prK L) e.2.1+S45.prQ (prK L) (row.drop<|pl+(m+1))<_;omega
theorem McIn.next{p:Int×Int}{o:Option (List Nat)}{w:Nat}(I:McIn p L row o w){bs:List Nat}{c:Ch}(h:fcQ p L bs w row=some c):McIn p L (wcQ row c) o w:=by obtain⟨q1,_,_,q4⟩:=sK I h;exact⟨I.k,I.rw.wc q1,by have:=I.pr;omega,I.lk⟩
noncomputable def mcN(p:Int×Int)(L:List SK)(bs:List Nat)(w:Nat):Nat->List Nat->List Ch->List Nat×List Ch
 |0,r,cs=>(r,cs)
 |n+1,r,cs=>match fcQ p L bs w r with
  |none=>(r,cs)
  |some c=>mcN p L bs w n (wcQ r c)<|cs++[c]
noncomputable def mcQ(p:Int×Int)(L:List SK)(bs:List Nat)(w:Nat)(row:List Nat):List Nat×List Ch:=mcN p L bs w 120 row []
theorem nN{p:Int×Int}{bs:List Nat}{w:Nat}{r:List Nat}(h:fcQ p L bs w r=none)(cs:List Ch):∀n,mcN p L bs w n r cs=(r,cs)
 |0=>rfl
 |n+1=>by unfold mcN;rw[h]
theorem aBh{p:Int×Int}{bs:List Nat}{w:Nat}{r:List Nat}{c:Ch}(h:fcQ p L bs w r=some c)(cs:List Ch):mcN p L bs w (n+1) r cs=mcN p L bs w n (wcQ r c) (cs++[c]):=by show(match fcQ p L bs w r with|none=>(r,cs)|some c=>mcN p L bs w n (wcQ r c)<|cs++[c])=_;rw[h]
structure McSt(p:Int×Int)(L:List SK)(o:Option (List Nat))(bs:List Nat)(w:Nat)(fin:List Nat×List Ch)(n:Nat)(r:List Nat)(cs:List Ch):Prop where
 I:McIn p L r o w
 pn:S45.prQ (prK L) r<=(n:Int)
 le:cs.length+n<=120
 pc:∀c∈cs,c.2.2.length<=300
 fin:mcN p L bs w n r cs=fin
theorem McSt.next{p:Int×Int}{o:Option (List Nat)}{bs:List Nat}{w:Nat}{fin:List Nat×List Ch}{r:List Nat}{cs:List Ch}(S:McSt p L o bs w fin n r cs){c:Ch}(h:fcQ p L bs w r=some c):∃m,m<n/\McSt p L o bs w fin m (wcQ r c) (cs++[c]):=by
 obtain⟨q1,q2,q3,q4⟩:=sK S.I h;have a1:=S.pn;have a2:=nK S.I.k.st<|S.I.rw.wc q1;have a3:=S.le;obtain⟨m,rfl⟩:∃m,n=m+1:=⟨n-1,by omega⟩;refine⟨m,by omega,S.I.next h,by omega,by rw[aP];simp;omega,λx hx=> ?_,by rw[<-aBh h];exact S.fin⟩
 rcases bC.mp hx with hx|hx
 ·exact S.pc x hx
 ·rw[aF.mp hx];exact q2
theorem McSt.start{p:Int×Int}{o:Option (List Nat)}{w:Nat}(I:McIn p L row o w)(bs:List Nat):McSt p L o bs w (mcQ p L bs w row) 120 row []:=⟨I,I.pr,aR _,(λc hc=>nomatch hc),rfl⟩
theorem McSt.end_{p:Int×Int}{o:Option (List Nat)}{bs:List Nat}{w:Nat}{fin:List Nat×List Ch}:∀ {n:Nat}{r:List Nat}{cs:List Ch},McSt p L o bs w fin n r cs->McIn p L fin.1 o w/\fin.2.length<=120/\(∀c∈fin.2,c.2.2.length<=300)/\fcQ p L bs w fin.1=none:=λ{n}=>by
 induction n using zQ with
 |_ n ih=>
  intro r cs S;cases h:fcQ p L bs w r with
  |none=>have e:=S.fin;rw[nN h] at e;subst e;exact⟨S.I,by have:=S.le;show cs.length<=120;omega,S.pc,h⟩
  |some c=>obtain⟨m,hm,S2⟩:=S.next h;exact ih m hm S2
noncomputable def mcR(f:List Nat×List Ch):R:=.pr (.tup<|bG f.1)<|f.2.map chD
def CFc{α:Type}(p:Int×Int)(L:List SK):α->List D->D->Prop:=λ_ ds d=>∃row o w,McIn p L row o w/\w<=100/\ds=[.tup<|bG row,lkD o,.int (w:Int)]/\d=ocD (fcQ p L (bxQ p.2.toNat o) w row)
def CCf{α:Type}(p:Int×Int)(L:List SK):α->List D->R->Prop:=λ_ ds r=>∃row o w,McIn p L row o w/\w<=100/\ds=[.tup<|bG row,lkD o,.int (w:Int)]/\r=mcR (mcQ p L (bxQ p.2.toNat o) w row)
def CMc:List D->R->Prop:=λds r=>∃p L row o w,McIn p L row o w/\w<=100/\ds=[bW p,.lst<|L.map skD,.tup<|bG row,lkD o,.int (w:Int)]/\r=mcR (mcQ p L (bxQ p.2.toNat o) w row)
theorem pQ{p:Int×Int}(hp:p∈bU)(S:StkOk p L){a b:List Nat}(ha:RowOk L a)(hb:RowOk L b)(o:Option (List Nat)):zK p L b o=zK p L a o↔jV p L a b (bxQ p.2.toNat o)=true:=by
 unfold zK jV;rw[uY,cW];refine forall_congr' λf=>imp_congr_right λhf=> ?_
 rw[decide_eq_true_eq];cases o with
 |some l=>exact⟨λh=>h.symm,λh=>h.symm⟩
 |none=>
  have G:=hW hp hf;have l1:=(gB S a f ha G).1;have l2:=(gB S b f hb G).1
  have e:∀x:List Int,x.length=p.2.toNat->wdQ (bxQ p.2.toNat none) x=x:=λx hx=>by unfold wdQ bxQ;rw[<-hx];exact gZ (by simp) λi h1 h2=>by simp[bF,h2]
  rw[e _ l1,e _ l2];exact⟨λh=>h.symm,λh=>h.symm⟩
theorem vO{p:Int×Int}{pl mn:Nat}{o:Option (List Nat)}(I:aJG p L row pl mn o){bs:List Nat}{e:Bk}(h:pcQ p L row pl mn bs=some e):jV p L row (row.take pl++e.2.1++row.drop (pl+mn)) bs=true:=by obtain⟨b,eb,Ib⟩:=I.bk;obtain⟨U,fu⟩:=Ib.few;unfold pcQ at h;rw[eb] at h;obtain⟨q1,_,_,q4,_⟩:=(tZ Ib.hp Ib.st fu).ent e<|mX h;have:=List.find?_some h;rw[<-aBk Ib.hp Ib.st I.rw q1,aDZ,<-q4];exact this
theorem aLm{p:Int×Int}{pl mn:Nat}{o:Option (List Nat)}(I:aJG p L row pl mn o){bs:List Nat}(h:pcQ p L row pl mn bs=none){q:List Nat}(hq:RowOk L q)(hl:S45.prQ (prK L) q<S45.prQ (prK L) ((row.drop pl).take mn)):jV p L row (row.take pl++q++row.drop (pl+mn)) bs=false:=by obtain⟨b,eb,Ib⟩:=I.bk;obtain⟨U,fu⟩:=Ib.few;unfold pcQ at h;rw[eb] at h;rw[oS] at eb;obtain⟨e,he,e2,_⟩:=(tZ Ib.hp Ib.st fu).all q hq (by omega);have:=tJ.mp h e he;rw[e2,<-aDZ] at this;unfold doQ at this;rw[aBk Ib.hp Ib.st I.rw hq] at this;simpa using this
variable {p:Int×Int}{o:Option (List Nat)}{w:Nat}
theorem aQN(I:McIn p L row o w){c:Ch}(h:fcQ p L (bxQ p.2.toNat o) w row=some c):hoQ p L row c o=true:=by obtain⟨m,hm,h⟩:=gQ h;obtain⟨pl,hpl,h⟩:=gQ h;have hm:=bE.mp hm;have hpl:=bE.mp hpl;obtain⟨e,he,rfl⟩:=eE.mp h;have P:=I.pc (pl:=pl) (mn:=m+1) (by omega) hm (by omega);have sm:=vO P he;obtain⟨b,eb,Ib⟩:=P.bk;obtain⟨U,fu⟩:=Ib.few;unfold pcQ at he;rw[eb] at he;obtain⟨q1,q2,q3,_,q5⟩:=(tZ Ib.hp Ib.st fu).ent e<|mX he;unfold hoQ aSw aQA;simp only[bR,decide_eq_true_eq];refine⟨⟨by omega,by omega⟩,by rw[oS L e.2.1,<-q2];omega, ?_⟩;exact(pQ I.k.hp I.k.st I.rw (I.rw.wc (c:=(pl,m+1,e.2.1)) q1) o).mpr sm
theorem aRy(I:McIn p L row o w)(h:fcQ p L (bxQ p.2.toNat o) w row=none)(w1:1<=w)(hi:i<row.length){q:List Nat}(hq:RowOk L q)(hl:S45.prQ (prK L) q<prK L (row.getD i 0)):¬ zK p L (wcQ row (i,1,q)) o=zK p L row o:=λe=>by
 have h1:=fG.mp h 0<|bE.mpr w1;have h2:=fG.mp h1 i (bE.mpr<|by omega);have h3:pcQ p L row i 1 (bxQ p.2.toNat o)=none:=aBF.mp h2
 have ew:(row.drop i).take 1=[row.getD i 0]:=by rw[fN hi,aHj,aAH];simp[bF,hi]
 have:=aLm (I.pc (pl:=i) (mn:=1) (aR _) w1<|by omega) h3 hq (by rw[ew];simpa[S45.prQ] using hl);have e2:jV p L row (row.take i++q++row.drop (i+1)) (bxQ p.2.toNat o)=true:=(pQ I.k.hp I.k.st I.rw (I.rw.wc (c:=(i,1,q)) hq) o).mp e;rw[e2] at this;cases this
def aQc(p:Int×Int)(L:List SK)(o:Option (List Nat))(row:List Nat)(cs:List Ch):Prop:=∀t c,cs[t]? =some c->hoQ p L ((cs.take t).foldl wcQ row) c o=true/\RowOk L c.2.2/\c.2.2.length<=300/\RowOk L ((cs.take t).foldl wcQ row)/\((cs.take t).foldl wcQ row).length<=120
theorem McIn.len(I:McIn p L row o w):row.length<=120:=by have:=nK I.k.st I.rw;have:=I.pr;omega
theorem aRI{fin:List Nat×List Ch}:∀ {n:Nat}{r:List Nat}{cs:List Ch},McSt p L o (bxQ p.2.toNat o) w fin n r cs->r=cs.foldl wcQ row->aQc p L o row cs->fin.1=fin.2.foldl wcQ row/\aQc p L o row fin.2:=λ{n}=>by
 induction n using zQ with
 |_ n ih=>
  intro r cs S hr hg;cases h:fcQ p L (bxQ p.2.toNat o) w r with
  |none=>have e:=S.fin;rw[nN h] at e;subst e;exact⟨hr,hg⟩
  |some c=>
   obtain⟨m,hm,S2⟩:=S.next h;refine ih m hm S2 (by rw[eB,<-hr];rfl) λt d hd=> ?_
   by_cases q:t<cs.length
   ·rw[gJ q] at hd;rw[List.take_append_of_le_length<|dL q];exact hg t d hd
   ·have e:t=cs.length:=by have:=(aI.mp hd).1;rw[aP] at this;simp at this;omega
    subst e;rw[lZ] at hd;cases hd;rw[List.take_left,<-hr];obtain⟨q1,q2,_,_⟩:=sK S.I h;exact⟨aQN S.I h,q1,q2,S.I.rw,S.I.len⟩
theorem aIP:∀ {cs:List Ch},aQc p L o row cs->∀t,t<=cs.length->zK p L ((cs.take t).foldl wcQ row) o=zK p L row o:=λ{cs} h t=>by
 induction t with
 |zero=>exact λ_=>rfl
 |succ t ih=>intro ht;obtain⟨c,hc⟩:∃c,cs[t]? =some c:=⟨cs[t],dC ht⟩;obtain⟨q1,_⟩:=h t c hc;rw[eK,hc];show zK p L ((cs.take t++[c]).foldl wcQ row) o=_;rw[eB];unfold hoQ at q1;simp only[bR,decide_eq_true_eq] at q1;exact q1.2.2.trans (ih<|by omega)
theorem aON{a c:List Nat}(h:kle L a c)(h2:kle L c a):a=c:=by
 rcases h with h|h
 ·exact h
 ·rcases h2 with h2|h2
  ·exact h2.symm
  ·exact(aFc L _<|aEh h h2).elim
theorem xT{pl mn:Nat}(I:aJG p L row pl mn o){bs:List Nat}{e:Bk}(h:pcQ p L row pl mn bs=some e):RowOk L e.2.1/\S45.prQ (prK L) e.2.1<S45.prQ (prK L) ((row.drop pl).take mn)/\∀q,RowOk L q->S45.prQ (prK L) q<S45.prQ (prK L) ((row.drop pl).take mn)->jV p L row (row.take pl++q++row.drop (pl+mn)) bs=true->kle L e.2.1 q:=by obtain⟨b,eb,Ib⟩:=I.bk;obtain⟨U,fu⟩:=Ib.few;unfold pcQ at h;rw[eb] at h;rw[oS] at eb;have O:=tZ Ib.hp Ib.st fu;obtain⟨he,_,mn⟩:=aME O h;obtain⟨x1,x2,x3,_⟩:=O.ent e he;refine⟨x1,by omega,λq hq hl hs=>mn q hq (by omega) ?_⟩;unfold doQ;rw[<-aDZ,aBk Ib.hp Ib.st I.rw hq];exact hs
variable {τ:List Nat}
theorem aQL(k:Nat):prK (tkQ τ L) k=prK L k:=by
 unfold prK tkQ
 by_cases h:k<L.length
 ·simp[bF,h]
 ·simp[bF,aNF h]
theorem pC:prK (tkQ τ L)=prK L:=funext aQL
theorem aPt:(tkQ τ L).length=L.length:=aB _
theorem tQ(row:List Nat):RowOk (tkQ τ L) row↔RowOk L row:=by unfold RowOk;rw[aPt]
theorem aOI(a c:List Nat):kle (tkQ τ L) a c↔kle L a c:=by unfold kle klt rkR;rw[pC]
theorem aRw(T:TurnOk p.2.toNat τ)(S:StkOk p L)(nd:(L.map λs=>sqD s.1).Nodup):((tkQ τ L).map λs=>sqD s.1).Nodup:=by
 have e:(((tkQ τ L).map λs=>sqD s.1).map (tsD<|jD τ))=L.map λs=>sqD s.1:=by
  unfold tkQ;rw[aN,aN];refine bQ λs hs=> ?_
  have O:=(S.st s hs).1;show tsD (jD τ) (sqD<|tsQ τ s.1)=_;rw[aJP _ (show(tsQ τ s.1).1<10 from O.k10),aMj T ⟨O.i0.1,by have:=O.i0.2;omega⟩ ⟨O.j0.1,by have:=O.j0.2;omega⟩]
 rw[<-e] at nd;exact List.Pairwise.of_map _ (λa b h e=>h<|by rw[e]) nd
theorem aRg(T:TurnOk p.2.toNat τ)(k:Kw p L w):Kw p (tkQ τ L) w:=by
 obtain⟨m,B,U,h1,h2,h3,h4,fu⟩:=k.mx;refine⟨k.hp,aRp k.st T,aRw T k.st k.nd,m,B,U,λs hs=> ?_,h2,h3,h4,fu.len,fu.rl,λrow hr hb=>fu.all row ((tQ row).mp hr) (by rw[pC] at hb;exact hb),λr=> ?_⟩
 ·obtain⟨z,hz,rfl⟩:=aJ.mp hs;exact h1 z hz
 ·have:=fu.gr r;unfold rkR at this ⊢;rw[pC];exact this
noncomputable def tbx(n:Nat)(τ look:List Nat):List Nat:=(aW n).filter λb=>look.contains<|τ.idxOf b
theorem aKM{bs:List Nat}(T:TurnOk n τ)(h:∀b∈bs,b<n)(b':Nat):b'∈tbx n τ bs↔∃b∈bs,b'=τ.getD b 0:=by
 unfold tbx;rw[cS,bE,kX]
 constructor
 ·rintro⟨h1,h2⟩;exact⟨_,h2,(T.get_idx h1).symm⟩
 ·rintro⟨b,hb,rfl⟩;exact⟨T.at<|h b hb,by rw[T.idx<|h b hb];exact hb⟩
theorem aFO(hp:p∈bU)(S:StkOk p L)(T:TurnOk p.2.toNat τ){a b bs:List Nat}(ha:RowOk L a)(hb:RowOk L b)(hk:∀x∈bs,x<p.2.toNat):jV p (tkQ τ L) a b (tbx p.2.toNat τ bs)=jV p L a b bs:=by
 have key:∀g,Fil p g->(wdQ (tbx p.2.toNat τ bs) (cY p (tkQ τ L) a<|tfQ τ g)=wdQ (tbx p.2.toNat τ bs) (cY p (tkQ τ L) b<|tfQ τ g)↔wdQ bs (cY p L a g)=wdQ bs (cY p L b g)):=λg G=>by
  rw[aDY S T a g ha G,aDY S T b g hb G];unfold wdQ;rw[uY,uY]
  constructor
  ·intro h x hx;have:=h (τ.getD x 0) ((aKM T hk _).mpr ⟨x,hx,rfl⟩)
   rwa[qP T<|hk x hx,qP T<|hk x hx] at this
  ·intro h x hx;obtain⟨y,hy,rfl⟩:=(aKM T hk x).mp hx;rw[qP T<|hk y hy,qP T<|hk y hy];exact h y hy
 apply gM.mpr;unfold jV;rw[cW,cW]
 constructor
 ·intro h f hf;have G:=hW hp hf;have:=h (tfQ τ f)<|mE (aEu T G).1 (aEu T G).2;exact decide_eq_true ((key f G).mp<|of_decide_eq_true this)
 ·intro h f hf;have G:=hW hp hf;have G2:=aEu T.back G;have:=h (tfQ (jD τ) f) (mE G2.1 G2.2)
  have e:tfQ τ (tfQ (jD τ) f)=f:=by
   have:=aMa T.back (ws:=f) G.1
   rwa[aGl T] at this
  have:=(key _ G2).mpr<|of_decide_eq_true this;rw[e] at this;exact decide_eq_true this
theorem aNc{pl mn:Nat}{o':Option (List Nat)}(T:TurnOk p.2.toNat τ)(I:aJG p L row pl mn o)(I':aJG p (tkQ τ L) row pl mn o'){bs:List Nat}(hk:∀x∈bs,x<p.2.toNat):(pcQ p (tkQ τ L) row pl mn<|tbx p.2.toNat τ bs).map (·.2.1)=(pcQ p L row pl mn bs).map (·.2.1):=by
 obtain⟨_,_,Ib⟩:=I.bk;have hp:=Ib.hp;have S:=Ib.st;have ok:∀q,RowOk L q->RowOk L (row.take pl++q++row.drop (pl+mn)):=λq hq=>RowOk.wc (c:=(pl,mn,q)) I.rw hq
 have st:∀q,RowOk L q->jV p (tkQ τ L) row (row.take pl++q++row.drop (pl+mn)) (tbx p.2.toNat τ bs)=jV p L row (row.take pl++q++row.drop (pl+mn)) bs:=λq hq=>aFO hp S T I.rw (ok q hq) hk
 cases h:pcQ p L row pl mn bs with
 |none=>
  cases h':pcQ p (tkQ τ L) row pl mn (tbx p.2.toNat τ bs) with
  |none=>rfl
  |some e'=>obtain⟨x1,x2,_⟩:=xT I' h';rw[pC] at x2;have r1:=(tQ _).mp x1;have:=vO I' h';rw[st _ r1,aLm I h r1 x2] at this;cases this
 |some e=>
  obtain⟨x1,x2,x3⟩:=xT I h;have s1:=vO I h;cases h':pcQ p (tkQ τ L) row pl mn (tbx p.2.toNat τ bs) with
  |none=>have:=aLm I' h' ((tQ _).mpr x1) (by rw[pC];exact x2);rw[st _ x1,s1] at this;cases this
  |some e'=>obtain⟨y1,y2,y3⟩:=xT I' h';have r1:=(tQ _).mp y1;have s2:=vO I' h';rw[st _ r1] at s2;have k1:=x3 _ r1 (by rw[pC] at y2;exact y2) s2;have k2:=(aOI _ _).mp (y3 _ ((tQ _).mpr x1) (by rw[pC];exact x2)<|by rw[st _ x1];exact s1);show some e'.2.1=some e.2.1;rw[aON k1 k2]
theorem qV{α β:Type}{f g:α->Option β}:∀ {l:List α},(∀x∈l,f x=g x)->l.findSome? f=l.findSome? g
 |[],_=>rfl
 |x::l,h=>by rw[aHk,aHk,h x<|aH ..,qV λy hy=>h y<|aE _ hy]
theorem aMq{bs:List Nat}{o':Option (List Nat)}(T:TurnOk p.2.toNat τ)(I:McIn p L row o w)(I':McIn p (tkQ τ L) row o' w)(hk:∀x∈bs,x<p.2.toNat):fcQ p (tkQ τ L) (tbx p.2.toNat τ bs) w row=fcQ p L bs w row:=by
 unfold fcQ;refine qV λm hm=>qV λpl hpl=> ?_
 have hm:=bE.mp hm;have hpl:=bE.mp hpl;have e:=aNc T (I.pc (pl:=pl) (mn:=m+1) (by omega) hm<|by omega) (I'.pc (pl:=pl) (mn:=m+1) (by omega) hm<|by omega) hk;unfold fcP;have:=congrArg (aHo λr=>(pl,m+1,r)) e;rw[aNp,aNp] at this;exact this
theorem aFa{bs:List Nat}{o o':Option (List Nat)}{w:Nat}(T:TurnOk p.2.toNat τ)(hk:∀x∈bs,x<p.2.toNat):∀ (n:Nat) (row:List Nat) (cs:List Ch),McIn p L row o w->McIn p (tkQ τ L) row o' w->mcN p (tkQ τ L) (tbx p.2.toNat τ bs) w n row cs=mcN p L bs w n row cs
 |0,_,_,_,_=>rfl
 |n+1,row,cs,I,I'=>by
  have e:=aMq T I I' hk;cases h:fcQ p L bs w row with
  |none=>rw[nN h,nN<|e.trans h]
  |some c=>rw[aBh h,aBh<|e.trans h];exact aFa T hk n _ _ (I.next h) (I'.next<|e.trans h)
theorem aMg{bs:List Nat}{fin:List Nat×List Ch}:∀ {n:Nat}{r:List Nat}{cs:List Ch},McSt p L o bs w fin n r cs->S45.prQ (prK L) fin.1<=S45.prQ (prK L) r/\(fin=(r,cs)\/cs.length<fin.2.length/\S45.prQ (prK L) fin.1<S45.prQ (prK L) r):=λ{n}=>by
 induction n using zQ with
 |_ n ih=>
  intro r cs S;cases h:fcQ p L bs w r with
  |none=>have e:=S.fin;rw[nN h] at e;subst e;exact⟨Int.le_refl _,.inl rfl⟩
  |some c=>
   obtain⟨m,hm,S2⟩:=S.next h;obtain⟨_,_,_,q4⟩:=sK S.I h;obtain⟨a,b⟩:=ih m hm S2;refine⟨by omega,.inr ⟨?_,by omega⟩⟩
   rcases b with e|b
   ·rw[e];simp
   ·have:=b.1;rw[aP] at this;simp at this;omega
theorem aRJ(I:McIn p L row o w)(h:fcQ p L (bxQ p.2.toNat o) w row=none)(w1:1<=w){k:Nat}(hk:k<row.length):aLk L (bxQ p.2.toNat o) row k=true:=by
 unfold aLk;cases hc:(bqQ L (bxQ p.2.toNat o) (row.drop<|k+1)).contains (L.getD (row.getD k 0) AG).1.2.1.toNat with
 |true=>rfl
 |false=>
  have ht:row.getD k 0<L.length:=I.rw _<|getD_mem hk;have st:=I.k.st.st _<|getD_mem (d:=(AG:SK)) ht;refine absurd ?_ (aRy I h w1 hk (q:=[]) (λ_ hx=>nomatch hx)<|by show(0:Int)<_;exact st.2.1);have eg:row.getD k 0=row[k]:=by simp[bF,hk]
  have er:row=row.take k++row[k]::row.drop (k+1):=by rw[<-fN hk,gE]
  have r1:RowOk L (wcQ row (k,1,[])):=I.rw.wc (c:=(k,1,[])) λ_ hx=>nomatch hx
  refine(pQ I.k.hp I.k.st I.rw r1 o).mpr<|cW.mpr λf hf=>decide_eq_true ?_;have G:=hW I.k.hp hf;have ra:∀a b:List Nat,cY p L (a++b) f=cY p L b (cY p L a f):=λa b=>by unfold cY;rw[eB]
  have e1:cY p L row f=cY p L (row.drop<|k+1) (onQ p (L.getD row[k] AG).1<|cY p L (row.take k) f):=by rw[congrArg (λr=>cY p L r f) er,ra];rfl
  have e2:cY p L (wcQ row (k,1,[])) f=cY p L (row.drop<|k+1) (cY p L (row.take k) f):=by show cY p L (row.take k++[]++row.drop (k+1)) f=_;rw[cH,ra]
  rw[e1,e2];have rk:RowOk L (row.take k):=λx hx=>I.rw x<|dR hx
  have rd:RowOk L (row.drop<|k+1):=λx hx=>I.rw x<|eC hx
  have G1:=gB I.k.st (row.take k) f rk G;generalize cY p L (row.take k) f=g at G1;rw[<-eg];have G2:Fil p (onQ p (L.getD (row.getD k 0) AG).1 g):=by simpa[cY] using gB I.k.st [row.getD k 0] g (λu hu=>by rw[aF.mp hu];exact ht) G1
  rw[<-qT I.k.st _ _ rd G1,<-qT I.k.st _ _ rd G2,<-aOb st.1 G1];have ag:=aCD (p:=p) (L:=L) (look:=bxQ p.2.toNat o) (row.drop<|k+1) g (mdQ p (L.getD (row.getD k 0) AG).1 g) (λt ht=>(I.k.st.st _ (getD_mem (d:=(AG:SK))<|rd t ht)).1.k10) (aBX ..).symm<|aLV hc g;exact(aDA ag).symm
theorem aNI{us:List α}(h:us.length=n+1):∃a r,us=a::r/\r.length=n:=by
 cases us with
 |nil=>cases h
 |cons a r=>exact⟨a,r,rfl,Nat.succ.inj h⟩
theorem aRZ{us:List α}(h:us.length=1):∃a,us=[a]:=by obtain⟨a,r,rfl,h2⟩:=aNI h;exact⟨a,by rw[dS h2]⟩
theorem aSH{us:List α}(h:us.length=2):∃a b,us=[a,b]:=by obtain⟨a,r,rfl,h2⟩:=aNI h;obtain⟨b,rfl⟩:=aRZ h2;exact⟨a,b,rfl⟩
theorem aSb{us:List α}(h:us.length=3):∃a b c,us=[a,b,c]:=by obtain⟨a,r,rfl,h2⟩:=aNI h;obtain⟨b,c,rfl⟩:=aSH h2;exact⟨a,b,c,rfl⟩
theorem aSf{us:List α}(h:us.length=4):∃a b c d,us=[a,b,c,d]:=by obtain⟨a,r,rfl,h2⟩:=aNI h;obtain⟨b,c,d,rfl⟩:=aSb h2;exact⟨a,b,c,d,rfl⟩
theorem len5{us:List α}(h:us.length=5):∃a b c d e,us=[a,b,c,d,e]:=by obtain⟨a,r,rfl,h2⟩:=aNI h;obtain⟨b,c,d,e,rfl⟩:=aSf h2;exact⟨a,b,c,d,e,rfl⟩
variable {p:Pos}
theorem pdv(i:Nat)(hs:sd[i]? =some (.val d):=by rfl)(h:PE X (.Name x pos) (iQ i):=by exact pv _):PEd X sd (.Name x pos) (.val d):=aEo i hs h
theorem iV(i:Nat)(h:PEd X sd e (.val d))(hE:E.nx (sd.set i<|.val d))(hN:X.N.Nodup:=by assumption)(hi:X.N[i]? =some x:=by rfl)(hx:Loc X.env.scope x:=by first|exact Or.inl rfl|exact Or.inr rfl)(hs:AX e (some<|.Name x p) pos.line X.env=pure false:=by rfl)
  (hf:X.fn x=true\/X.env.scope.names.lookup x=some .local:=by first|exact .inl rfl|exact .inr rfl|assumption):PSd1 X sd (.Assign [.Name x p] e pos) E:=iH i hN hi hx h hE hs hf
theorem mP(i:Nat)(h:PEd X sd e (.own ds))(hE:∀l,E.nx (sd.set i<|.own l ds))(hN:X.N.Nodup:=by assumption)(hi:X.N[i]? =some x:=by rfl)(hx:Loc X.env.scope x:=by first|exact Or.inl rfl|exact Or.inr rfl)(hs:AX e (some<|.Name x p) pos.line X.env=pure false:=by rfl)
  (hf:X.fn x=true\/X.env.scope.names.lookup x=some .local:=by first|exact .inl rfl|exact .inr rfl|assumption):PSd1 X sd (.Assign [.Name x p] e pos) E:=rO i hN hi hx h hE hs hf
theorem pgn(i:Nat)(hN:X.N.Nodup:=by assumption)(hi:X.N[i]? =some x:=by rfl)(hx:Loc X.env.scope x:=by first|exact Or.inl rfl|exact Or.inr rfl)(hf:X.fn x=true\/X.env.scope.names.lookup x=some .local:=by first|exact .inl rfl|exact .inr rfl|assumption):PG X (.Name x pos) (aDM i):=sY hN hi hx hf
noncomputable abbrev tN(l:List Nat):D:=.tup<|bG l
noncomputable abbrev lK(L:List SK):D:=.lst<|L.map skD
noncomputable abbrev tL(l:List (List Int)):D:=.lst<|l.map bN
noncomputable abbrev s4(p:Int×Int)(L:List SK)(row:List Nat)(o:Option (List Nat))(r:List Slot):List Slot:=.val (bW p)::.val (lK L)::.val (tN row)::.val (lkD o)::r
theorem uN{k:Nat}(r:Room k A)(n:Nat)(h:n<=8:=by decide):A.units+n<AM:=by have:=r.un;omega
noncomputable def NB:R->Prop
 |.bor _=>False
 |_=>True
theorem iJ(h:PEd X sd e r)(hE:E.rt r:=by rfl)(hr:NB r:=by trivial):PSd1 X sd (.Return (some e) pos) E:=cO h (by cases r<;>first|trivial|exact hr) hE
theorem aLf{x:List BN}(h:PTd X sd c false)(k:PSd X sd rest E):PSd X sd (.If c x [] pos::rest) E:=aG (dX h rfl<|cI k)
theorem pdc{k:Nat}{C:List D->R->Prop}(G:bA X.prog X.w X.K X.mg X.base x k n C){j:Nat}(hr:Room j X.A)(ha:PAd X sd (e::es) (ds.map R.val))(hc:C ds r)(hj:k<=j:=by decide)(hg:Gl X x:=by rfl)(hb:NB r:=by trivial)(hn:ds.length=n:=by rfl)
  (hdb:(x==("__debug__":Str))=false:=by decide) (he:AC (e::es) X.env=(false,eval e X.env)::AC es X.env:=by rfl) (hpl:(Ae pos<|AC es X.env).any (·.1)=false:=by rfl):
  PEd X sd (.Call (.Name x p) (e::es) [] pos) r:=aNj G (hr.mono hj) hg ha hc (by cases r<;>first|trivial|exact hb) hn hdb he hpl
theorem pdx{j:Nat}{p1:Pos}(ha:PEd X sd a (.val<|.tup ds))(hd:ds[n]? =some d:=by rfl):PEd X sd (.Subscript a (.Constant (.int (n:Int)) j p1) pos) (.val d):=oZ ha bV hd λ_ _=>rfl
theorem pdT{x1}(h:PAd X sd es (ds.map R.val))(hl:ds.length<=1000:=by exact iS rfl):PEd X sd (.Tuple es x1 pos) (.val<|.tup ds):=aBH h hl
theorem pdL(h:PAd X sd es (ds.map R.val))(hl:ds.length<=1000:=by exact iS rfl):PEd X sd (.List es pos) (.own ds):=pA h hl
theorem pgN(i:Nat)(hN:X.N.Nodup:=by assumption)(hi:X.N[i]? =some x:=by rfl)(hx:Loc X.env.scope x:=by first|exact Or.inl rfl|exact Or.inr rfl)(hf:X.fn x=true\/X.env.scope.names.lookup x=some .local:=by first|exact .inl rfl|exact .inr rfl|assumption):PGd X sd (.Name x pos) d (sd.set i<|.val d):=aCv i<|sY hN hi hx hf
theorem pdC{elt:Expr}{ifs:List Expr}{scope:Scope}{N M:List Str}{cap:List (Option Nat)}{sc:Scope}{Tb:D->List Slot}(p:D->Bool)(f:D->D)
  (hi:PId X (unO sd) PT0 tg iter ds) (hl:ds.length<=1000)
  (ht:∀cl C fp s H d,d∈ds->(ifs=[]/\p d=true)\/∃c,ifs=[c]/\PTd (cxB X N scope cl C fp s H) (Tb d) c (p d))
  (he:∀cl C fp s H d,d∈ds->p d=true->PEd (cxB X N scope cl C fp s H) (Tb d) elt (.val<|f d))
  (hg:∀cl C fp s H d,d∈ds->PGd (cxB X N scope cl C fp s H) (rD cap sd) tg d (Tb d):=by exact λ_ _ _ _ _ _ _=>pgN 0)
  (hle:∀d,d∈ds->Le (Tb d) (rD cap sd):=by intro _ _;repeat' (first|exact trivial|refine⟨.inr rfl, ?_⟩|refine⟨.inl rfl, ?_⟩))
  (hsc:X.env.scope=sc:=by rfl) (hcn:pX scope sc=true:=by decide+kernel) (hM:X.N=M:=by rfl) (hcap:nE N M scope sc cap=true:=by decide+kernel) (hk:scope.kind=.function:=by rfl)
  (hc:X.calm=true:=by rfl) (hs:∀x,BA iter X.env x=pure x:=by intro _;rfl):
  PEd X sd (.ListComp elt [⟨tg,iter,ifs,0⟩] scope pos) (.own<|(ds.filter p).map f):=kP p f hi hl hsc hcn hM hcap hk hg hle ht he hc hs
theorem cG{w:AI}{mg:Str->Option BH}{base:BL}{N ps:List Str}{k:Nat}{C:List D->R->Prop}(F:FI K mg x st)
  (body:∀ (f:BJ),N.Nodup→∀ (cdv:BH) (A:BK) (outer:List Env) (s:BI) (H:Hp) (E:XK),Room k (A.deeper (envOfC x (bK st) s.heap.objs.size f cdv))→∀ds r,ds.length=ps.length→C ds r→
   PSd (qG CX0 P w K mg base N x (bK st) f cdv A outer s H E).nox (init N.length ds) (dY st) {nx:=λ_=>r=.val .non,rt:=λr'=>r'=r})
  (nd:N.Nodup:=by decide+kernel) (S:N.Nodup->kR N ps (bK st):=by exact λnd=>⟨rfl,rfl,rfl,nd,rfl,by decide+kernel,by decide+kernel⟩)
  (hb:∀ (kV doc pm:BH) (an:Option BJ) (cdv ct:BH) (us:List BH),us.length=ps.length→bindArgs (cV x x (fT st) (dY st) (bK st) .none kV doc pm an cdv ct) ⟨us,[]⟩=pure (ps.zip us):=by
   intro _ _ _ _ _ _ _ h
   first
   |(obtain⟨_,rfl⟩:=aRZ h;rfl)
   |(obtain⟨_,_,rfl⟩:=aSH h;rfl)
   |(obtain⟨_,_,_,rfl⟩:=aSb h;rfl)
   |(obtain⟨_,_,_,_,rfl⟩:=aSf h;rfl)
   |(obtain⟨_,_,_,_,_,rfl⟩:=len5 h;rfl)
   |(obtain⟨_,_,_,_,_,_,rfl⟩:=len6 h;rfl)):bA P w K mg base x (k+1) ps.length C:=by
 obtain⟨f,fd,hm,F⟩:=F;exact aPK F (S nd) hm hb<|body f nd
def FID(K:aA)(mg:Str->Option BH)(n:Str)(st:BN):Prop:=∃f fd,mg n=some (.ref f)/\aNK #[.none] K n n st f fd
def FIE(K:aA)(mg:Str->Option BH)(n:Str)(st:BN):Prop:=∃t f fd,mg n=some (.ref f)/\aNK #[.none,.int 2 t] K n n st f fd
theorem FID.mk{h:BL}{mg:Str->Option BH}{n:Str}{od an td:Option BJ}{sl ts:Array (Option BH)}{oc kV dc pm cd ct tc:BH}{f T:BJ}{m:Nat}(X:K.In h)(G:h.Ns AN mg)(a:kB K AN n=some (some<|.ref f))(l:K.lookup f=some ⟨oc,od,.func<|cV n n (fT st) (dY st) (bK st) (.ref T) kV dc pm an cd ct,sl⟩)(c:fE K cd n=true)(k:cU K (.ref f)=true)(t:K.lookup T=some ⟨tc,td,.seq #[.none] m,ts⟩):FID K mg n st:=⟨f,_,jI X G a,aFn (st:=st) l c k t⟩
theorem FIE.mk{h:BL}{mg:Str->Option BH}{n:Str}{od an td:Option BJ}{sl ts:Array (Option BH)}{oc kV dc pm cd ct tc:BH}{f T:BJ}{m:Nat}{tk:Tok}(X:K.In h)(G:h.Ns AN mg)(a:kB K AN n=some (some<|.ref f))(l:K.lookup f=some ⟨oc,od,.func<|cV n n (fT st) (dY st) (bK st) (.ref T) kV dc pm an cd ct,sl⟩)(c:fE K cd n=true)(k:cU K (.ref f)=true)(t:K.lookup T=some ⟨tc,td,.seq #[.none,.int 2 tk] m,ts⟩):FIE K mg n st:=⟨tk,f,_,jI X G a,aFn (st:=st) l c k t⟩
theorem lA{a b:List Slot}(l:Le a b:=by repeat' (first|exact trivial|refine⟨.inr rfl, ?_⟩|refine⟨.inl rfl, ?_⟩)):Le a b:=l
end DL
set_option maxHeartbeats 400000
namespace K94
open PySem PySem.Spec PyProof.Rows L2 DL
noncomputable def top(i:Nat):BN:=PySem.Challenge.pw_leastrow_k94_whole_rows_made_cheaper_tur.main.body.getD i<|.Pass ⟨0,0,0,0⟩
noncomputable abbrev aKT:BN:=top 5
noncomputable abbrev aDN:BN:=top 6
noncomputable abbrev aNR:BN:=top 7
noncomputable abbrev aRY:BN:=top 8
noncomputable abbrev aFC:BN:=top 11
noncomputable abbrev aCb:BN:=top 12
noncomputable abbrev aCx:BN:=top 13
noncomputable abbrev aCG:BN:=top 15
noncomputable abbrev aFB:BN:=top 14
noncomputable abbrev aQG:BN:=top 22
noncomputable abbrev aDT:BN:=top 23
noncomputable abbrev aLo:BN:=top 24
noncomputable abbrev aSm:BN:=top 25
noncomputable abbrev sFd:BN:=top 26
noncomputable abbrev aEa:BN:=top 27
noncomputable abbrev aLy:BN:=top 28
noncomputable abbrev aJI:BN:=top 19
noncomputable abbrev aEv:BN:=top 32
noncomputable abbrev aKr:BN:=top 33
noncomputable abbrev xC:BN:=top 34
noncomputable abbrev aKa:BN:=top 41
noncomputable abbrev aDX:BN:=top 43
noncomputable abbrev aSE:BN:=top 44
noncomputable abbrev aQq:BN:=top 45
noncomputable abbrev aNY:BN:=top 36
noncomputable abbrev aOq:BN:=top 37
noncomputable abbrev sFt:BN:=top 39
noncomputable abbrev aEp:BN:=top 18
noncomputable abbrev aCw:BN:=top 42
noncomputable abbrev aEg:BN:=top 46
noncomputable abbrev aLp:BN:=top 47
noncomputable abbrev aEW:BN:=top 49
noncomputable abbrev sFc:BN:=top 50
noncomputable abbrev sCf:BN:=top 51
noncomputable abbrev sMc:BN:=top 52
noncomputable abbrev aJV:BN:=top 16
noncomputable abbrev aBr:BN:=top 54
noncomputable abbrev aFJ:BN:=top 55
noncomputable abbrev aEm:BN:=top 57
noncomputable abbrev aBc:BN:=top 58
noncomputable abbrev aLh:BN:=top 59
noncomputable abbrev aEC:BN:=top 61
noncomputable abbrev aBo:BN:=top 62
noncomputable abbrev aKh:BN:=top 63
noncomputable abbrev aFf:BN:=top 64
noncomputable abbrev aLs:BN:=top 65
noncomputable abbrev aKi:BN:=top 66
noncomputable abbrev aKe:BN:=top 67
noncomputable abbrev aFi:BN:=top 68
noncomputable abbrev aKw:BN:=top 69
noncomputable abbrev aHw:BN:=top 70
noncomputable abbrev aFg:BN:=top 71
noncomputable abbrev aEi:BN:=top 72
noncomputable abbrev aAR:BN:=top 73
noncomputable abbrev aDV:BN:=top 74
noncomputable abbrev aNZ:BN:=top 75
noncomputable abbrev aEk:BN:=top 76
noncomputable abbrev aQH:BN:=top 77
noncomputable abbrev aKF:BN:=top 78
noncomputable abbrev aHr:BN:=top 79
noncomputable abbrev aLg:BN:=aER (top 30) 0
noncomputable abbrev aNx:BN:=aER (top 30) 1
variable {P:AD}{w:AI}{K:aA}{mg:Str->Option BH}{base:BL}{f:BJ}{fd:AL}
theorem aPX{u d n c:Nat}(h:u+n<c)(hd:d+1<=n):u+d+1<c:=by omega
theorem aOw(q:SQ):pl (sqD q)=true:=by
 show pl (gI _ _ _ _)=true;unfold gI
 split
 ·rfl
 ·split<;>rfl
theorem aPp(q:SQ):dep (sqD q)=1:=by
 show dep (gI _ _ _ _)=1;unfold gI
 split
 ·rfl
 ·split<;>rfl
theorem aAP{α:Type}(g:α->D)(h:∀a,pl (g a)=true):∀l:List α,plL (l.map g)=true
 |[]=>rfl
 |a::l=>by show(pl (g a)&&plL (l.map g))=true;rw[h a,aAP g h l];rfl
theorem xS{α:Type}(g:α->D)(n:Nat)(h:∀a,dep (g a)<=n):∀l:List α,jZ (l.map g)<=n
 |[]=>cD _
 |a::l=>Nat.max_le.mpr ⟨h a,xS g n h l⟩
noncomputable def aSq:D->List Slot->List Slot
 |.tup [x,y],r=>.val x::.val y::r
 |_,r=>.un::.un::r
def aBM:List D->R->Prop:=λds r=>∃p:Int×Int,ds=[bW p]/\0<=p.1/\p.1<=60/\r=.val (.int<|2^p.1.toNat)
theorem aIV(F:FI K mg "word_count" aKT)(zrange:mg "range"=none):bA P w K mg base "word_count" 1 1 aBM:=by
 refine cG (N:=["size","count","bit"]) (ps:=["size"]) (k:=0) F λf nd cdv A outer s H E hr ds r hl c=> ?_
 obtain⟨p,rfl,h0,h1,rfl⟩:=c;have ep:p.1=((p.1.toNat:Nat):Int):=by omega
 refine aG<|iH 1 nd rfl (Or.inl rfl) bV ?_;refine aG<|jX (ds:=fC 0 p.1.toNat) (λk=>[.val<|bW p,.val (.int<|2^k),.un]) (λk=>[.val<|bW p,.val (.int<|2^k),.val (.int<|0+(k:Int))]) (gF (n:=p.1.toNat) rfl zrange (PEd.cast (pdx (n:=0) (d:=.int p.1)<|pdv 0)<|by rw[<-ep])<|by omega) lA (λi d hd=> ?_) (λi d hd=> ?_) ?_
 ·obtain⟨_,rfl⟩:=fA hd;exact pgN 2
 ·refine aQ<|iH 1 nd rfl (Or.inl rfl) (dM lF (pdv 1) bV (aLj (by decide)<|by decide)) ?_;exact lA
 ·refine aQ<|cO (pdv 1) trivial ?_;rw[eU]
def aOc:List D->R->Prop:=λds r=>∃ (L:List (List Int)) (m:Nat),ds=[.lst<|L.map bN,.int (m:Int)]/\L.length*m<=900/\m<=64/\(∀s∈L,s.length<=100)/\r=.own ((L.flatMap λs=>(aW m).map λ(w:Nat)=>s++[(w:Int)]).map bN)
abbrev nl0:List Str:=["starts","count","longer","start"]
theorem aLH(F:FI K mg "with_each_word" aDN)(zrange:mg "range"=none):bA P w K mg base "with_each_word" 1 2 aOc:=by
 refine cG (N:=nl0) (ps:=["starts","count"]) (k:=0) F λf nd cdv A outer s H E hr ds r hl c=> ?_
 obtain⟨L,m,rfl,hL,hm64,hs,rfl⟩:=c;have nd2:(["word","start"]:List Str).Nodup:=by decide+kernel
 refine aG<|rO 2 nd rfl (Or.inl rfl) (pA (ds:=[]) aM<|cD _) λl=> ?_;refine aG<|jX (ds:=L.map bN) (λk=>[.val<|tL L,.val<|.int (m:Int),.own l<|((L.take k).flatMap λs=>(aW m).map λ(w:Nat)=>s++[(w:Int)]).map bN,.un]) (λk=>[.val<|tL L,.val<|.int (m:Int),.own l<|((L.take k).flatMap λs=>(aW m).map λ(w:Nat)=>s++[(w:Int)]).map bN,.val (bN<|L.getD k [])]) (fV<|pdv 0) lA (λk d hd=> ?_) (λk d hd=> ?_) ?_
 ·obtain⟨_,rfl⟩:=lQ hd;exact pgN 3
 ·obtain⟨hk,rfl⟩:=lQ hd;have hmem:L.getD k []∈L:=getD_mem hk
  have et:L.take (k+1)=L.take k++[L.getD k []]:=by rw[eK];simp[bF,hk]
  have lk:(L.take k).length*m+m<=900:=by
   have h1:(L.take k).length+1<=L.length:=by rw[dD];omega
   have h2:=aHn m h1;rw[aHe] at h2;omega
  have comp:∀ {pos:Pos},PEd (qG CX0 P w K mg base nl0 "with_each_word" (bK aDN) f cdv A outer s H E).nox [.val<|tL L,.val<|.int (m:Int),.own l<|((L.take k).flatMap λs=>(aW m).map λ(w:Nat)=>s++[(w:Int)]).map bN,.val (bN<|L.getD k [])] (match(dY aDN).getD 1 (.Pass ⟨0,0,0,0⟩) with | .For _ _ [.Expr (.Call _ [c] _ _) _] _ _=>c|_=> .Constant .none 0 ⟨0,0,0,0⟩) (.own (((fC 0 m).filter λ_=>true).map λd=>D.tup<|(L.getD k []).map D.int++[d])):=λ{pos}=>by
   refine pdC (N:=["word","start"]) (M:=nl0) (cap:=[none,some 3]) (sc:=bK aDN) (Tb:=λd=>[.val d,.val (bN<|L.getD k [])]) (λ_=>true) (λd=>D.tup<|(L.getD k []).map D.int++[d]) (gF (n:=m) rfl zrange (pdv 1)<|by omega) (by rw[eU];omega) (λcl C fp s H d _=>.inl ⟨rfl,rfl⟩) λcl C fp s H d _ _=> ?_
   refine kO (pdv 1) (pdT (ds:=[d])<|aC (pdv 0) aM) ?_;have:=hs _ hmem;simp only[aB,bP,fJ];omega
  have ec:((fC 0 m).filter λ_=>true).map (λd=>D.tup<|(L.getD k []).map D.int++[d])=((aW m).map λ(w:Nat)=>L.getD k []++[(w:Int)]).map bN:=by
   rw[bS.mpr λ_ _=>rfl];unfold fC;rw[aN,aN];refine bQ λw _=> ?_
   simp[bN]
  refine aQ<|aDf 2 rfl (pv 2) (PEd.val<|comp (pos:=⟨0,0,0,0⟩)) ?_ ?_
  ·rw[aB,oR,ec,aB,aB,dE];omega
  ·refine⟨.inr rfl,.inr rfl,.inr ?_,.inl rfl,trivial⟩;rw[et,ec,aHl,aZ];simp
 ·refine aQ<|oY 2 rfl (pv 2) ?_;show R.own _=R.own _;rw[aB,dW]
def yP:List D->R->Prop:=λds r=>∃p,p∈bU/\ds=[bW p]/\r=.own ((gH (2^p.1.toNat) p.2.toNat).map bN)
theorem aLN(F:FI K mg "fillings" aNR)(zrange:mg "range"=none)(GC:bA P w K mg base "word_count" 1 1 aBM)(GE:bA P w K mg base "with_each_word" 1 2 aOc):bA P w K mg base "fillings" 2 1 yP:=by
 refine cG (N:=["size","count","told","box"]) (ps:=["size"]) (k:=1) F λf nd cdv A outer s H E hr ds r hl c=> ?_
 obtain⟨p,hp,rfl,rfl⟩:=c;obtain⟨h1,h2,h3,h4,h5⟩:=pE p hp;have e2:p.2=((p.2.toNat:Nat):Int):=by omega
 have m64:2^p.1.toNat<=64:=by
  have:p.1.toNat<=6:=by omega
  exact bZ (jA (by decide) this)<|by decide
 have ec:(2:Int)^p.1.toNat=((2^p.1.toNat:Nat):Int):=by push_cast;rfl
 refine aG<|iH 1 nd rfl (Or.inl rfl) (pdc (ds:=[bW p]) GC hr (aC (pdv 0) aM) ⟨p,rfl,by omega,by omega,rfl⟩) ?_;refine aG<|mP (ds:=[bN []]) 2 (pdL (ds:=[bN []])<|aC (aBH (ds:=[]) aM<|cD _) aM) λl=> ?_;refine aG<|iR (ds:=fC 0 p.2.toNat) (λk sd=>∃l,sd=[.val<|bW p,.val (.int<|2^p.1.toNat),.own l<|(gH (2^p.1.toNat) k).map bN,.un]) (gF (n:=p.2.toNat) rfl zrange (PEd.cast (pdx (n:=1) (d:=.int p.2)<|pdv 0)<|by rw[<-e2])<|by omega) ⟨_,Le.refl _,l,rfl⟩ (λk d sdk hd hk=> ?_) λsdn hn=> ?_
 ·obtain⟨hk2,rfl⟩:=fA hd;obtain⟨l2,rfl⟩:=hk;refine⟨[.val<|bW p,.val (.int<|2^p.1.toNat),.own l2<|(gH (2^p.1.toNat) k).map bN,.val (.int<|0+(k:Int))],pgN 3, ?_⟩;refine iI 2 rfl ?_;refine aQ (rO 2 nd rfl (Or.inl rfl) (pdc (ds:=[tL<|gH (2^p.1.toNat) k,.int ((2^p.1.toNat:Nat):Int)]) GE hr (aC (pdv 2)<|aC (PEd.cast (pdv 1)<|by rw[ec]) aM) ⟨gH (2^p.1.toNat) k,2^p.1.toNat,rfl, ?_,m64,λs hs=> ?_,rfl⟩) λl3=> ?_)
  ·rw[vT];exact aAf p hp k hk2
  ·rw[xY _ _ s hs];omega
  ·exact⟨[.val<|bW p,.val (.int<|2^p.1.toNat),.own l3<|(gH (2^p.1.toNat)<|k+1).map bN,.un],lA,l3,rfl⟩
 ·rw[eU] at hn;obtain⟨l2,rfl⟩:=hn;exact aQ<|oY 2 rfl (pv 2) rfl
def aSx:List D->R->Prop:=λds r=>∃ (p:Int×Int) (ws:List Int),ds=[bW p,bN ws]/\0<=p.1/\p.1<=60/\r=.val (.int<|vC (2^p.1.toNat) ws)
theorem aOB(F:FI K mg "number_of" aRY)(GC:bA P w K mg base "word_count" 1 1 aBM):bA P w K mg base "number_of" 2 2 aSx:=by
 refine cG (N:=["size","filling","count","number","word"]) (ps:=["size","filling"]) (k:=1) F λf nd cdv A outer s H E hr ds r hl c=> ?_
 obtain⟨p,ws,rfl,h0,h1,rfl⟩:=c
 have b1: -(2^64)<(2:Int)^p.1.toNat/\(2:Int)^p.1.toNat<2^64:=by
  have h3:p.1.toNat<=60:=by omega
  have h4:2^p.1.toNat<=2^60:=jA (by decide) h3;have h5:(2:Int)^p.1.toNat=((2^p.1.toNat:Nat):Int):=by push_cast;rfl
  rw[h5];have h6:(2:Nat)^60=1152921504606846976:=by decide
  rw[h6] at h4;generalize 2^p.1.toNat=q at h4 ⊢;omega
 refine aG<|iH 2 nd rfl (Or.inl rfl) (pdc (ds:=[bW p]) GC hr (aC (pdv 0) aM) ⟨p,rfl,h0,h1,rfl⟩) ?_;refine aG<|iH 3 nd rfl (Or.inl rfl) bV ?_;refine aG<|jX (ds:=ws.map D.int) (λk=>[.val<|bW p,.val<|bN ws,.val (.int<|2^p.1.toNat),.val<|.int (vC (2^p.1.toNat)<|ws.take k),.un]) (λk=>[.val<|bW p,.val<|bN ws,.val (.int<|2^p.1.toNat),.val<|.int (vC (2^p.1.toNat)<|ws.take k),.val (.int<|ws.getD k 0)]) (lE<|pdv 1) lA (λk d hd=> ?_) (λk d hd=> ?_) ?_
 ·obtain⟨_,rfl⟩:=sE hd;exact pgN 4
 ·obtain⟨hk,rfl⟩:=sE hd
  have et:ws.take (k+1)=ws.take k++[ws.getD k 0]:=by rw[eK];simp[bF,hk]
  refine aQ<|iH 3 nd rfl (Or.inl rfl) (eR fU (dM lF (pdv 3) (pdv 2)<|aLj b1.1 b1.2)<|pdv 4) ?_;refine⟨.inr rfl,.inr rfl,.inr rfl,.inr ?_,.inl rfl,trivial⟩;rw[et];unfold vC;rw[eB];rfl
 ·refine aQ<|cO (pdv 3) trivial ?_;show R.val _=R.val _;rw[aB,dW]
def aFr:List D->R->Prop:=λds r=>∃ (k:Nat) (m a:Int),ds=[.str<|nm k,.int m,.int a]/\7<=k/\k<10/\0<m/\r=.val (.int<|aDP k m a)
theorem aGY(F:FI K mg "word_by_itself" aFC):bA P w K mg base "word_by_itself" 1 3 aFr:=by
 refine cG (N:=["name","count","word"]) (ps:=["name","count","word"]) (k:=0) F λf nd cdv A outer s H E hr ds r hl c=> ?_
 obtain⟨k,m,a,rfl,h7,h10,hm0,rfl⟩:=c;refine aG<|fY (k:=decide<|k=7) (cR (pdv 0) dI rfl rfl rfl<|aKD k h10) (λh=> ?_) λh=>cI ?_
 ·have:k=7:=by simpa using h
  subst this;exact aQ<|iJ (eR lV (eR lV (pdv 1) bV)<|pdv 2)
 have n7:¬ k=7:=by simpa using h
 refine aG<|fY (k:=decide<|k=8) (cR (pdv 0) dI rfl rfl rfl<|aOp k h10) (λh=> ?_) λh=>cI ?_
 ·have:k=8:=by simpa using h
  subst this;exact aQ (iJ<|dM gK (dM lF (pdv 2) bV (aLj (by decide)<|by decide)) (pdv 1) hm0)
 have n8:¬ k=8:=by simpa using h
 have:k=9:=by omega
 subst this;exact aQ (iJ<|dM aLJ (pdv 2) bV ⟨by decide,by decide⟩)
def aCq:List D->R->Prop:=λds r=>∃ (k:Nat) (m a c:Int),ds=[.str<|nm k,.int m,.int a,.int c]/\k<6/\0<m/\r=.val (.int<|rW k m a c)
theorem aDe(F:FI K mg "word_by_another" aCb):bA P w K mg base "word_by_another" 1 4 aCq:=by
 refine cG (N:=["name","count","word","other"]) (ps:=["name","count","word","other"]) (k:=0) F λf nd cdv A outer s H E hr ds r hl c=> ?_
 obtain⟨k,m,a,c,rfl,h6,hm0,rfl⟩:=c;have h10:k<10:=by omega
 refine aG<|fY (k:=decide<|k=0) (cR (pdv 0) dI rfl rfl rfl<|aEf k h10) (λh=> ?_) λh=>cI ?_
 ·have:k=0:=by simpa using h
  subst this;exact aQ<|iJ (eR aJQ (pdv 2)<|pdv 3)
 have n0:¬ k=0:=by simpa using h
 refine aG<|fY (k:=decide<|k=1) (cR (pdv 0) dI rfl rfl rfl<|aLi k h10) (λh=> ?_) λh=>cI ?_
 ·have:k=1:=by simpa using h
  subst this;exact aQ<|iJ (eR aOj (pdv 2)<|pdv 3)
 have n1:¬ k=1:=by simpa using h
 refine aG<|fY (k:=decide<|k=2) (cR (pdv 0) dI rfl rfl rfl<|aEb k h10) (λh=> ?_) λh=>cI ?_
 ·have:k=2:=by simpa using h
  subst this;exact aQ<|iJ (eR aKt (pdv 2)<|pdv 3)
 have n2:¬ k=2:=by simpa using h
 refine aG<|fY (k:=decide<|k=3) (cR (pdv 0) dI rfl rfl rfl<|aEx k h10) (λh=> ?_) λh=>cI ?_
 ·have:k=3:=by simpa using h
  subst this;exact aQ (iJ<|dM gK (eR fU (pdv 2)<|pdv 3) (pdv 1) hm0)
 have n3:¬ k=3:=by simpa using h
 refine aG<|fY (k:=decide<|k=4) (cR (pdv 0) dI rfl rfl rfl<|aBj k h10) (λh=> ?_) λh=>cI ?_
 ·have:k=4:=by simpa using h
  subst this;exact aQ (iJ<|dM gK (eR lV (pdv 2)<|pdv 3) (pdv 1) hm0)
 have n4:¬ k=4:=by simpa using h
 have:k=5:=by omega
 subst this;exact aQ (iJ<|pdv 3)
structure aQu(p:Int×Int)(k:Nat)(i j n:Int)(ws:List Int):Prop where
 sz:p∈bU
 k10:k<10
 i0:0<=i/\i<p.2
 j0:0<=j/\j<p.2
 n0:0<=n/\n<((2^p.1.toNat:Nat):Int)
 len:ws.length=p.2.toNat
 wd:∀w∈ws,0<=w/\w<((2^p.1.toNat:Nat):Int)
noncomputable def aNG(p:Int×Int)(k:Nat)(i j n:Int)(ws:List Int):Int:=newW k ((2^p.1.toNat:Nat):Int) (ws.getD i.toNat 0) (ws.getD j.toNat 0) n
def aCn:List D->R->Prop:=λds r=>∃p k i j n ws,aQu p k i j n ws/\ds=[bW p,gI k i j n,bN ws]/\r=.val (.int<|aNG p k i j n ws)
theorem aPC(n:Nat):(0:Int)<((2^n:Nat):Int):=by have:0<2^n:=Nat.pow_pos (by decide);generalize 2^n=q at this ⊢;omega
theorem aKb{ws:List Int}{i:Int}{n:Nat}(h:ws.length=n)(h1:i<(n:Int))(h0:0<=i):(ws.map D.int)[i.toNat]? =some (.int<|ws.getD i.toNat 0):=by
 have:i.toNat<ws.length:=by omega
 simp[bF,this]
theorem aDh(F:FI K mg "new_word" aCx)(byself:∃ad,mg "BY_ITSELF"=some (.ref ad)/\∀H:Hp,SqT K H ad [V.str "not",V.str "up",V.str "down"])(GC:bA P w K mg base "word_count" 1 1 aBM)(GI:bA P w K mg base "word_by_itself" 1 3 aFr)(GA:bA P w K mg base "word_by_another" 1 4 aCq):bA P w K mg base "new_word" 2 3 aCn:=by
 refine cG (N:=["size","step","filling","name","word"]) (ps:=["size","step","filling"]) (k:=1) F λf nd cdv A outer s H E hr ds r hl c=> ?_
 obtain⟨p,k,i,j,n,ws,O,rfl,rfl⟩:=c;obtain⟨h1,h2,h3,h4,h5⟩:=pE p O.sz;have hm0:=aPC p.1.toNat;have ec:(2:Int)^p.1.toNat=((2^p.1.toNat:Nat):Int):=by push_cast;rfl
 have e2:p.2=((p.2.toNat:Nat):Int):=by omega
 obtain⟨ad,hB,hq⟩:=byself;have ai:(ws.map D.int)[i.toNat]? =some (.int<|ws.getD i.toNat 0):=aKb O.len (by have:=O.i0.2;omega) O.i0.1;have aj:(ws.map D.int)[j.toNat]? =some (.int<|ws.getD j.toNat 0):=aKb O.len (by have:=O.j0.2;omega) O.j0.1
 by_cases k6:k<6
 ·have es:gI k i j n=.tup [.str<|nm k,.int i,.int j]:=by unfold gI;rw[if_pos k6]
  rw[es];refine aG<|iH 3 nd rfl (Or.inl rfl) (pdx (n:=0)<|pdv 1) ?_;refine aG (dX (cR (pdv 3) dI rfl rfl rfl<|mQ k O.k10) (by simp;omega)<|cI ?_);refine aG<|iH 4 nd rfl (Or.inl rfl) (lG (i:=i) (pdv 2) (pdx (n:=1)<|pdv 1) O.i0.1 ai λ_ _=>rfl) ?_;refine aG (dX (aEQ rfl hB (λH=>hq H) (pdv 3) rfl rfl rfl) (by rw[aEG k O.k10];simp;omega)<|cI ?_);refine aQ<|cO (pdc (ds:=[.str<|nm k,.int ((2^p.1.toNat:Nat):Int),.int<|ws.getD i.toNat 0,.int<|ws.getD j.toNat 0]) GA hr (aC (pdv 3)<|aC (PEd.cast (pdc (ds:=[bW p]) GC hr (aC (pdv 0) aM) ⟨p,rfl,by omega,by omega,rfl⟩)<|by rw[ec]) (aC (pdv 4)<|aC (lG (i:=j) (pdv 2) (pdx (n:=2)<|pdv 1) O.j0.1 aj λ_ _=>rfl) aM)) ⟨k,_,_,_,rfl,k6,hm0,rfl⟩) trivial ?_;unfold aNG newW;rw[if_neg<|by omega,if_neg<|by omega]
 ·by_cases k6':k=6
  ·subst k6';have es:gI 6 i j n=.tup [.str<|nm 6,.int i,.int n]:=rfl;rw[es];refine aG<|iH 3 nd rfl (Or.inl rfl) (pdx (n:=0)<|pdv 1) ?_;refine aG<|gS (cR (pdv 3) dI rfl rfl rfl<|mQ 6 O.k10) rfl ?_;exact aQ<|iJ (pdx (n:=2)<|pdv 1)
  ·have es:gI k i j n=.tup [.str<|nm k,.int i]:=by unfold gI;rw[if_neg k6,if_neg k6']
   rw[es];refine aG<|iH 3 nd rfl (Or.inl rfl) (pdx (n:=0)<|pdv 1) ?_;refine aG (dX (cR (pdv 3) dI rfl rfl rfl<|mQ k O.k10) (by simp;omega)<|cI ?_);refine aG<|iH 4 nd rfl (Or.inl rfl) (lG (i:=i) (pdv 2) (pdx (n:=1)<|pdv 1) O.i0.1 ai λ_ _=>rfl) ?_;refine aG<|gS (aEQ rfl hB (λH=>hq H) (pdv 3) rfl rfl rfl) (by rw[aEG k O.k10];simp;omega) ?_;refine aQ<|cO (pdc (ds:=[.str<|nm k,.int ((2^p.1.toNat:Nat):Int),.int<|ws.getD i.toNat 0]) GI hr (aC (pdv 3) (aC (PEd.cast (pdc (ds:=[bW p]) GC hr (aC (pdv 0) aM) ⟨p,rfl,by omega,by omega,rfl⟩)<|by rw[ec])<|aC (pdv 4) aM)) ⟨k,_,_,rfl,by omega,O.k10,hm0,rfl⟩) trivial ?_;unfold aNG newW;rw[if_neg k6',if_pos<|by omega]
def wO:List D->R->Prop:=λds r=>∃k i j n,ds=[gI k i j n]/\r=.val (.int i)
theorem aEJ(k:Nat)(i j n:Int):∃es,gI k i j n=.tup (.str (nm k)::.int i::es):=by
 unfold gI
 split
 ·exact⟨_,rfl⟩
 ·split
  ·exact⟨_,rfl⟩
  ·exact⟨_,rfl⟩
theorem aDB(F:FI K mg "written_box" aCG):bA P w K mg base "written_box" 1 1 wO:=by
 refine cG (N:=["step"]) (ps:=["step"]) (k:=0) F λf nd cdv A outer s H E hr ds r hl c=> ?_
 obtain⟨k,i,j,n,rfl,rfl⟩:=c;obtain⟨es,e⟩:=aEJ k i j n;rw[e];exact aQ<|iJ (pdx (n:=1)<|pdv 0)
noncomputable def aSa(p:Int×Int)(k:Nat)(i j n:Int)(ws:List Int):List Int:=ws.set i.toNat<|aNG p k i j n ws
def aAX:List D->R->Prop:=λds r=>∃p k i j n ws,aQu p k i j n ws/\ds=[bW p,gI k i j n,bN ws]/\r=.val (bN<|aSa p k i j n ws)
theorem uK(ws:List Int){i:Nat}(h:i<ws.length):DL.cutD (ws.map D.int) none (some (i:Int))=(ws.take i).map D.int:=by
 unfold DL.cutD;have h1:HT.sIx (ws.map D.int).length 0 none=0:=rfl
 have h2:HT.sIx (ws.map D.int).length (ws.map D.int).length (some (i:Int))=i:=by rw[HT.sIx_nat,aB];omega
 rw[h1,h2,gC];simp
theorem rP(ws:List Int){i:Nat}(h:i<ws.length):DL.cutD (ws.map D.int) (some<|(i:Int)+1) none=(ws.drop<|i+1).map D.int:=by
 unfold DL.cutD;have e:((i:Int)+1)=((i+1:Nat):Int):=by push_cast;rfl
 have h1:HT.sIx (ws.map D.int).length 0 (some<|(i:Int)+1)=i+1:=by rw[e,HT.sIx_nat,aB];omega
 have h2:HT.sIx (ws.map D.int).length (ws.map D.int).length none=ws.length:=by rw[HT.sIx_none,aB]
 rw[h1,h2,gD,gA<|by rw[eX,aB];omega]
theorem aGQ(F:FI K mg "step_on" aFB)(GB:bA P w K mg base "written_box" 1 1 wO)(GN:bA P w K mg base "new_word" 2 3 aCn):bA P w K mg base "step_on" 3 3 aAX:=by
 refine cG (N:=["size","step","filling","box"]) (ps:=["size","step","filling"]) (k:=2) F λf nd cdv A outer s H E hr ds r hl c=> ?_
 obtain⟨p,k,i,j,n,ws,O,rfl,rfl⟩:=c;obtain⟨h1,h2,h3,h4,h5⟩:=pE p O.sz;have li:i.toNat<ws.length:=by have:=O.i0;rw[O.len];omega
 have ei:i=((i.toNat:Nat):Int):=by have:=O.i0;omega
 have l6:ws.length<=6:=by rw[O.len];omega
 refine aG<|iV (d:=.int ((i.toNat:Nat):Int)) 3 (PEd.cast (pdc (ds:=[gI k i j n]) GB hr (aC (pdv 1) aM) ⟨k,i,j,n,rfl,rfl⟩)<|by rw[<-ei]) ?_;refine aQ<|cO (PEd.cast (kO (kO (mO (ol:=none) (oh:=some ((i.toNat:Nat):Int)) (pdv 2) trivial (pdv 3) ?_) (pdT (ds:=[.int<|aNG p k i j n ws])<|aC (pdc (ds:=[bW p,gI k i j n,bN ws]) GN hr (aC (pdv 0) (aC (pdv 1)<|aC (pdv 2) aM)) ⟨p,k,i,j,n,ws,O,rfl,rfl⟩) aM) ?_) (mO (ol:=some<|((i.toNat:Nat):Int)+1) (oh:=none) (pdv 2) (eR fU (pdv 3) bV) trivial ?_) ?_) ?_) trivial rfl
 ·rw[HT.sIx_nat,aB];omega
 ·rw[uK ws li];simp only[aB,dD,bP,fJ];omega
 ·have e:(((i.toNat:Nat):Int)+1)=((i.toNat+1:Nat):Int):=by push_cast;rfl
  rw[e,HT.sIx_nat,aB];omega
 ·rw[uK ws li,rP ws li];simp only[aP,aB,dD,eX,bP,fJ];omega
 ·rw[uK ws li,rP ws li];unfold bN aSa;rw[uQ,if_pos li];simp
theorem aJS{p:Int×Int}{q:SQ}{ws:List Int}(O:SqOk p q)(G:Fil p ws):aQu p q.1 q.2.1 q.2.2.1 q.2.2.2 ws:=⟨O.sz,O.k10,O.i0,O.j0,O.n0,G.len,G.wd⟩
theorem aJp(F:FI K mg "numbers_of_step" aQG)(ztuple:mg "tuple"=none)(GN:bA P w K mg base "number_of" 2 2 aSx)(GS:bA P w K mg base "step_on" 3 3 aAX)(GF:bA P w K mg base "fillings" 2 1 yP):bA P w K mg base "numbers_of_step" 4 2 aSG:=by
 have nd2:(["filling","size","step"]:List Str).Nodup:=by decide+kernel
 refine cG (N:=["size","step"]) (ps:=["size","step"]) (k:=3) F λf nd cdv A outer s H E hr ds r hl c=> ?_
 obtain⟨p,q,hp,O,rfl,rfl⟩:=c;have f9:(bT p).length<=64:=mJ hp;obtain⟨h1,h2,h3,h4,h5⟩:=pE p hp
 have ec:(((bT p).map bN).filter λ_=>true).map (λd=>D.int ((xP p (onQ p q<|lC d):Nat):Int))=bG (jS p q):=by
  rw[bS.mpr λ_ _=>rfl];unfold bG jS;rw[aN,aN];refine bQ λg _=> ?_
  show D.int ((xP p (onQ p q (lC<|bN g)):Nat):Int)=_;rw[iN];rfl
 refine aQ (iJ<|iU rfl ztuple (PEd.bor<|PEd.val (PEd.cast (kP (ds:=(bT p).map bN) (N:=["filling","size","step"]) (M:=["size","step"]) (cap:=[none,some 0,some 1]) (sc:=bK aQG) (Tb:=λd=>[.val d,.val<|bW p,.val<|sqD q]) (λ_=>true) (λd=>D.int ((xP p (onQ p q<|lC d):Nat):Int)) (fV (PEd.val<|pdc (ds:=[bW p]) GF hr (aC (pdv 0) aM) ⟨p,hp,rfl,rfl⟩)) (by rw[aB];omega) rfl (by decide+kernel) rfl (by decide+kernel) rfl (λcl C fp s H d hd=>pgN 0) (λd hd=>lA) (λcl C fp s H d hd=>.inl ⟨rfl,rfl⟩) λcl C2 fp s H d hd _=> ?_)<|by rw[ec])));obtain⟨g,hg,rfl⟩:=wF hd;rw[iN];have G:=hW hp hg;have e:=(aEl hp<|vL O G).1;exact pdc (ds:=[bW p,bN<|onQ p q g]) GN hr (aC (pdv 1)<|aC (pdc (ds:=[bW p,sqD q,bN g]) GS hr (aC (pdv 1) (aC (pdv 2)<|aC (pdv 0) aM)) ⟨p,_,_,_,_,g,aJS O G,rfl,rfl⟩) aM) ⟨p,_,rfl,by omega,by omega,by rw[e]⟩
theorem aDz(F:FI K mg "moves_of" aDT)(GN:bA P w K mg base "numbers_of_step" 4 2 aSG):bA P w K mg base "moves_of" 5 2 aKu:=by
 have nd2:(["step","price","size"]:List Str).Nodup:=by decide+kernel
 refine cG (N:=["size","stock"]) (ps:=["size","stock"]) (k:=4) F λf nd cdv A outer s H E hr ds r hl c=> ?_
 obtain⟨p,L,hp,S,dn,rfl,rfl⟩:=c;have l8:=S.le
 have ec:((L.map skD).filter λ_=>true).map (λd=>mvD p<|xI L d)=L.map (mvD p):=by
  rw[bS.mpr λ_ _=>rfl,aN];refine bQ λs hs=> ?_
  show mvD p (xI L<|skD s)=_;rw[xJ dn hs]
 refine aQ<|cO (PEd.cast (kP (ds:=L.map skD) (N:=["step","price","size"]) (M:=["size","stock"]) (cap:=[none,none,some 0]) (sc:=bK aDT) (Tb:=λd=>[.val<|sqD (xI L d).1,.val<|.int (xI L d).2,.val<|bW p]) (λ_=>true) (λd=>mvD p<|xI L d) (fV<|pdv 1) (by rw[aB];omega) rfl (by decide+kernel) rfl (by decide+kernel) rfl (λcl C fp s H d hd=> ?_) (λd hd=>lA) (λcl C fp s H d hd=>.inl ⟨rfl,rfl⟩) λcl C2 fp s H d hd _=> ?_)<|by rw[ec]) trivial rfl
 ·obtain⟨z,hz,rfl⟩:=aJ.mp hd;rw[xJ dn hz];exact kN (ds:=[sqD z.1,.int z.2]) (js:=[0,1]) rfl (eI (pgn 0)<|eI (pgn 1) kM) rfl rfl
 ·obtain⟨z,hz,rfl⟩:=aJ.mp hd;rw[xJ dn hz];exact pdT (ds:=[.int z.2,tN<|jS p z.1]) (aC (pdv 1)<|aC (pdc (ds:=[bW p,sqD z.1]) GN hr (aC (pdv 2)<|aC (pdv 0) aM) ⟨p,z.1,hp,(S.st z hz).1,rfl,rfl⟩) aM)
theorem aFV(F:FI K mg "numbers_behind" aLo)(ztuple:mg "tuple"=none):bA P w K mg base "numbers_behind" 1 2 aNW:=by
 have nd2:(["number","other"]:List Str).Nodup:=by decide+kernel
 refine cG (N:=["one","other"]) (ps:=["one","other"]) (k:=0) F λf nd cdv A outer s H E hr ds r hl c=> ?_
 obtain⟨one,other,h1,h2,rfl,rfl⟩:=c
 have ec:((bG one).filter λ_=>true).map (λd=>match d with | .int i=>D.int ((other.getD i.toNat 0:Nat):Int)|_=>.non)=bG (jF other one):=by rw[bS.mpr λ_ _=>rfl];unfold bG jF;rw[aN,aN];rfl
 refine aQ (iJ<|iU rfl ztuple (PEd.bor<|PEd.val (PEd.cast (kP (ds:=bG one) (N:=["number","other"]) (M:=["one","other"]) (cap:=[none,some 1]) (sc:=bK aLo) (Tb:=λd=>[.val d,.val (.tup<|bG other)]) (λ_=>true) (λd=>match d with | .int i=>D.int ((other.getD i.toNat 0:Nat):Int)|_=>.non) (lE<|pdv 0) (by rw[sX];omega) rfl (by decide+kernel) rfl (by decide+kernel) rfl (λcl C fp s H d hd=>pgN 0) (λd hd=>lA) (λcl C fp s H d hd=>.inl ⟨rfl,rfl⟩) λcl C2 fp s H d hd _=> ?_)<|by rw[ec])));obtain⟨i,hi,rfl⟩:=aJ.mp hd;exact oZ (n:=i) (pdv 1) (pdv 0) (qX<|h2 i hi) λ_ _=>rfl
abbrev nl1:List Str:=["waiting","moves","bound","rank","row","numbers","place","move","price","longer"]
theorem aIJ(F:FI K mg "put_longer_rows" aSm)(zenumerate:mg "enumerate"=none)(GB:bA P w K mg base "numbers_behind" 1 2 aNW):vM P w K (wtL P w K) mg base "put_longer_rows" 2 6 aSF:=by
 obtain⟨f,fd,hm,F⟩:=F;have nd:nl1.Nodup:=by decide+kernel
 refine aLD (Z:=wtL P w K) (N:=nl1) (ps:=["waiting","moves","bound","rank","row","numbers"]) (k:=1) F ⟨rfl,rfl,rfl,nd,rfl,by decide+kernel,by decide+kernel⟩ hm (λ_ _ _ _ _ _ us hl=>match us,hl with | [_,_,_,_,_,_],_=>rfl) (λcdv A outer s H E B hB hr a ds post hl c=> ?_)<|aJc P w K;obtain⟨p,L,b,r,row,nb,hp,L9,hnb,r9,ndT,hT,rfl,rfl⟩:=c;have hu:=uN hr 4;have f9:(bT p).length<=64:=mJ hp;refine aQ<|iR (ds:=mI (L.map<|mvD p)) (λt sd=>∃a':Wt,a'.l=a.l/\a'.T=lgQ p L b r row nb t a.T/\sd=[wtS P w K a',.val<|.lst (L.map<|mvD p),.val<|.int b,.val<|.tup [.int r.1,.int r.2],.val (.tup<|bG row),.val (.tup<|bG nb),.un,.un,.un,.un]) (rY rfl zenumerate<|pdv 1) ⟨_,Le.refl _,a,rfl,rfl,rfl⟩ (λt d sdt hd ht=> ?_) λsdn hn=> ?_
 ·obtain⟨x,hx,rfl⟩:=nG hd;obtain⟨a',el,eT,rfl⟩:=ht
  have tl:t<L.length:=by have:=(aI.mp hx).1;simpa using this
  have ex:x=mvD p (L.getD t AG):=by rw[aY,dC tl] at hx;rw[<-bY.inj hx];simp[bF,tl]
  subst ex;have es:lgQ p L b r row nb (t+1) a.T=if r.1+(L.getD t AG).2<=b then kC (lgQ p L b r row nb t a.T) (r.1+(L.getD t AG).2,r.2+1) (nP (row++[t],jF (jS p (L.getD t AG).1) nb)) else lgQ p L b r row nb t a.T:=rfl
  have ndt:=aHH (p:=p) (L:=L) (b:=b) (r:=r) (row:=row) (nb:=nb) ndT t;have tt:=aKx (p:=p) (L:=L) (b:=b) (r:=r) (row:=row) (nb:=nb) (T:=a.T) t;rw[<-eT] at es ndt tt;obtain⟨pl0,pl1⟩:=hnb;generalize L.getD t AG=m at es;refine⟨[wtS P w K a',.val<|.lst (L.map<|mvD p),.val<|.int b,.val<|.tup [.int r.1,.int r.2],.val (.tup<|bG row),.val (.tup<|bG nb),.val<|.int (t:Int),.val<|mvD p m,.un,.un],kN (js:=[6,7]) rfl (eI (pgn 6)<|eI (pgn 7) kM) rfl rfl, ?_⟩;refine aG<|iV (d:=.int<|r.1+m.2) 8 (eR fU (pdx (n:=0) (d:=.int r.1)<|pdv 3) (pdx (n:=0) (d:=.int m.2)<|pdv 7)) ?_;refine aQ<|fY (k:=decide<|r.1+m.2<=b) (qY aOr (pdv 8) (pdv 2)<|iM _) (λq=> ?_) λq=>cI ?_
  ·rw[if_pos<|of_decide_eq_true q] at es;have e1:bG row++[.int (t:Int)]=bG (row++[t]):=by unfold bG;rw[aZ];rfl
   refine aG<|iV (d:=p2D<|nP (row++[t],jF (jS p m.1) nb)) 9 (PEd.cast (pdT (ds:=[.tup (bG<|row++[t]),.tup (bG<|jF (jS p m.1) nb)]) (aC (PEd.cast (kO (d1:=bG row) (d2:=[.int (t:Int)]) (pdv 4) (pdT (ds:=[.int (t:Int)])<|aC (pdv 6) aM)<|by unfold bG;rw[aB];show _+1<=1000;omega)<|by rw[e1])<|aC (pdc (ds:=[.tup<|bG nb,.tup (bG<|jS p m.1)]) (r:=.val<|.tup (bG<|jF (jS p m.1) nb)) GB hr (aC (pdv 5)<|aC (pdx (n:=1) (d:=.tup (bG<|jS p m.1))<|pdv 7) aM) ⟨nb,jS p m.1,by omega,λi hi=>by rw[aNa];exact pl1 i hi,rfl,rfl⟩) aM))<|by rw[aQE]) ?_;generalize nP (row++[t],jF (jS p m.1) nb)=y at es;refine aQ<|aAd (k:=rkK (r.1+m.2,r.2+1)) (ks:=wtK a'.T) (ls:=a'.ls) (dss:=wtD a'.T) (d:=p2D y) 0 (by show(A.deeper _).units+1<AM;omega) rfl (pv 0) (PEd.cast (pdT (ds:=[.int<|r.1+m.2,.int<|r.2+1]) (aC (pdv 8)<|aC (eR fU (pdx (n:=1) (d:=.int r.2)<|pdv 3) bV) aM)) rfl) (λz=>aEo 9 rfl<|pv 9) (by have:=aMe a'.T;unfold wtD;rw[aB];omega) (λds hd=>by have:=aMX ds hd;omega) (λn ds hk hd=> ?_) λhk a9=> ?_
   ·obtain⟨k1,k2⟩:=xL y ndt hk hd;refine⟨[wtS P w K ⟨a'.l,a'.ls,kC a'.T (r.1+m.2,r.2+1) y⟩,.val<|.lst (L.map<|mvD p),.val<|.int b,.val<|.tup [.int r.1,.int r.2],.val (.tup<|bG row),.val (.tup<|bG nb),.un,.un,.un,.un],⟨.inr ?_,.inr rfl,.inr rfl,.inr rfl,.inr rfl,.inr rfl,.inl rfl,.inl rfl,.inl rfl,.inl rfl,trivial⟩,⟨a'.l,a'.ls,kC a'.T (r.1+m.2,r.2+1) y⟩,el,es.symm,rfl⟩;unfold wtS;rw[k1,k2];rfl
   ·have k1:=yE y hk;refine⟨[wtS P w K ⟨a'.l,a'.ls++[a9],kC a'.T (r.1+m.2,r.2+1) y⟩,.val<|.lst (L.map<|mvD p),.val<|.int b,.val<|.tup [.int r.1,.int r.2],.val (.tup<|bG row),.val (.tup<|bG nb),.un,.un,.un,.un],⟨.inr ?_,.inr rfl,.inr rfl,.inr rfl,.inr rfl,.inr rfl,.inl rfl,.inl rfl,.inl rfl,.inl rfl,trivial⟩,⟨a'.l,a'.ls++[a9],kC a'.T (r.1+m.2,r.2+1) y⟩,el,es.symm,rfl⟩;unfold wtS;rw[k1];unfold wtK wtD;rw[aZ,aZ];rfl
  ·rw[if_neg<|of_decide_eq_false q] at es;exact⟨[wtS P w K a',.val<|.lst (L.map<|mvD p),.val<|.int b,.val<|.tup [.int r.1,.int r.2],.val (.tup<|bG row),.val (.tup<|bG nb),.un,.un,.un,.un],lA,a',el,es.symm,rfl⟩
 ·obtain⟨a',el,eT,rfl⟩:=hn;refine⟨a',⟨el, ?_⟩,rfl⟩;rw[eT,lM,aB]
abbrev nl2:List Str:=["moves","bound","start","waiting","known","found","rank","ready","row","numbers"]
theorem aCZ(F:FI K mg "found_rows" sFd)(zlen:mg "len"=none)(zmin:mg "min"=none)(zlist:mg "list"=none)(zsorted:mg "sorted"=none)(hmt:∃t,mg "MOST_TABLES"=some (.int 500 t))(GP:vM P w K (wtL P w K) mg base "put_longer_rows" 2 6 aSF):bA P w K mg base "found_rows" 3 3 aKU:=by
 obtain⟨tm,hmt⟩:=hmt;refine cG (N:=nl2) (ps:=["moves","bound","start"]) (k:=2) F λf nd cdv A outer s H E hr ds r hl c=> ?_
 obtain⟨p,L,b,U,hp,S0,FU,rfl,rfl⟩:=c;have hu8:=uN hr 8;have hu4:=uN hr 4;have hu2:=uN hr 2;have hu1:=uN hr 1;have hpr:=S0.pr;have l8:=S0.le;have u4:=FU.len;refine aG<|aAh 3 nd rfl (Or.inl rfl) λl3=> ?_;refine aOn (K:=∀ls T,(fd0 p b).T=T->PSd _ [.val<|.lst (L.map<|mvD p),.val<|.int b,.val (tN<|st0 p),wtS P w K ⟨l3,ls,T⟩,.un,.un,.un,.un,.un,.un] _ _) (λkey=>aG (fY (k:=decide<|0<=b) (qY aLz (pdv 1) bV<|iM _) (λq=> ?_) λq=>cI<|key [] [] (if_neg<|of_decide_eq_false q))) λls T e0=> ?_
 ·refine aQ<|aIB (ds:=[p2D<|nP ([],st0 p)]) 3 hu1 rfl (pv 3) (pdL (ds:=[p2D<|nP ([],st0 p)])<|aC (PEd.cast (pdT (ds:=[tN [],tN<|st0 p]) (aC (pdT (ds:=[]) aM)<|aC (pdv 2) aM))<|by rw[aQE]) aM) (λz=>nomatch z) (iS rfl) λa=> ?_;exact key [a] [((0,0),[nP ([],st0 p)])] (if_pos<|of_decide_eq_true q)
 subst e0;refine aG<|aIs (hkT P w) 4 nd rfl (Or.inl rfl) λl4=> ?_;refine aG<|mP (ds:=[]) 5 (pdL (ds:=[]) aM) λl5=> ?_;refine aG<|aAg (λm sd=>∃S dn r ls,Wk p L b dn r [] S/\U.length<dn.length+m/\lO p L b m S=lO p L b 401 (fd0 p b)/\sd=[.val<|.lst (L.map<|mvD p),.val<|.int b,.val (tN<|st0 p),wtS P w K ⟨l3,ls,S.T⟩,oG (hkT P w) K l4 (S.kn.map mR)<|S.kn.map λ_=>.bl true,.own l5<|S.fd.map fdD,.un,.un,.un,.un]) ⟨401,_,Le.refl _,fd0 p b,[],(0,0),ls,wk0 p L b,by simp;omega,rfl,rfl⟩ λm sdm hw=> ?_;obtain⟨S,dn,r,ls,W,hU,hR,rfl⟩:=hw;refine⟨decide<|(0:Int)<((wtK S.T).length:Int),qY aLr (aNg 3 rfl zlen rfl<|pv 3) bV<|iM _,λq=> ?_,λq=> ?_⟩
 ·have e:S.T=[]:=by have:=of_decide_eq_false q;unfold wtK at this;rw[aB] at this;exact dS (by omega)
  have e2:lO p L b m S=S:=by
   cases m with
   |zero=>rfl
   |succ m=>exact if_pos e
  have e3:bkF p L b=S.fd:=by unfold bkF;rw[<-hR,e2]
  rw[e3];exact aQ<|oY 5 rfl (pv 5) rfl
 ·have hne:S.T≠[]:=λz=>by rw[z] at q;cases q
  obtain⟨t,ht,hm,tnd,tne,W1,eT,W2⟩:=W.turn hpr hne;obtain⟨M,t',g1,g2,g3,g4,_⟩:=aPq (X:=(qG CX0 P w K mg base nl2 "found_rows" (bK sFd) f cdv A outer s H E).nox) hu4 hne;have et:t=t':=(bY.inj<|g1.symm.trans ht).symm;subst et
  have tl:t.2.length<64:=by have h1:=(iB t.2).length_eq;have h2:=W1.r64 FU;omega
  refine aG<|iV (d:=rkD t.1) 6 (aNk rfl zmin (PEd.bor<|PEd.val (aIj 3 rfl zlist rfl<|pv 3)) M g2) ?_;refine aG<|aIW (ps:=t.2) (rk:=rkP t.2) (k:=rkK t.1) 3 7 (fM S.T) hu1 rfl zsorted rfl (pv 3) (PEd.cast (pdv 6) rfl) g3 g4 (aOz tnd tl hu8) nd rfl (Or.inl rfl) λl7 qs qp qw=>iI 7 rfl ?_;have eq:=aMv tnd qp qw;subst eq;have ek:wtK (S.T.eraseIdx<|fM S.T)=(wtK S.T).eraseIdx (fM S.T):=by unfold wtK;rw[dQ,dQ,aZ,gC,gD]
  have ed:wtD (S.T.eraseIdx<|fM S.T)=(wtD S.T).eraseIdx (fM S.T):=by unfold wtD;rw[dQ,dQ,aZ,gC,gD]
  have e5:odG P w K l3 ((wtK S.T).eraseIdx<|fM S.T) (ls.eraseIdx<|fM S.T) ((wtD S.T).eraseIdx<|fM S.T)=wtS P w K ⟨l3,ls.eraseIdx<|fM S.T,S.T.eraseIdx<|fM S.T⟩:=by unfold wtS;rw[ek,ed]
  refine aJY (sd':=[.val<|.lst (L.map<|mvD p),.val<|.int b,.val (tN<|st0 p),wtS P w K ⟨l3,ls.eraseIdx<|fM S.T,({S with T:=S.T.eraseIdx (fM S.T)}:FdS).T⟩,oG (hkT P w) K l4 (({S with T:=S.T.eraseIdx (fM S.T)}:FdS).kn.map mR)<|({S with T:=S.T.eraseIdx (fM S.T)}:FdS).kn.map λ_=>.bl true,.own l5<|({S with T:=S.T.eraseIdx (fM S.T)}:FdS).fd.map fdD,.val<|rkD t.1,.val (.lst<|(iX t.2).map p2D),.un,.un]) ⟨.inr rfl,.inr rfl,.inr rfl,.inr e5,.inr rfl,.inr rfl,.inr rfl,.inr rfl,.inr rfl,.inr rfl,trivial⟩ ?_
  have hR2:∃m',m=m'+1/\lO p L b m' (fdT p L b S)=lO p L b 401 (fd0 p b):=by
   cases m with
   |zero=>have:=W.few FU;omega
   |succ m'=>have e6:lO p L b (m'+1) S=lO p L b m' (fdT p L b S):=if_neg hne;exact⟨m',rfl,by rw[<-e6];exact hR⟩
  obtain⟨m',rfl,hR2⟩:=hR2
  have tpos:0<(iX t.2).length:=by rw[(iB t.2).length_eq];exact jJ.mpr tne
  rw[eT] at hR2 W2;clear hR e5 ek ed g1 g2 g3 g4 M qp qw eT;generalize ({S with T:=S.T.eraseIdx (fM S.T)}:FdS)=S1 at W1 W2 hR2;generalize ls.eraseIdx (fM S.T)=ls1;refine aQ<|iR (ds:=(iX t.2).map p2D) (λj sd=>∃S' ls,S'=fdP p L b t.1 S1 ((iX t.2).take j)/\sd=[.val<|.lst (L.map<|mvD p),.val<|.int b,.val (tN<|st0 p),wtS P w K ⟨l3,ls,S'.T⟩,oG (hkT P w) K l4 (S'.kn.map mR)<|S'.kn.map λ_=>.bl true,.own l5<|S'.fd.map fdD,.val<|rkD t.1,.val (.lst<|(iX t.2).map p2D),.un,.un]) (fV<|pdv 7) ⟨_,Le.refl _,S1,ls1,rfl,rfl⟩ (λj d sdj hd hj=> ?_) λsdn hn=> ?_
  ·obtain⟨S',ls2,eS,rfl⟩:=hj;obtain⟨y,hy,rfl,ey⟩:=aCo hd;have jl:j<(iX t.2).length:=(aI.mp hy).1;have Wj:=W1.take hpr j (by omega);have Wj1:=W1.take hpr (j+1) (by omega);rw[ey,wM,<-eS] at Wj1;rw[<-eS] at Wj;have eS1:fdP p L b t.1 S1 ((iX t.2).take<|j+1)=fdI p L b t.1 S' (unP y):=by rw[ey,wM,<-eS]
   obtain⟨row,rfl,ro,er,rb⟩:=W1.rs y<|bH hy;rw[eS1];rw[aNM] at Wj1 ⊢;have rU:row.length<=300:=FU.rl _ (FU.all _ ro<|by rw[er] at rb;exact rb);have nbo:=(aDR hp (λs hs=>(S0.st s hs).1) ro).1;have f1:=Wj.fdl FU;have f2:=Wj1.fdl FU;have tt:=Wj.tot FU;have okj:=Wj.ok
   have kl:S'.kn.length<=400:=by rw[okj.kn,aB];exact f1
   have dy:p2D (itP p L row)=.tup [tN row,tN<|nrQ p L row]:=aQE _;rw[dy];clear Wj Wj1 eS1 ey hy hd eS dy;refine⟨[.val<|.lst (L.map<|mvD p),.val<|.int b,.val (tN<|st0 p),wtS P w K ⟨l3,ls2,S'.T⟩,oG (hkT P w) K l4 (S'.kn.map mR)<|S'.kn.map λ_=>.bl true,.own l5<|S'.fd.map fdD,.val<|rkD t.1,.val (.lst<|(iX t.2).map p2D),.val<|tN row,.val (tN<|nrQ p L row)],kN (ds:=[tN row,tN<|nrQ p L row]) (js:=[8,9]) rfl (eI (pgn 8)<|eI (pgn 9) kM) rfl rfl, ?_⟩
   have inj:decide (nrQ p L row∈S'.kn)=true↔mR (nrQ p L row)∈S'.kn.map mR:=by
    rw[decide_eq_true_iff]
    constructor
    ·exact λh=>aJ.mpr ⟨_,h,rfl⟩
    ·intro h;obtain⟨e,e1,e2⟩:=aJ.mp h;rw[<-aCL e2];exact e1
   refine aOn (K:=∀S2 ls3,S2=fdI p L b t.1 S' (row,nrQ p L row)->PSd _ [.val<|.lst (L.map<|mvD p),.val<|.int b,.val (tN<|st0 p),wtS P w K ⟨l3,ls3,S2.T⟩,oG (hkT P w) K l4 (S2.kn.map mR)<|S2.kn.map λ_=>.bl true,.own l5<|S2.fd.map fdD,.val<|rkD t.1,.val (.lst<|(iX t.2).map p2D),.val<|tN row,.val (tN<|nrQ p L row)] _ _) (λkey=>aG (fY (k:= !decide (nrQ p L row∈S'.kn)) (aJu (hk:=hkT P w) (k:=mR<|nrQ p L row) inj hu2 (PEd.cast (pdv 9)<|by rw[show(hkT P w).dat (mR<|nrQ p L row)=tD (mR<|nrQ p L row) from rfl,aKP]) (aNd 4 rfl<|pv 4)) (λq=> ?_) λq=>cI<|key S' ls2 (if_pos<|by simpa using q).symm)) λS2 ls3 e2=> ?_
   ·have nk:nrQ p L row∉S'.kn:=by simpa using q
    refine aG<|aIL (hk:=hkT P w) (k:=mR<|nrQ p L row) (d:=.bl true) 4 hu2 rfl (pv 4) aHE (PEd.cast (pdv 9)<|by rw[show(hkT P w).dat (mR<|nrQ p L row)=tD (mR<|nrQ p L row) from rfl,aKP]) (λz=>nk (of_decide_eq_true<|inj.mpr z)) (by rw[aB];omega) ?_;refine aG<|nV (d:=fdD (t.1.1,row,nrQ p L row)) 5 rfl (pv 5) (pdT (ds:=[.int t.1.1,tN row,tN<|nrQ p L row])<|aC (pdx (n:=0) (d:=.int t.1.1)<|pdv 6) (aC (pdv 8)<|aC (pdv 9) aM)) (by rw[aB];omega) ?_;refine aQ<|aGa (Z:=wtL P w K) (a:=⟨l3,ls2,S'.T⟩) (ds:=[.lst (L.map<|mvD p),.int b,.tup [.int t.1.1,.int t.1.2],tN row,tN<|nrQ p L row]) 3 rfl (pv 3) GP hr rfl (aC (pdv 0) (aC (pdv 1)<|aC (pdv 6) (aC (pdv 8)<|aC (pdv 9) aM))) ⟨p,L,b,t.1,row,nrQ p L row,hp,by omega,nbo,by omega,okj.nk,by show tot S'.T+_<=_;omega,rfl,rfl⟩ (λa' h=>h.1) rfl λa' h=> ?_;obtain⟨al,als,aT⟩:=a';obtain⟨h1,h2⟩:=h;have h1:al=l3:=h1;have h2:aT=lgQ p L b t.1 row (nrQ p L row) L.length S'.T:=h2;subst h1 h2;have k:=key ⟨lgQ p L b t.1 row (nrQ p L row) L.length S'.T,S'.kn++[nrQ p L row],S'.fd++[(t.1.1,row,nrQ p L row)]⟩ als (if_neg nk).symm;simp only[aZ,aV,eA] at k;exact k
   ·rw[<-e2] at f2;refine aQ (dX (k:=decide<|(500:Int)<(((S2.fd.map fdD).length:Nat):Int)) (qY aLr (pU rfl zlen (mF 5 rfl<|pv 5)) (aIf (i:=500) rfl hmt ⟨tm,rfl⟩)<|iM _) (decide_eq_false<|by rw[aB];omega)<|cI ?_);exact⟨[.val<|.lst (L.map<|mvD p),.val<|.int b,.val (tN<|st0 p),wtS P w K ⟨l3,ls3,S2.T⟩,oG (hkT P w) K l4 (S2.kn.map mR)<|S2.kn.map λ_=>.bl true,.own l5<|S2.fd.map fdD,.val<|rkD t.1,.val (.lst<|(iX t.2).map p2D),.un,.un],lA,S2,ls3,e2,rfl⟩
  ·obtain⟨S',ls3,eS,rfl⟩:=hn;rw[aB,dW] at eS;subst eS;exact⟨m',[.val<|.lst (L.map<|mvD p),.val<|.int b,.val (tN<|st0 p),wtS P w K ⟨l3,ls3,(fdP p L b t.1 S1<|iX t.2).T⟩,oG (hkT P w) K l4 ((fdP p L b t.1 S1<|iX t.2).kn.map mR)<|(fdP p L b t.1 S1<|iX t.2).kn.map λ_=>.bl true,.own l5<|(fdP p L b t.1 S1<|iX t.2).fd.map fdD,.un,.un,.un,.un],jG _,lA,fdP p L b t.1 S1<|iX t.2,dn++(iX t.2).map rwP,t.1,ls3,W2,by rw[aP,aB];omega,hR2,rfl⟩
theorem aDu(F:FI K mg "table_from" aEa)(ztuple:mg "tuple"=none):bA P w K mg base "table_from" 1 2 aKp:=by
 have nd2:(["number","every"]:List Str).Nodup:=by decide+kernel
 refine cG (N:=["every","numbers"]) (ps:=["every","numbers"]) (k:=0) F λf nd cdv A outer s H E hr ds r hl c=> ?_
 obtain⟨B,nb,h1,h2,rfl,rfl⟩:=c
 have ec:((bG nb).filter λ_=>true).map (λd=>match d with | .int i=>bN (B.getD i.toNat [])|_=>.non)=(nb.map λi=>B.getD i []).map bN:=by rw[bS.mpr λ_ _=>rfl];unfold bG;rw[aN,aN];rfl
 refine aQ (iJ<|iU rfl ztuple (PEd.bor<|PEd.val (PEd.cast (kP (ds:=bG nb) (N:=["number","every"]) (M:=["every","numbers"]) (cap:=[none,some 0]) (sc:=bK aEa) (Tb:=λd=>[.val d,.val<|tL B]) (λ_=>true) (λd=>match d with | .int i=>bN (B.getD i.toNat [])|_=>.non) (lE<|pdv 1) (by rw[sX];omega) rfl (by decide+kernel) rfl (by decide+kernel) rfl (λcl C fp s H d hd=>pgN 0) (λd hd=>lA) (λcl C fp s H d hd=>.inl ⟨rfl,rfl⟩) λcl C2 fp s H d hd _=> ?_)<|by rw[ec])));obtain⟨i,hi,rfl⟩:=aJ.mp hd;exact jK (n:=i) (PEd.bor<|pdv 1) (pdv 0) (aEP<|h2 i hi) λ_ _=>rfl
abbrev nl3:List Str:=["size","stock","bound","every","found"]
theorem aGA(F:FI K mg "book_of" aLy)(zlen:mg "len"=none)(zrange:mg "range"=none)(ztuple:mg "tuple"=none)(GF:bA P w K mg base "fillings" 2 1 yP)(GM:bA P w K mg base "moves_of" 5 2 aKu)(GR:bA P w K mg base "found_rows" 3 3 aKU)(GT:bA P w K mg base "table_from" 1 2 aKp):bA P w K mg base "book_of" 6 3 aLn:=by
 have nd2:(["price","row","numbers","every"]:List Str).Nodup:=by decide+kernel
 refine cG (N:=nl3) (ps:=["size","stock","bound"]) (k:=5) F λf nd cdv A outer s H E hr ds r hl c=> ?_
 obtain⟨p,L,b,U,hp,S,dn,FU,rfl,rfl⟩:=c;have f9:(bT p).length<=64:=mJ hp;have O:=aJU (p:=p) S.pr FU;have l4:=O.len;refine aG<|mP (ds:=(bT p).map bN) 3 (pdc (ds:=[bW p]) GF hr (aC (pdv 0) aM) ⟨p,hp,rfl,rfl⟩) λl5=>iI 3 rfl ?_;refine aG<|mP (ds:=(bkF p L b).map fdD) 4 (pdc (ds:=[.lst (L.map<|mvD p),.int b,tN<|st0 p]) GR hr (aC (PEd.val<|pdc (ds:=[bW p,lK L]) GM hr (aC (pdv 0)<|aC (pdv 1) aM) ⟨p,L,hp,S,dn,rfl,rfl⟩) (aC (pdv 2)<|aC (aBD (n:=(bT p).length) rfl ztuple rfl zrange (PEd.ic (pU rfl zlen (PEd.bor<|pdv 3))<|by rw[aB])<|by omega) aM)) ⟨p,L,b,U,hp,S,FU,rfl,rfl⟩) λl4=>iI 4 rfl ?_
 have ec:(((bkF p L b).map fdD).filter λ_=>true).map (λd=>enD ((unE d).1,(unE d).2.1,jR p (unE d).2.2))=(bkQ p L b).map enD:=by
  rw[bS.mpr λ_ _=>rfl,aN];unfold bkQ;rw[aN];refine bQ λe _=> ?_
  show enD ((unE<|fdD e).1,(unE<|fdD e).2.1,jR p (unE<|fdD e).2.2)=_;rw[aLq];rfl
 refine aQ<|cO (PEd.cast (kP (ds:=(bkF p L b).map fdD) (N:=["price","row","numbers","every"]) (M:=nl3) (cap:=[none,none,none,some 3]) (sc:=bK aLy) (Tb:=λd=>[.val<|.int (unE d).1,.val (.tup<|bG (unE d).2.1),.val (.tup<|bG (unE d).2.2),.val (tL<|bT p)]) (λ_=>true) (λd=>enD ((unE d).1,(unE d).2.1,jR p (unE d).2.2)) (fV<|pdv 4) (by rw[aB];omega) rfl (by decide+kernel) rfl (by decide+kernel) rfl (λcl C fp s H d hd=> ?_) (λd hd=>lA) (λcl C fp s H d hd=>.inl ⟨rfl,rfl⟩) λcl C2 fp s H d hd _=> ?_)<|by rw[ec]) trivial rfl
 ·obtain⟨e,he,rfl⟩:=aJ.mp hd;rw[aLq];exact kN (ds:=[.int e.1,tN e.2.1,tN e.2.2]) (js:=[0,1,2]) rfl (eI (pgn 0) (eI (pgn 1)<|eI (pgn 2) kM)) rfl rfl
 ·obtain⟨e,he,rfl⟩:=aJ.mp hd;rw[aLq];obtain⟨h1,h2,h3,h4,h5⟩:=O.ent e he;have nbo:=(aDR hp (λs hs=>(S.st s hs).1) h1).1;rw[<-h4] at nbo;exact pdT (ds:=[.int e.1,tN e.2.1,.tup<|(jR p e.2.2).map bN])<|aC (pdv 0) (aC (pdv 1)<|aC (pdc (ds:=[tL<|bT p,tN e.2.2]) GT hr (aC (pdv 3)<|aC (pdv 2) aM) ⟨bT p,e.2.2,by rw[nbo.1];omega,nbo.2,rfl,rfl⟩) aM)
def aKl:List D->R->Prop:=λds r=>∃p L row ws,p∈bU/\StkOk p L/\(∀t∈row,t<L.length)/\Fil p ws/\ds=[bW p,.lst<|L.map skD,.tup<|bG row,bN ws]/\r=.val (bN<|cY p L row ws)
theorem aIA(F:FI K mg "row_on" aJI)(GS:bA P w K mg base "step_on" 3 3 aAX):bA P w K mg base "row_on" 4 4 aKl:=by
 refine cG (N:=["size","stock","row","filling","made","number"]) (ps:=["size","stock","row","filling"]) (k:=3) F λf nd cdv A outer s H E hr ds r hl c=> ?_
 obtain⟨p,L,row,ws,hp,S,hrow,G,rfl,rfl⟩:=c;refine aG<|iH 4 nd rfl (Or.inl rfl) (pdv 3) ?_;refine aG<|jX (ds:=bG row) (λt=>[.val<|bW p,.val<|lK L,.val<|tN row,.val<|bN ws,.val (bN<|cY p L (row.take t) ws),.un]) (λt=>[.val<|bW p,.val<|lK L,.val<|tN row,.val<|bN ws,.val (bN<|cY p L (row.take t) ws),.val<|.int ((row.getD t 0:Nat):Int)]) (lE<|pdv 2) lA (λt d hd=> ?_) (λt d hd=> ?_) ?_
 ·obtain⟨_,rfl⟩:=pP hd;exact pgN 5
 ·obtain⟨ht,rfl⟩:=pP hd;have hn:=hrow (row.getD t 0)<|DL.getD_mem ht;have G1:=gB S (row.take t) ws (λu hu=>hrow u<|List.take_subset _ _ hu) G;refine aQ<|iV (d:=bN<|cY p L (row.take<|t+1) ws) 4 (pdc (ds:=[bW p,sqD (L.getD (row.getD t 0) AG).1,bN<|cY p L (row.take t) ws]) GS hr (aC (pdv 0) (aC (pdx (n:=0) (ds:=[sqD (L.getD (row.getD t 0) AG).1,.int (L.getD (row.getD t 0) AG).2])<|jK (PEd.bor<|pdv 1) (pdv 5) (uB hn) λ_ _=>rfl)<|aC (pdv 4) aM)) ⟨p,_,_,_,_,_,aJS (S.st _<|DL.getD_mem hn).1 G1,rfl,by rw[aCh ht,aGB];rfl⟩) ?_;exact lA
 ·refine aQ<|cO (pdv 4) trivial ?_;show R.val (bN<|cY p L (row.take (bG row).length) ws)=_;rw[show(bG row).length=row.length from aB _,dW]
abbrev nl4:List Str:=["size","stock","row"]
theorem aIr(F:FI K mg "table_of" aEv)(ztuple:mg "tuple"=none)(GF:bA P w K mg base "fillings" 2 1 yP)(GR:bA P w K mg base "row_on" 4 4 aKl):bA P w K mg base "table_of" 5 3 aKo:=by
 refine cG (N:=nl4) (ps:=nl4) (k:=4) F λf nd cdv A outer s H E hr ds r hl c=> ?_
 obtain⟨p,L,row,hp,S,hrow,rfl,rfl⟩:=c;have nd2:(["filling","size","stock","row"]:List Str).Nodup:=by decide+kernel
 have f9:=mJ hp;have fp:∀w∈gH (2^p.1.toNat) p.2.toNat,Fil p w:=λw hw=>hW hp hw
 have et:tabQ p L row=(gH (2^p.1.toNat) p.2.toNat).map λws=>cY p L row ws:=rfl
 rw[et];refine aQ<|iJ (iU rfl ztuple<|PEd.bor (PEd.val<|PEd.cast (pdC (ds:=(gH (2^p.1.toNat) p.2.toNat).map bN) (N:=["filling","size","stock","row"]) (M:=nl4) (cap:=[none,some 0,some 1,some 2]) (sc:=bK aEv) (Tb:=λd=>[.val d,.val<|bW p,.val<|lK L,.val<|tN row]) (λ_=>true) (λd=>bN (cY p L row<|lC d)) (fV (PEd.val<|pdc (ds:=[bW p]) GF hr (aC (pdv 0) aM) ⟨p,hp,rfl,rfl⟩)) (by rw[aB];omega) (λcl C fp s H d hd=>.inl ⟨rfl,rfl⟩) λcl C fp2 s H d hd _=> ?_) (?_:_=R.own (((gH (2^p.1.toNat) p.2.toNat).map λws=>cY p L row ws).map bN))))
 ·obtain⟨ws,hw,rfl⟩:=wF hd;rw[iN];exact pdc (ds:=[bW p,lK L,tN row,bN ws]) GR hr (aC (pdv 1)<|aC (pdv 2) (aC (pdv 3)<|aC (pdv 0) aM)) ⟨p,L,row,ws,hp,S,hrow,fp ws hw,rfl,rfl⟩
 ·rw[bS.mpr λ_ _=>rfl,aN,aN];congr 1;refine bQ λws _=> ?_
  show bN (cY p L row (lC<|bN ws))=_;rw[iN];rfl
theorem aIF(F:FI K mg "boxes_looked_at" aKr)(zlist:mg "list"=none)(zrange:mg "range"=none):bA P w K mg base "boxes_looked_at" 1 2 aEc:=by
 refine cG (N:=["size","looked"]) (ps:=["size","looked"]) (k:=0) F λf nd cdv A outer s H E hr ds r hl c=> ?_
 obtain⟨p,o,hp,rfl,rfl⟩:=c;obtain⟨h1,h2,h3,h4,h5⟩:=pE p hp;have e2:p.2=((p.2.toNat:Nat):Int):=by omega
 cases o with
 |none=>exact aG<|gS (vN (d:=.non) (pdv 1) iO) rfl (aQ<|cO (PEd.cast (nL (n:=p.2.toNat) rfl zlist rfl zrange (PEd.ic (pdx (n:=1) (d:=.int p.2)<|pdv 0) e2)<|by omega)<|by rw[kI];rfl) trivial rfl)
 |some l=>refine aG (dX (vN (d:=.lst<|bG l) (pdv 1) iO) rfl<|cI ?_);exact aQ (iJ<|yF rfl zlist (PEd.bor<|pdv 1))
theorem aDy(F:FI K mg "words_in" xC):bA P w K mg base "words_in" 1 2 aCB:=by
 refine cG (N:=["boxes","filling"]) (ps:=["boxes","filling"]) (k:=0) F λf nd cdv A outer s H E hr ds r hl c=> ?_
 obtain⟨bs,ws,hb,hw,rfl,rfl⟩:=c;have nd2:(["box","filling"]:List Str).Nodup:=by decide+kernel
 refine aQ<|cO (PEd.cast (pdC (ds:=bG bs) (N:=["box","filling"]) (M:=["boxes","filling"]) (cap:=[none,some 1]) (sc:=bK xC) (Tb:=λd=>[.val d,.val<|bN ws]) (λ_=>true) (λd=>match d with | .int i=>D.int (ws.getD i.toNat 0)|_=>.non) (fV<|pdv 0) (by unfold bG;rw[aB];omega) (λcl C fp s H d hd=>.inl ⟨rfl,rfl⟩) λcl C fp s H d hd _=> ?_) ?_) trivial rfl
 ·obtain⟨b,hb2,rfl⟩:=aJ.mp hd;have:=hw b hb2;exact oZ (n:=b) (d:=.int<|ws.getD b 0) (pdv 1) (pdv 0) (by simp[bF,this]) λ_ _=>rfl
 ·rw[bS.mpr λ_ _=>rfl];unfold bG;rw[aN,aN];rfl
abbrev nl5:List Str:=["row","place","many"]
theorem aCV(F:FI K mg "is_window" aKa)(zlen:mg "len"=none):bA P w K mg base "is_window" 1 3 aSo:=by
 refine cG (N:=nl5) (ps:=nl5) (k:=0) F λf nd cdv A outer s H E hr ds r hl c=> ?_
 obtain⟨row,pl,mn,hw1,hw2,rfl,rfl⟩:=c;have e1:decide ((0:Int)<=(pl:Int))=true:=decide_eq_true (by omega);have e2:decide ((1:Int)<=(mn:Int))=true:=decide_eq_true (by omega);have e3:decide ((pl:Int)+(mn:Int)<=(row.length:Int))=true:=decide_eq_true (by omega);exact aQ<|cO (PEd.cast (aKA (k:=true) (j:=true) (PEd.cast (aHA (g:=λi j=>decide<|j<=i) aLz (pdv 1) bV<|iM _)<|by rw[e1]) λ_=>PEd.cast (aKA (k:=true) (j:=true) (PEd.cast (aHA (g:=λi j=>decide<|j<=i) aLz (pdv 2) bV<|iM _)<|by rw[e2]) λ_=>aPM (PEd.cast (aHA (g:=λi j=>decide<|i<=j) aOr (eR fU (pdv 1)<|pdv 2) (PEd.ic (vX rfl zlen<|pdv 0)<|by unfold bG;rw[aB])<|iM _)<|by rw[e3])) rfl) rfl) trivial rfl
theorem aDD(F:FI K mg "words_told" aDX)(ztuple:mg "tuple"=none)(GW:bA P w K mg base "words_in" 1 2 aCB):bA P w K mg base "words_told" 2 2 aKn:=by
 refine cG (N:=["boxes","table"]) (ps:=["boxes","table"]) (k:=1) F λf nd cdv A outer s H E hr ds r hl c=> ?_
 obtain⟨p,bs,T,hp,lb,hb,O,rfl,rfl⟩:=c;have f9:(bT p).length<=64:=mJ hp
 have ec:((T.map bN).filter λ_=>true).map (λd=>bN (wdQ bs<|lC d))=(T.map<|wdQ bs).map bN:=by
  rw[bS.mpr λ_ _=>rfl,aN,aN];refine bQ λf _=> ?_
  show bN (wdQ bs (lC<|bN f))=_;rw[iN];rfl
 refine aQ<|cO (PEd.cast (kP (ds:=T.map bN) (N:=["filling","boxes"]) (M:=["boxes","table"]) (cap:=[none,some 0]) (sc:=bK aDX) (Tb:=λd=>[.val d,.val (.lst<|bG bs)]) (λ_=>true) (λd=>bN (wdQ bs<|lC d)) (lE<|pdv 1) (by rw[aB,O.len];omega) rfl (by decide+kernel) rfl (by decide+kernel) rfl (λcl C fp s H d _=>aCv 0 (sY (i:=0) (show(["filling","boxes"]:List Str).Nodup by decide+kernel) rfl<|Or.inl rfl)) (λd _=>lA) (λcl C fp s H d hd=>.inl ⟨rfl,rfl⟩) λcl C fp s H d hd _=> ?_)<|by rw[ec]) trivial rfl;obtain⟨f,hf,rfl⟩:=wF hd;have G:=O.fil f hf;rw[iN];exact iU rfl ztuple<|PEd.bor (PEd.val<|pdc (ds:=[.lst<|bG bs,bN f]) (r:=.own<|(wdQ bs f).map D.int) GW hr (aC (pdv 1)<|aC (pdv 0) aM) ⟨bs,f,lb,λb h=>by rw[G.len];exact hb b h,rfl,rfl⟩)
theorem aIg(F:FI K mg "fillings_by_words" aSE)(zenumerate:mg "enumerate"=none)(GF:bA P w K mg base "fillings" 2 1 yP):bA P w K mg base "fillings_by_words" 3 2 (aSe P w K):=by
 refine cG (N:=["size","words","gathered","number","filling"]) (ps:=["size","words"]) (k:=2) F λf nd cdv A outer s H E hr ds r hl c=> ?_
 obtain⟨p,h,hp,rfl,rfl⟩:=c;have f9:(bT p).length<=64:=mJ hp;have hu:=uN hr 1;refine aG<|aAh 2 nd rfl (Or.inl rfl) λl=> ?_;refine aG<|iR (ds:=mI<|(bT p).map bN) (λt sd=>∃ls,sd=[.val<|bW p,.val (tL<|(bT p).map h),odG P w K l ((jM<|((bT p).take t).map h).map kY) ls<|oA h ((bT p).take t) (jM<|((bT p).take t).map h),.un,.un]) (rY rfl zenumerate (PEd.val<|pdc (ds:=[bW p]) GF hr (aC (pdv 0) aM) ⟨p,hp,rfl,rfl⟩)) ⟨_,Le.refl _,[],rfl⟩ (λt d sdk hd hk=> ?_) λsdn hn=> ?_
 ·obtain⟨x,e1,rfl⟩:=nG hd;obtain⟨ht,rfl⟩:=lQ e1;obtain⟨ls,rfl⟩:=hk;have ew:(((bT p).map h).map bN)[t]? =some (bN (h<|(bT p).getD t [])):=by simp[bF,ht]
  have et:(bT p).take (t+1)=(bT p).take t++[(bT p).getD t []]:=uC [] ht;have tl:((bT p).take t).length<=64:=bZ (List.length_take_le' _ _) f9;refine⟨[.val<|bW p,.val (tL<|(bT p).map h),odG P w K l ((jM<|((bT p).take t).map h).map kY) ls<|oA h ((bT p).take t) (jM<|((bT p).take t).map h),.val<|.int (t:Int),.val (bN<|(bT p).getD t [])],kN (js:=[3,4]) rfl (eI (pgn 3)<|eI (pgn 4) kM) rfl rfl, ?_⟩;have pred:∀k',k'∈jM (((bT p).take t).map h)↔k'∈((bT p).take t).map h:=λk'=>aCK
  have ndk:=xV<|((bT p).take t).map h;have es:jM (((bT p).take<|t+1).map h)=pD (jM<|((bT p).take t).map h) (h<|(bT p).getD t []):=by rw[et,aZ];exact aGP _ _
  have kl:(jM<|((bT p).take t).map h).length<=64:=by refine bZ (aIq _) ?_;rw[aB];exact tl
  refine aQ<|aAd 2 (k:=kY (h<|(bT p).getD t [])) (d:=bN<|(bT p).getD t []) hu rfl (pv 2) (PEd.cast (jK (n:=t) (d:=bN (h<|(bT p).getD t [])) (PEd.bor<|pdv 1) (pdv 3) ew λ_ _=>rfl)<|by rw[aSj]) (λz=>(pdv 4)) (by unfold oA;rw[aB];omega) (λds hds=> ?_) (λn ds hk2 hd2=> ?_) λhk2 a=> ?_
  ·obtain⟨k',_,rfl⟩:=aJ.mp hds;rw[aB];exact bZ (fO _ _)<|by omega
  ·rw[aY] at hk2;obtain⟨k',q1,q2⟩:=eE.mp hk2;have q3:=aJN q2;subst q3;refine⟨[.val<|bW p,.val (tL<|(bT p).map h),odG P w K l ((jM<|((bT p).take<|t+1).map h).map kY) ls<|oA h ((bT p).take<|t+1) (jM<|((bT p).take<|t+1).map h),.un,.un],⟨.inr rfl,.inr rfl,.inr ?_,.inl rfl,.inl rfl,trivial⟩,ls,rfl⟩;show odG P w K l _ ls _=_;rw[es,show pD (jM<|((bT p).take t).map h) (h<|(bT p).getD t [])=jM (((bT p).take t).map h) from if_pos (bH q1),et,<-aMH ndk q1 hd2]
  ·have nm:h ((bT p).getD t [])∉jM (((bT p).take t).map h):=λhm=>hk2 (aJ.mpr ⟨_,hm,rfl⟩)
   refine⟨[.val<|bW p,.val (tL<|(bT p).map h),odG P w K l ((jM<|((bT p).take<|t+1).map h).map kY) (ls++[a])<|oA h ((bT p).take<|t+1) (jM<|((bT p).take<|t+1).map h),.un,.un],⟨.inr rfl,.inr rfl,.inr ?_,.inl rfl,.inl rfl,trivial⟩,ls++[a],rfl⟩;show odG P w K l _ (ls++[a]) _=_;rw[es,show pD (jM<|((bT p).take t).map h) (h<|(bT p).getD t [])=jM (((bT p).take t).map h)++[h<|(bT p).getD t []] from if_neg nm,et,aZ,<-aMc nm λg hg=>(pred _).mpr<|aJ.mpr ⟨g,hg,rfl⟩];rfl
 ·obtain⟨ls,rfl⟩:=hn;rw[lM,aB,dW];exact aQ<|aHL 2 rfl (pv 2) (λv F H g=>⟨l,ls,rfl,g⟩) rfl
abbrev nl6:List Str:=["size","stock","row","place","many","looked","boxes","ahead","alike","words","every"]
abbrev nl7:List Str:=["size","stock","row","place","many","looked"]
abbrev nl8:List Str:=["number","filling","alike","words","ahead"]
theorem aIt(F:FID K mg "wish_at" aQq)(zlist:mg "list"=none)(zenumerate:mg "enumerate"=none)(GI:bA P w K mg base "is_window" 1 3 aSo)(GB:bA P w K mg base "boxes_looked_at" 1 2 aEc)(GT:bA P w K mg base "table_of" 5 3 aKo)(GW:bA P w K mg base "words_told" 2 2 aKn)(GG:bA P w K mg base "fillings_by_words" 3 2 (aSe P w K))(GF:bA P w K mg base "fillings" 2 1 yP):CalleeE [.none] P w K mg base "wish_at" 6 6 aQt:=by
 obtain⟨f,fd,hm,F⟩:=F;have nd:nl6.Nodup:=by decide+kernel
 refine vI (N:=nl6) (ps:=nl7) (k:=5) F ⟨rfl,rfl,rfl,nd,rfl,by decide+kernel,by decide+kernel⟩ hm (λs T o nn _ _ _ _ _ _ us hT hS hl=>match us,hl with | [_,_,_,_,_,_],_=>BindsTo.of_defaults rfl hT hS rfl rfl) (λs T o nn _ _ _ _ _ _ us hT hS hl=>match us,hl with | [_,_,_,_,_],_=>BindsTo.of_defaults rfl hT hS rfl rfl) λcdv A outer s H E hr ds r hl c=> ?_
 obtain⟨p,L,row,pl,mn,o,hp,S,hrow,rl,w1,w2,hlk,rfl,rfl⟩:=c;have f9:(bT p).length<=64:=mJ hp;have hu:=uN hr 4;obtain⟨lb,hb⟩:=aOv hp hlk;have r1:∀t∈row.take pl,t<L.length:=λt ht=>hrow t<|dR ht
 have r2:∀t∈row.drop (pl+mn),t<L.length:=λt ht=>hrow t<|eC ht
 have r3:∀t∈row.drop pl,t<L.length:=λt ht=>hrow t<|eC ht
 refine aLf (rX (k:=true) (pK<|pdc (ds:=[tN row,.int (pl:Int),.int (mn:Int)]) (r:=.val<|.bl true) GI hr (aC (pdv 2) (aC (pdv 3)<|aC (pdv 4) aM)) ⟨row,pl,mn,w1,w2,rfl,rfl⟩)) ?_;refine aG<|mP (ds:=bG<|bxQ p.2.toNat o) 6 (pdc (ds:=[bW p,lkD o]) GB hr (aC (pdv 0)<|aC (pdv 5) aM) ⟨p,o,hp,rfl,rfl⟩) λl6=>iI 6 rfl ?_;generalize bxQ p.2.toNat o=bs at lb hb;refine aG<|iV (d:=.tup<|(tabQ p L<|row.take pl).map bN) 7 (pdc (ds:=[bW p,lK L,tN<|row.take pl]) GT hr (aC (pdv 0) (aC (pdv 1)<|aC (PEd.cast (aCA (k:=pl) (pdv 2)<|pdv 3)<|by rw[aGL]) aM)) ⟨p,L,_,hp,S,r1,rfl,rfl⟩) ?_;obtain⟨h,hh⟩:∃h,h=(λg=>wdQ bs<|cY p L (row.drop<|pl+mn) g):=⟨_,rfl⟩
 have e1:(tabQ p L (row.drop<|pl+mn)).map (wdQ bs)=(bT p).map h:=by rw[hh];unfold tabQ;rw[aN];rfl
 refine aG<|aGO (ks:=(jM<|(bT p).map h).map kY) (dss:=oA h (bT p) (jM<|(bT p).map h)) 8 nd rfl (Or.inr rfl) (pdc (ds:=[bW p,tL<|(bT p).map h]) GG hr (aC (pdv 0)<|aC (PEd.cast (PEd.val<|pdc (ds:=[.lst<|bG bs,.tup<|(tabQ p L (row.drop<|pl+mn)).map bN]) GW hr (aC (pdv 6)<|aC (pdc (ds:=[bW p,lK L,tN (row.drop<|pl+mn)]) GT hr (aC (pdv 0) (aC (pdv 1)<|aC (PEd.cast (yB (k:=pl+mn) (pdv 2) (PEd.ic (eR fU (pdv 3)<|pdv 4)<|by push_cast;rfl))<|by rw[aAl]) aM)) ⟨p,L,_,hp,S,r2,rfl,rfl⟩) aM) ⟨p,bs,_,hp,lb,hb,aKL hp S r2,rfl,rfl⟩)<|by rw[e1]) aM) ⟨p,h,hp,rfl,rfl⟩) ?_;refine aG<|mP (ds:=((tabQ p L<|row.drop pl).map<|wdQ bs).map bN) 9 (pdc (ds:=[.lst<|bG bs,.tup<|(tabQ p L<|row.drop pl).map bN]) GW hr (aC (pdv 6)<|aC (pdc (ds:=[bW p,lK L,tN<|row.drop pl]) GT hr (aC (pdv 0) (aC (pdv 1)<|aC (PEd.cast (yB (k:=pl) (pdv 2)<|pdv 3)<|by rw[aAl]) aM)) ⟨p,L,_,hp,S,r3,rfl,rfl⟩) aM) ⟨p,bs,_,hp,lb,hb,aKL hp S r3,rfl,rfl⟩) λl9=>iI 9 rfl ?_;refine aG<|mP (ds:=(bT p).map bN) 10 (pdc (ds:=[bW p]) GF hr (aC (pdv 0) aM) ⟨p,hp,rfl,rfl⟩) λl10=>iI 10 rfl ?_
 have ec:((mI<|(bT p).map bN).filter λ_=>true).map (enF λg=>wsD<|wnQ p L row pl mn bs g)=(waQ p L row pl mn bs).map wsD:=by rw[bS.mpr λ_ _=>rfl,aMb p λg=>wsD<|wnQ p L row pl mn bs g];unfold waQ;rw[aN];rfl
 have sh:∀d∈mI ((bT p).map bN),∃t:Nat,t<(bT p).length/\d=.tup [.int (t:Int),bN<|(bT p).getD t []]:=λd hd=>by obtain⟨t,ht⟩:=eY hd;obtain⟨x,q1,q2⟩:=nG ht;obtain⟨q3,rfl⟩:=lQ q1;exact⟨t,q3,q2⟩
 refine aQ<|cO (PEd.cast (kP (ds:=mI<|(bT p).map bN) (N:=nl8) (M:=nl6) (cap:=[none,none,some 8,some 9,some 7]) (sc:=bK aQq) (Tb:=λd=>match d with | .tup [a,b]=>[.val a,.val b,odF P w K ((jM<|(bT p).map h).map kY)<|(oA h (bT p) (jM<|(bT p).map h)).map D.lst,.val<|tL ((tabQ p L<|row.drop pl).map<|wdQ bs),.val (.tup<|(tabQ p L<|row.take pl).map bN)] | _=>[.un,.un,.un,.un,.un]) (λ_=>true) (enF λg=>wsD<|wnQ p L row pl mn bs g) (rY rfl zenumerate<|pdv 10) (by rw[lM,aB];omega) rfl (by decide+kernel) rfl (by decide+kernel) rfl (λcl C fp s H d hd=> ?_) (λd hd=> ?_) (λcl C fp s H d hd=>.inl ⟨rfl,rfl⟩) λcl C fp s H d hd _=> ?_)<|by rw[ec]) trivial rfl
 ·obtain⟨t,ht,rfl⟩:=sh d hd;exact kN (js:=[0,1]) rfl (eI (sY (i:=0) (show nl8.Nodup by decide+kernel) rfl<|Or.inl rfl)<|eI (sY (i:=1) (show nl8.Nodup by decide+kernel) rfl<|Or.inl rfl) kM) rfl rfl
 ·obtain⟨t,ht,rfl⟩:=sh d hd;exact lA
 ·obtain⟨t,ht,rfl⟩:=sh d hd;have G:Fil p ((bT p).getD t []):=hW hp (getD_mem (d:=[]) ht)
  have ew:(((tabQ p L<|row.drop pl).map<|wdQ bs).map bN)[t]? =some (bN<|wdQ bs (cY p L (row.drop pl)<|(bT p).getD t [])):=by unfold tabQ;rw[aY,aY,aY];show(((bT p)[t]?.map _).map _).map _=_;simp[bF,ht]
  show PEd _ _ _ (.val<|wsD (wnQ p L row pl mn bs<|lC (bN<|(bT p).getD t [])));rw[iN];generalize (bT p).getD t []=u at G ew;have dT:=uA (tabQ p L<|row.take pl);refine aEe (k:=decide<|u∈tabQ p L (row.take pl)) (PTd.cast (aJv (pdv 1) (pdv 4) (rV _) (xD _)<|by show(A.deeper _).units+1+_<AM;omega)<|by rw[aCr]) (λq=> ?_) λq=> ?_
  ·have hm2:=of_decide_eq_true q;have e3:wnQ p L row pl mn bs u=some (tP h (bT p) (wdQ bs<|cY p L (row.drop pl) u)):=by rw[hh];exact if_pos hm2
   rw[e3];have Gm:=gB S ((row.drop pl).take mn) u (λt ht=>r3 t<|dR ht) G
   have mk:wdQ bs (cY p L (row.drop pl) u)∈jM ((bT p).map h):=by rw[aCK,hh];refine aJ.mpr ⟨cY p L ((row.drop pl).take mn) u,mE Gm.len Gm.wd, ?_⟩;show wdQ bs _=_;rw[<-nD,<-qW]
   obtain⟨n,hn⟩:=eY mk;exact PEd.val<|yF rfl zlist (PEd.bor<|aIO 2 (k:=kY (wdQ bs<|cY p L (row.drop pl) u)) (n:=n) (d:=tL<|tP h (bT p) (wdQ bs<|cY p L (row.drop pl) u)) (by show(A.deeper _).units+1<AM;omega) rfl (pv 2) (PEd.cast (jK (n:=t) (d:=bN (wdQ bs<|cY p L (row.drop pl) u)) (PEd.bor<|pdv 3) (pdv 0) ew λ_ _=>rfl)<|by rw[aSj]) (aHP<|xV _) (by rw[aY,hn];rfl) (by unfold oA;rw[aY,aY,hn];rfl) λ_ _=>rfl)
  ·rw[show wnQ p L row pl mn bs u=none from if_neg (of_decide_eq_false q)];exact iO
abbrev nl9:List Str:=["size","wish","table"]
theorem aGf(F:FI K mg "misses_at" aNY)(zenumerate:mg "enumerate"=none)(GF:bA P w K mg base "fillings" 2 1 yP):bA P w K mg base "misses_at" 3 3 aOk:=by
 refine cG (N:=["size","wish","table","number","filling"]) (ps:=nl9) (k:=2) F λf nd cdv A outer s H E hr ds r hl c=> ?_
 obtain⟨p,w,T,hp,W,OT,rfl,rfl⟩:=c;have hu:=uN hr 4;refine aG<|iR (ds:=mI<|(bT p).map bN) (λk sd=>(∀j,j<k->aNs w T j=false)/\sd=[.val<|bW p,.val (.lst<|w.map wsD),.val (.tup<|T.map bN),.un,.un]) (rY rfl zenumerate (PEd.val<|pdc (ds:=[bW p]) GF hr (aC (pdv 0) aM) ⟨p,hp,rfl,rfl⟩)) ⟨_,Le.refl _,λj hj=>by omega,rfl⟩ (λk d sdk hd hk=> ?_) λsdn hn=> ?_
 ·obtain⟨x,hx,rfl⟩:=nG hd;obtain⟨hk2,rfl⟩:=lQ hx;obtain⟨hn,rfl⟩:=hk;have kT:k<T.length:=by rw[OT.len];exact hk2
  have kW:k<w.length:=by rw[W.len];exact hk2
  refine⟨[.val<|bW p,.val (.lst<|w.map wsD),.val (.tup<|T.map bN),.val<|.int (k:Int),.val (bN<|(bT p).getD k [])],kN (js:=[3,4]) rfl (eI (pgn 3)<|eI (pgn 4) kM) rfl rfl, ?_⟩;refine aQ<|fY (k:=aNs w T k) ?_ (λh=> ?_) λh=>cI ?_
  ·have ka:=aRG kW;unfold aNs;cases hq:w.getD k none with
   |none=>rw[hq] at ka;exact PWd.pt<|aEY (k:=false) (j:=false) (lR (d:=.non) (jK (n:=k) (d:=.non) (PEd.bor<|pdv 1) (pdv 3) ka λ_ _=>rfl) iO) λh=>by cases h
   |some L=>rw[hq] at ka;exact PWd.pt<|aEY (k:=true) (j:= !decide (T.getD k []∈L)) (lR (d:=tL L) (jK (n:=k) (d:=tL L) (PEd.bor<|pdv 1) (pdv 3) ka λ_ _=>rfl) iO) λ_=>aHJ (PTd.cast (aCf (d:=bN<|T.getD k []) (ds:=L.map bN) (oZ (n:=k) (pdv 2) (pdv 3) (aEP kT) λ_ _=>rfl) (jK (n:=k) (d:=tL L) (PEd.bor<|pdv 1) (pdv 3) ka λ_ _=>rfl) (rV _) (xD L)<|by have:=uA L;show(A.deeper _).units+1+_<AM;omega)<|by rw[aCr])
  ·refine aQ<|cO (pdv 4) trivial ?_;show R.val _=R.val (aQf<|rQ w (bT p) T);rw[show rQ w (bT p) T=some ((bT p).getD k []) from aCU hk2 h hn];rfl
  ·refine⟨[.val<|bW p,.val (.lst<|w.map wsD),.val (.tup<|T.map bN),.un,.un],lA,λj hj=> ?_,rfl⟩
   by_cases q:j<k
   ·exact hn j q
   ·have:j=k:=by omega
    subst this;exact h
 ·obtain⟨hn,rfl⟩:=hn;rw[lM,aB] at hn;refine aQ<|cO iO trivial ?_;show R.val _=R.val (aQf<|rQ w (bT p) T);rw[show rQ w (bT p) T=none from xX hn];rfl
theorem aMY(F:FI K mg "does_wish" aOq)(GM:bA P w K mg base "misses_at" 3 3 aOk):bA P w K mg base "does_wish" 4 3 aOx:=by
 refine cG (N:=nl9) (ps:=nl9) (k:=3) F λf nd cdv A outer s H E hr ds r hl c=> ?_
 obtain⟨p,w,T,hp,W,OT,rfl,rfl⟩:=c;exact aQ<|cO (PEd.cast (aPl (pdc (ds:=[bW p,.lst<|w.map wsD,.tup<|T.map bN]) GM hr (aC (pdv 0) (aC (pdv 1)<|aC (pdv 2) aM)) ⟨p,w,T,hp,W,OT,rfl,rfl⟩) iO)<|by rw[aMn]) trivial rfl
theorem aMN(F:FI K mg "first_that_does" sFt)(GD:bA P w K mg base "does_wish" 4 3 aOx):bA P w K mg base "first_that_does" 5 3 aLx:=by
 refine cG (N:=["size","book","wish","entry"]) (ps:=["size","book","wish"]) (k:=4) F λf nd cdv A outer s H E hr ds r hl c=> ?_
 obtain⟨p,L,b,B,w,hp,S,O,W,rfl,rfl⟩:=c;refine aG<|iR (ds:=B.map enD) (λt sd=>ftQ p w B=ftQ p w (B.drop t)/\sd=[.val<|bW p,.val (.lst<|B.map enD),.val (.lst<|w.map wsD),.un]) (fV<|pdv 1) ⟨_,Le.refl _,rfl,rfl⟩ (λt d sdt hd ht=> ?_) λsdn hn=> ?_
 ·obtain⟨q,rfl⟩:=ht;obtain⟨e,he,rfl,_⟩:=aCo hd;obtain⟨tl,ee⟩:=aI.mp he;obtain⟨x1,x2,x3,x4,x5⟩:=O.ent e<|bH he;have tk:aCQ p e.2.2:=by rw[x4];exact aLP hp S x1
  rw[fN tl,ee] at q;refine⟨[.val<|bW p,.val (.lst<|B.map enD),.val (.lst<|w.map wsD),.val<|enD e],pgN 3, ?_⟩;refine aQ<|fY (k:=doQ p w e.2.2) (pK<|pdc (ds:=[bW p,.lst<|w.map wsD,.tup<|e.2.2.map bN]) GD hr (aC (pdv 0) (aC (pdv 2)<|aC (pdx (n:=2) (ds:=[.int e.1,tN e.2.1,.tup<|e.2.2.map bN])<|pdv 3) aM)) ⟨p,w,e.2.2,hp,W,tk,rfl,rfl⟩) (λh=> ?_) λh=>cI ?_
  ·have e3:ftQ p w B=some e:=by rw[q];exact List.find?_cons_of_pos (p:=λe:Bk=>doQ p w e.2.2) h
   rw[e3];exact aQ (iJ<|pdv 3)
  ·refine⟨[.val<|bW p,.val (.lst<|B.map enD),.val (.lst<|w.map wsD),.un],lA, ?_,rfl⟩;rw[q];exact List.find?_cons_of_neg (p:=λe:Bk=>doQ p w e.2.2) (by rw[h];decide)
 ·obtain⟨q,rfl⟩:=hn;rw[aB,vZ] at q;rw[q];exact aQ<|iJ iO
theorem aHR(F:FI K mg "price_of" aEp)(zsum:mg "sum"=none):bA P w K mg base "price_of" 1 2 aEn:=by
 refine cG (N:=["stock","row"]) (ps:=["stock","row"]) (k:=0) F λf nd cdv A outer s H E hr ds r hl c=> ?_
 obtain⟨L,row,hrow,hl2,rfl,rfl⟩:=c;have nd2:(["number","stock"]:List Str).Nodup:=by decide+kernel
 have ec:((bG row).filter λ_=>true).map (λd=>match d with | .int t=>D.int (L.getD t.toNat AG).2|_=>.non)=(sG L row).map D.int:=by
  rw[bS.mpr λ_ _=>rfl];unfold bG sG;rw[aN,aN];refine bQ λt _=> ?_
  simp
 refine aQ (iJ<|aEV (ns:=sG L row) rfl zsum (PEd.bor<|PEd.val (PEd.cast (pdC (ds:=bG row) (N:=["number","stock"]) (M:=["stock","row"]) (cap:=[none,some 0]) (sc:=bK aEp) (Tb:=λd=>[.val d,.val<|lK L]) (λ_=>true) (λd=>match d with | .int t=>D.int (L.getD t.toNat AG).2|_=>.non) (lE<|pdv 1) (by rw[show(bG row).length=row.length from aB _];omega) (λcl C fp s H d hd=>.inl ⟨rfl,rfl⟩) λcl C fp s H d hd _=> ?_)<|by rw[ec])));obtain⟨t,ht,rfl⟩:=aJ.mp hd;have hn:=hrow t ht;exact pdx (n:=1) (ds:=[sqD (L.getD t AG).1,.int (L.getD t AG).2])<|jK (n:=t) (PEd.bor<|pdv 1) (pdv 0) (uB hn) λ_ _=>rfl
theorem aDH(F:FI K mg "steps_at" aCw):bA P w K mg base "steps_at" 1 3 xM:=by
 refine cG (N:=nl5) (ps:=nl5) (k:=0) F λf nd cdv A outer s H E hr ds r hl c=> ?_
 obtain⟨row,i,m,rfl,rfl⟩:=c;refine aQ<|cO (aNm (i:=i) (j:=i+m) (pdv 0) (pdv 1) (PEd.ic (eR fU (pdv 1)<|pdv 2)<|by omega)) trivial ?_;unfold bG;rw[Nat.add_sub_cancel_left,gC,gD]
abbrev aNw:List Str:=["self","bound"]
theorem aPN{C:BJ}(F:Fun K "book_up_to" "Shelf.book_up_to" aNx f fd)(T:sJ K mg C)(GB:bA P w K mg base "book_of" 6 3 aLn)(p:Int×Int)(L:List SK):FnOk P w K mg base CX0 7 f fd aNw (aNt (shZ K C p L) 2<|aSt p L):=by
 refine aEd (Z:=shZ K C p L) (N:=aNw) (ps:=aNw) (k:=6) F ⟨rfl,rfl,rfl,by decide+kernel,rfl,by decide+kernel,by decide+kernel⟩ (λcdv A outer s H E B hB hr a ds d hl c=> ?_) aBK
 ·obtain⟨b,I,rfl,rfl⟩:=c;have hu:=uN hr 1;refine aGS (C:=C) (fs:=aSg p L) (J:=JSh p L) (a:=a) 0 rfl λks ds J=> ?_
  by_cases hk:(Sum.inl (b:Int):Key)∈ks
  ·obtain⟨n,h1,h2⟩:=J.at_ hk;refine aG (fY (k:=false) (uW (ks:=ks) (ds:=ds) (k:=(b:Int)) 0 hu rfl (pv 0) T.cl T.nM (pdv 1) false λxs lx=> ?_) (λh=>by cases h) λ_=> ?_)
   ·obtain⟨x,hx⟩:∃x,xs[n]? =some x:=⟨_,dC<|by rw[<-lx];exact(aI.mp h1).1⟩;rw[aBf J.1 h1 hx];rfl
   ·exact cI (aQ<|aCF (J:=JSh p L) 0 rfl J (wJ (n:=n) (k:=(b:Int)) 0 hu rfl (pv 0) T.cl T.nM (pdv 1) J.1 h1 h2 λ_ _=>rfl) rfl)
  ·have J2:=J.put I.le hk;obtain⟨n,h1,h2⟩:=J2.at_ (b:=b) (aX _<|cQ _);obtain⟨U,fu⟩:=I.few;refine aG (fY (k:=true) (uW (ks:=ks) (ds:=ds) (k:=(b:Int)) 0 hu rfl (pv 0) T.cl T.nM (pdv 1) true λxs lx=> ?_) (λ_=> ?_) λh=>by cases h)
   ·rw[tS hk λ_ z=>z];rfl
   ·exact aQ<|aBA (d:=.lst<|(bkQ p L (b:Int)).map enD) (k:=(b:Int)) 0 hu rfl (pv 0) T.cl T.nM (PEd.val<|pdc (ds:=[bW p,lK L,.int (b:Int)]) GB hr (aC (aFu (d:=bW p) 0 rfl (pv 0) T.cl T.nZ rfl) (aC (aFu (d:=lK L) 0 rfl (pv 0) T.cl T.nS rfl)<|aC (pdv 1) aM)) ⟨p,L,(b:Int),U,I.hp,I.st,I.nd,fu,rfl,rfl⟩) (pdv 1) hk J.len (aQ<|aCF (J:=JSh p L) 0 rfl J2 (wJ (n:=n) (k:=(b:Int)) 0 hu rfl (pv 0) T.cl T.nM (pdv 1) J2.1 h1 h2 λ_ _=>rfl) rfl)
abbrev nl11:List Str:=["shelf","row","place","many","looked","wish","price","found"]
abbrev aSz:List Str:=["shelf","row","place","many","looked"]
theorem aDn{CS fB:BJ}{fdB:AL}(F:Fun K "piece_from" "piece_from" aEg f fd)(shT:sJ K mg CS)(hm:mg "piece_from"=some (.ref f))(mB:aQd K CS "book_up_to" fB)(bB:Binds K fdB aNw [])(GB:∀ (p:Int×Int) (L:List SK),FnOk P w K mg base CX0 7 fB fdB aNw (aNt (shZ K CS p L) 2<|aSt p L))(GW:CalleeE [.none] P w K mg base "wish_at" 6 6 aQt)(GS:bA P w K mg base "steps_at" 1 3 xM)(GP:bA P w K mg base "price_of" 1 2 aEn)(GF:bA P w K mg base "first_that_does" 5 3 aLx)(p:Int×Int)(L:List SK):lI P w K (shZ K CS p L) mg base "piece_from" 8 5 (CPf p L):=by
 have nd:nl11.Nodup:=by decide+kernel
 refine⟨f,fd,aSz,hm,F.kp,F.binds (λ_ _ _ _ _ _ us hl=>match us,hl with | [_,_,_,_,_],_=>rfl),aEd (Z:=shZ K CS p L) (N:=nl11) (ps:=aSz) (k:=7) F ⟨rfl,rfl,rfl,nd,rfl,by decide+kernel,by decide+kernel⟩ (λcdv A outer s H E B hB hr a ds d hl c=> ?_) aBK⟩;obtain⟨row,pl,mn,o,I,rfl,rfl⟩:=c;obtain⟨b,eb,Ib⟩:=I.bk;obtain⟨U,fu⟩:=Ib.few;have W:=aQZ Ib.hp Ib.st I.rw pl mn<|bxQ p.2.toNat o;have O:=tZ Ib.hp Ib.st fu;have rw1:∀t∈(row.drop pl).take mn,t<L.length:=λt ht=>I.rw t (eC<|dR ht)
 have rl1:((row.drop pl).take mn).length<=500:=by have:=I.rl;rw[dD,eX];omega
 unfold pcQ;rw[eb];have es:xU (sG L<|(row.drop pl).take mn)=(b:Int)+1:=by omega
 refine aG<|mP (ds:=(waQ p L row pl mn<|bxQ p.2.toNat o).map wsD) 5 (pdc (ds:=[bW p,lK L,tN row,.int (pl:Int),.int (mn:Int),lkD o]) GW.full hr (aC (vJ (d:=bW p) 0 rfl (pv 0) shT.cl shT.nZ rfl)<|aC (vJ (d:=lK L) 0 rfl (pv 0) shT.cl shT.nS rfl) (aC (pdv 1)<|aC (pdv 2) (aC (pdv 3)<|aC (pdv 4) aM))) ⟨p,L,row,pl,mn,o,Ib.hp,Ib.st,I.rw,I.rl,I.m1,I.le,I.lk,rfl,rfl⟩) λl5=>iI 5 rfl ?_;generalize waQ p L row pl mn (bxQ p.2.toNat o)=wi at W;refine aG<|iV (d:=.int<|(b:Int)+1) 6 (PEd.ic (pdc (ds:=[lK L,tN<|(row.drop pl).take mn]) GP hr (aC (vJ (d:=lK L) 0 rfl (pv 0) shT.cl shT.nS rfl)<|aC (pdc (ds:=[tN row,.int (pl:Int),.int (mn:Int)]) GS hr (aC (pdv 1) (aC (pdv 2)<|aC (pdv 3) aM)) ⟨row,pl,mn,rfl,rfl⟩) aM) ⟨L,_,rw1,rl1,rfl,rfl⟩) es) ?_;refine aG<|iV (d:=oeD (ftQ p wi<|bkQ p L (b:Int))) 7 (pdc (ds:=[bW p,.lst<|(bkQ p L (b:Int)).map enD,.lst<|wi.map wsD]) GF hr (aC (vJ (d:=bW p) 0 rfl (pv 0) shT.cl shT.nZ rfl) (aC (aJA (ds:=[.int (b:Int)]) (d:=.lst<|(bkQ p L (b:Int)).map enD) 0 rfl (pv 0) aNl shT.cl mB (GB p L) hr bB (aC (PEd.ic (eR lV (pdv 6) bV)<|by omega) aM) ⟨b,Ib,rfl,rfl⟩ rfl)<|aC (pdv 5) aM)) ⟨p,L,(b:Int),bkQ p L (b:Int),wi,Ib.hp,Ib.st,O,W,rfl,rfl⟩) ?_;cases hq:ftQ p wi (bkQ p L (b:Int)) with
 |none=>exact aQ<|sP 0 rfl (aEe (k:=true) (PTd.cast (vN (d:=.non) (pdv 7) iO) rfl) (λ_=>iO) λh=>by cases h) rfl
 |some e=>exact aQ<|sP 0 rfl (aEe (k:=false) (PTd.cast (vN (d:=enD e) (pdv 7) iO) rfl) (λh=>by cases h) λ_=>pdx (n:=1) (ds:=[.int e.1,tN e.2.1,.tup<|e.2.2.map bN])<|pdv 7) rfl
theorem aGo{CS fB:BJ}{fdB:AL}(F:FI K mg "piece_from" aEg)(shT:sJ K mg CS)(mB:aQd K CS "book_up_to" fB)(shB:Fun K "book_up_to" "Shelf.book_up_to" aNx fB fdB)(GO:bA P w K mg base "book_of" 6 3 aLn)(GW:CalleeE [.none] P w K mg base "wish_at" 6 6 aQt)(GS:bA P w K mg base "steps_at" 1 3 xM)(GP:bA P w K mg base "price_of" 1 2 aEn)(GF:bA P w K mg base "first_that_does" 5 3 aLx):∀ (p:Int×Int) (L:List SK),lI P w K (shZ K CS p L) mg base "piece_from" 8 5 (CPf p L):=by obtain⟨f,fd,hm,F⟩:=F;exact aDn F shT hm mB (shB.binds (ps:=aNw) λ_ _ _ _ _ _ us hl=>match us,hl with | [_,_],_=>rfl) (aPN shB shT GO) GW GS GP GF
abbrev aNr:List Str:=["self","size","stock"]
theorem aAm{C:BJ}(F:Fun K "__init__" "Shelf.__init__" aLg f fd)(T:sJ K mg C):FnOk P w K mg base CX0 1 f fd aNr (wZ C):=by
 refine F.ok (N:=aNr) ⟨rfl,rfl,rfl,by decide+kernel,rfl,by decide+kernel,by decide+kernel⟩ (λvs H Q E h=> ?_) λcdv A outer s H vs Q E hr h=> ?_
 ·obtain⟨x,dx,v1,v2,rfl,_⟩:=h;rfl
 ·obtain⟨x,dx,v1,v2,rfl,hx,k⟩:=h;refine⟨_,yG (aDW (pv 0) (pv 1) rfl)<|yG (aDW (pv 0) (pv 2) rfl) (aEO<|aDW (pv 0) aIa rfl), ?_⟩;refine⟨_,rfl,_,rfl,x,C,dx,[],rfl,hx,T.cl,T.nZ,(by show 0<1000;decide), ?_⟩;refine⟨_,rfl,_,rfl,x,C,dx,_,rfl,bL,T.cl,T.nS,(by show 1<1000;decide), ?_⟩;intro m hm
  have nxm:x≠m:=λz=>by subst z;rw[bL] at hm;cases hm
  refine⟨_,rfl,x,C,dx,_,rfl,(by rw[bD nxm,bL]),T.cl,T.nM,(by have:=mH "stock" v2<|nC "size" v1 [];have:=mH "size" v1 [];simp only[fJ] at this;omega), ?_⟩;rw[bD nxm.symm,bD nxm.symm] at hm;have q:=k m hm;rw[aIX];exact q
theorem aFM{CS fI:BJ}{fdI:AL}(F:aNK #[.none] K "piece_for" "piece_for" aLp f fd)(shT:sJ K mg CS)(shM:Mk K CS fI)(bI:Binds K fdI aNr [])(GI:FnOk P w K mg base CX0 1 fI fdI aNr (wZ CS))(hm:mg "piece_for"=some (.ref f))(GP:∀ (p:Int×Int) (L:List SK),lI P w K (shZ K CS p L) mg base "piece_from" 8 5<|CPf p L):CalleeE [.none] P w K mg base "piece_for" 9 6 aLv:=by
 have nd:nl7.Nodup:=by decide+kernel
 refine vI (N:=nl7) (ps:=nl7) (k:=8) F ⟨rfl,rfl,rfl,nd,rfl,by decide+kernel,by decide+kernel⟩ hm (λs T o nn _ _ _ _ _ _ us hT hS hl=>match us,hl with | [_,_,_,_,_,_],_=>BindsTo.of_defaults rfl hT hS rfl rfl) (λs T o nn _ _ _ _ _ _ us hT hS hl=>match us,hl with | [_,_,_,_,_],_=>BindsTo.of_defaults rfl hT hS rfl rfl) λcdv A outer s H E hr ds r hl c=> ?_
 obtain⟨p,L,row,pl,mn,o,I,rfl,rfl⟩:=c;exact aQ (iJ<|aGh (Z:=shZ K CS p L) (ds:=[tN row,.int (pl:Int),.int (mn:Int),lkD o]) [2,3,4,5] (aCJ JSh.nil shT shM GI bI (hr.mono<|by decide) rfl (aC (pdv 0)<|aC (pdv 1) aM)) (GP p L) hr rfl (dP (pv 2)<|dP (pv 3) (dP (pv 4)<|dP (pv 5) pa_nil)) rfl (λa=>⟨row,pl,mn,o,I,rfl,rfl⟩) rfl)
theorem aJl{CS fI:BJ}{fdI:AL}(F:FID K mg "piece_for" aLp)(shT:sJ K mg CS)(shM:Mk K CS fI)(shF:Fun K "__init__" "Shelf.__init__" aLg fI fdI)(GP:∀ (p:Int×Int) (L:List SK),lI P w K (shZ K CS p L) mg base "piece_from" 8 5<|CPf p L):CalleeE [.none] P w K mg base "piece_for" 9 6 aLv:=by obtain⟨f,fd,hm,F⟩:=F;exact aFM F shT shM (shF.binds (ps:=aNr) λ_ _ _ _ _ _ us hl=>match us,hl with | [_,_,_],_=>rfl) (aAm shF shT) hm GP
theorem aGT(F:FI K mg "with_change" aEW):bA P w K mg base "with_change" 1 2 aFv:=by
 refine cG (N:=["row","change","place"]) (ps:=["row","change"]) (k:=0) F λf nd cdv A outer s H E hr ds r hl c=> ?_
 obtain⟨row,c,hl9,rfl,rfl⟩:=c;refine aG<|iV (d:=.int (c.1:Int)) 2 (pdx (n:=0) (ds:=[.int (c.1:Int),.int (c.2.1:Int),.tup<|bG c.2.2])<|pdv 1) ?_;refine aQ<|cO (PEd.cast (kO (kO (aCA (k:=c.1) (pdv 0)<|pdv 2) (pdx (n:=2) (ds:=[.int (c.1:Int),.int (c.2.1:Int),.tup<|bG c.2.2])<|pdv 1) ?_) (yB (k:=c.1+c.2.1) (pdv 0) (PEd.ic (eR fU (pdv 2) (pdx (n:=1) (ds:=[.int (c.1:Int),.int (c.2.1:Int),.tup<|bG c.2.2])<|pdv 1))<|by push_cast;rfl)) ?_) ?_) trivial rfl
 ·unfold bG;rw[dD,aB,aB];omega
 ·unfold bG;rw[aP,dD,eX,aB,aB];omega
 ·unfold wcQ bG;rw[aZ,aZ,gC,gD]
abbrev nl14:List Str:=["shelf","row","looked","width","many","place","piece"]
abbrev aPW:List Str:=["shelf","row","looked","width"]
theorem aMQ{CS:BJ}(F:FI K mg "first_change" sFc)(zrange:mg "range"=none)(zlen:mg "len"=none)(GP:∀ (p:Int×Int) (L:List SK),lI P w K (shZ K CS p L) mg base "piece_from" 8 5<|CPf p L)(p:Int×Int)(L:List SK):lI P w K (shZ K CS p L) mg base "first_change" 9 4 (CFc p L):=by
 obtain⟨f,fd,hm,F⟩:=F;have nd:nl14.Nodup:=by decide+kernel
 refine⟨f,fd,aPW,hm,F.kp,F.binds (λ_ _ _ _ _ _ us hl=>match us,hl with | [_,_,_,_],_=>rfl),aEd (Z:=shZ K CS p L) (N:=nl14) (ps:=aPW) (k:=8) F ⟨rfl,rfl,rfl,nd,rfl,by decide+kernel,by decide+kernel⟩ (λcdv A outer s H E B hB hr a ds d hl c=> ?_) aBK⟩;obtain⟨row,o,w,I,hw,rfl,rfl⟩:=c
 have rl:row.length<=120:=by have:=nK I.k.st I.rw;have:=I.pr;omega
 have ew:((w:Int)+1-1).toNat=w:=by omega
 refine aG<|iR (ds:=fC 1 ((w:Int)+1-1).toNat) (λm sd=>(∀j,j<m->fcM p L row (bxQ p.2.toNat o) j=none)/\sd=[(shZ K CS p L).sl a,.val<|tN row,.val<|lkD o,.val<|.int (w:Int),.un,.un,.un]) (xF rfl zrange bV (eR fU (pdv 3) bV) ⟨by decide,by decide⟩ ⟨by omega,by omega⟩) ⟨_,Le.refl _,λj hj=>absurd hj<|aPS _,rfl⟩ (λm d sdk hd hk=> ?_) λsdn hn=> ?_
 ·obtain⟨hmw,rfl⟩:=fA hd;obtain⟨none1,rfl⟩:=hk;rw[ew] at hmw;have em:1+(m:Int)=((m+1:Nat):Int):=by omega
  rw[em];refine⟨_,pgN 4, ?_⟩;have er:((row.length:Int)-((m+1:Nat):Int)+1).toNat=row.length-m:=by omega
  refine aQ<|iR (ds:=fC 0 ((row.length:Int)-((m+1:Nat):Int)+1).toNat) (λt sd=>(∀j,j<t->fcP p L row (bxQ p.2.toNat o) m j=none)/\sd=[(shZ K CS p L).sl a,.val<|tN row,.val<|lkD o,.val<|.int (w:Int),.val<|.int ((m+1:Nat):Int),.un,.un]) (aDo rfl zrange (eR fU (eR lV (PEd.ic (vX rfl zlen<|pdv 1)<|by rw[show(bG row).length=row.length from aB _])<|pdv 4) bV) ⟨by omega,by omega⟩) ⟨_,Le.refl _,λj hj=>absurd hj<|aPS _,rfl⟩ (λt d sdk hd hk=> ?_) λsdn hn=> ?_
  ·obtain⟨ht,rfl⟩:=fA hd;obtain⟨none2,rfl⟩:=hk;rw[er] at ht;rw[jH];refine⟨_,pgN 5, ?_⟩;refine aG<|iV (d:=pfD (pcQ p L row t (m+1)<|bxQ p.2.toNat o)) 6 (wN (ds:=[tN row,.int (t:Int),.int ((m+1:Nat):Int),lkD o]) 0 rfl (pv 0) (GP p L) hr rfl (aC (pdv 1)<|aC (pdv 5) (aC (pdv 4)<|aC (pdv 2) aM)) ⟨row,t,m+1,o,I.pc (by omega) hmw<|by omega,rfl,rfl⟩ rfl) ?_;cases hq:pcQ p L row t (m+1) (bxQ p.2.toNat o) with
   |none=>
    refine aQ (dX (k:=false) (PTd.cast (lR (d:=.non) (pdv 6) iO) rfl) rfl<|cI ⟨[(shZ K CS p L).sl a,.val<|tN row,.val<|lkD o,.val<|.int (w:Int),.val<|.int ((m+1:Nat):Int),.un,.un],lA,λj hj=> ?_,rfl⟩)
    by_cases e:j<t
    ·exact none2 j e
    ·have:j=t:=by omega
     subst this;unfold fcP;rw[hq];rfl
   |some e=>have ef:fcQ p L (bxQ p.2.toNat o) w row=some (t,m+1,e.2.1):=aBg hmw none1 (aBg ht none2<|by unfold fcP;rw[hq];rfl);rw[ef];exact aQ<|gS (k:=true) (PTd.cast (lR (d:=tN e.2.1) (pdv 6) iO) rfl) rfl (aQ<|sP 0 rfl (pdT (ds:=[.int (t:Int),.int ((m+1:Nat):Int),tN e.2.1])<|aC (pdv 5) (aC (pdv 4)<|aC (pdv 6) aM)) rfl)
  ·obtain⟨none2,rfl⟩:=hn;rw[eU,er] at none2;refine⟨[(shZ K CS p L).sl a,.val<|tN row,.val<|lkD o,.val<|.int (w:Int),.un,.un,.un],lA,λj hj=> ?_,rfl⟩
   by_cases e:j<m
   ·exact none1 j e
   ·have:j=m:=by omega
    subst this;exact aEZ none2
 ·obtain⟨none1,rfl⟩:=hn;rw[eU,ew] at none1;rw[show fcQ p L (bxQ p.2.toNat o) w row=none from aEZ none1];exact aQ<|sP 0 rfl iO rfl
abbrev nl16:List Str:=["shelf","row","looked","width","made","changes","change"]
theorem aLQ{CS:BJ}(F:FI K mg "cheaper_from" sCf)(GC:∀ (p:Int×Int) (L:List SK),lI P w K (shZ K CS p L) mg base "first_change" 9 4<|CFc p L)(GW:bA P w K mg base "with_change" 1 2 aFv)(p:Int×Int)(L:List SK):aAQ P w K (shZ K CS p L) mg base "cheaper_from" 10 4 (CCf p L):=by
 obtain⟨f,fd,hm,F⟩:=F;have nd:nl16.Nodup:=by decide+kernel
 refine⟨f,fd,aPW,hm,F.kp,F.binds (λ_ _ _ _ _ _ us hl=>match us,hl with | [_,_,_,_],_=>rfl),aKs (Z:=shZ K CS p L) (N:=nl16) (ps:=aPW) (k:=9) F ⟨rfl,rfl,rfl,nd,rfl,by decide+kernel,by decide+kernel⟩ (λcdv A outer s H E B hB hr a ds r hl c=> ?_) aBK⟩;obtain⟨row,o,w,I,hw,rfl,rfl⟩:=c;have S0:=McSt.start I<|bxQ p.2.toNat o;generalize mcQ p L (bxQ p.2.toNat o) w row=fin at S0;refine aG<|iV (d:=tN row) 4 (pdv 1) ?_;refine aG<|mP (ds:=[]) 5 (pA (ds:=[]) aM<|cD _) λl5=> ?_;refine aG<|iV (d:=ocD<|fcQ p L (bxQ p.2.toNat o) w row) 6 (wN (ds:=[tN row,lkD o,.int (w:Int)]) 0 rfl (pv 0) (GC p L) hr rfl (aC (pdv 4) (aC (pdv 2)<|aC (pdv 3) aM)) ⟨row,o,w,I,hw,rfl,rfl⟩ rfl) ?_;refine aG<|aAg (λn sd=>∃r cs,McSt p L o (bxQ p.2.toNat o) w fin n r cs/\sd=[(shZ K CS p L).sl a,.val<|tN row,.val<|lkD o,.val<|.int (w:Int),.val<|tN r,.own l5<|cs.map chD,.val (ocD<|fcQ p L (bxQ p.2.toNat o) w r)]) ⟨120,_,Le.refl _,row,[],S0,rfl⟩ λn sdn hn=> ?_;obtain⟨r,cs,S,rfl⟩:=hn;have le:=S.le;cases hq:fcQ p L (bxQ p.2.toNat o) w r with
 |none=>have e:=S.fin;rw[nN hq] at e;subst e;exact⟨false,PTd.cast (lR (d:=.non) (pdv 6) iO) rfl,λ_=>aQ<|aGu 0 5 (by decide) rfl rfl (pv 5) (pdv 4) rfl,λh=>by cases h⟩
 |some c=>
  refine⟨true,PTd.cast (lR (d:=chD c) (pdv 6) iO) rfl,(λh=>by cases h),λ_=> ?_⟩;obtain⟨q1,q2,q3,q4⟩:=sK S.I hq
  have rl:r.length<=120:=by have:=nK S.I.k.st S.I.rw;have:=S.I.pr;omega
  obtain⟨m,hm,S2⟩:=S.next hq;refine aG<|nV (d:=chD c) 5 rfl (pv 5) (pdv 6) (by rw[aB];omega) ?_;refine aG<|iV (d:=tN<|wcQ r c) 4 (pdc (ds:=[tN r,chD c]) GW hr (aC (pdv 4)<|aC (pdv 6) aM) ⟨r,c,by omega,rfl,rfl⟩) ?_;refine aQ<|iV (d:=ocD (fcQ p L (bxQ p.2.toNat o) w<|wcQ r c)) 6 (wN (ds:=[tN<|wcQ r c,lkD o,.int (w:Int)]) 0 rfl (pv 0) (GC p L) hr rfl (aC (pdv 4) (aC (pdv 2)<|aC (pdv 3) aM)) ⟨wcQ r c,o,w,S2.I,hw,rfl,rfl⟩ rfl) ⟨m,_,hm,Le.refl _,wcQ r c,cs++[c],S2,by rw[aZ];rfl⟩
abbrev nl17:List Str:=["size","stock","row","looked","width"]
theorem aMo{CS fI:BJ}{fdI:AL}(F:FIE K mg "made_cheaper" sMc)(shT:sJ K mg CS)(shM:Mk K CS fI)(shF:Fun K "__init__" "Shelf.__init__" aLg fI fdI)(GC:∀ (p:Int×Int) (L:List SK),aAQ P w K (shZ K CS p L) mg base "cheaper_from" 10 4<|CCf p L):bA P w K mg base "made_cheaper" 11 5 CMc:=by
 obtain⟨tk,f,fd,hm,F⟩:=F;have nd:nl17.Nodup:=by decide+kernel
 have bI:=shF.binds (ps:=aNr) λ_ _ _ _ _ _ us hl=>match us,hl with | [_,_,_],_=>rfl
 refine CalleeE.full (xs:=[.none,.int 2 tk]) ?_;refine vI (N:=nl17) (ps:=nl17) (k:=10) F ⟨rfl,rfl,rfl,nd,rfl,by decide+kernel,by decide+kernel⟩ hm (λs T o nn _ _ _ _ _ _ us hT hS hl=>match us,hl with | [_,_,_,_,_],_=>BindsTo.of_defaults rfl hT hS rfl rfl) (λs T o nn _ _ _ _ _ _ us hT hS hl=>match us,hl with | [_,_,_],_=>BindsTo.of_defaults rfl hT hS rfl rfl) λcdv A outer s H E hr ds r hl c=> ?_
 obtain⟨p,L,row,o,w,I,hw,rfl,rfl⟩:=c;exact aQ (iJ<|aAk (Z:=shZ K CS p L) (ds:=[tN row,lkD o,.int (w:Int)]) [2,3,4] (aCJ JSh.nil shT shM (aAm shF shT) bI (hr.mono<|by decide) rfl (aC (pdv 0)<|aC (pdv 1) aM)) (GC p L) hr rfl (dP (pv 2) (dP (pv 3)<|dP (pv 4) pa_nil)) rfl (λa=>⟨row,o,w,I,hw,rfl,rfl⟩) trivial rfl)
theorem aJh(F:FI K mg "boxes_read" aJV)(zsorted:mg "sorted"=none)(zset:mg "set"=none):bA P w K mg base "boxes_read" 1 1 CRd:=by
 refine cG (N:=["step"]) (ps:=["step"]) (k:=0) F λf nd cdv A outer s H E hr ds r hl c=> ?_
 obtain⟨⟨k,i,j,n⟩,k10,hi,hj,rfl,rfl⟩:=c;simp only at k10 hi hj;show PSd _ (init _ [gI k i j n]) _ {nx:=λ_=>R.own (bG<|rdQ (k,i,j,n))=.val .non,rt:=λr'=>r'=.own (bG<|rdQ (k,i,j,n))}
 by_cases k6:k=6
 ·subst k6;have es:gI 6 i j n=.tup [.str<|nm 6,.int i,.int n]:=rfl;rw[es];refine aG<|gS (cR (pdx (n:=0)<|pdv 0) dI rfl rfl rfl<|mQ 6 k10) rfl ?_;exact aQ<|iJ (pA (ds:=[]) aM<|cD _)
 by_cases k5:k=5
 ·subst k5;have es:gI 5 i j n=.tup [.str<|nm 5,.int i,.int j]:=rfl;rw[es];refine aG (dX (cR (pdx (n:=0)<|pdv 0) dI rfl rfl rfl<|mQ 5 k10) rfl<|cI ?_);refine aG<|gS (cR (pdx (n:=0)<|pdv 0) dI rfl rfl rfl<|aBn 5 k10) rfl ?_;refine aQ<|cO (pdL (ds:=[.int j])<|aC (pdx (n:=2)<|pdv 0) aM) trivial ?_;show R.own [.int j]=R.own [.int ((j.toNat:Nat):Int)];rw[mC hj.1]
 obtain⟨i',rfl⟩:∃i':Nat,i=(i':Int):=⟨i.toNat,by omega⟩;obtain⟨j',rfl⟩:∃j':Nat,j=(j':Int):=⟨j.toNat,by omega⟩
 by_cases k7:7<=k
 ·have es:gI k i' j' n=.tup [.str<|nm k,.int i']:=by unfold gI;rw[if_neg<|by omega,if_neg k6]
  have er:rdQ (k,(i':Int),(j':Int),n)=fH [] [i']:=by simp[rdQ,k6,k5,k7,fH,iY]
  rw[es,er];refine aG (dX (cR (pdx (n:=0)<|pdv 0) dI rfl rfl rfl<|mQ k k10) (by simp[k6])<|cI ?_);refine aG (dX (cR (pdx (n:=0)<|pdv 0) dI rfl rfl rfl<|aBn k k10) (by simp[k5])<|cI ?_);have sl:∀ {X:Cx}{sd:List Slot}{a b:Expr}{p1 p2:Pos},PEd X sd a (.val<|.tup [.str<|nm k,.int i'])->PEd X sd b (.val<|.int 1)->PEd X sd (.Subscript a (.Slice (some b) none none p1) p2) (.val (.tup<|[i'].map λ(k:Nat)=>D.int (k:Int))):=λha hb=>mO (ol:=some 1) (oh:=none) ha hb trivial (by simp[HT.sIx])
  exact aQ (iJ (wY (vs:=[i']) rfl zsorted rfl zset (sl (pdv 0) bV) (fun v hv=>by
   have:v=i':=by simpa using hv
   omega)))
 have es:gI k i' j' n=.tup [.str<|nm k,.int i',.int j']:=by unfold gI;rw[if_pos<|by omega]
 have er:rdQ (k,(i':Int),(j':Int),n)=fH [] [i',j']:=by simp[rdQ,k6,k5,k7]
 rw[es,er];refine aG (dX (cR (pdx (n:=0)<|pdv 0) dI rfl rfl rfl<|mQ k k10) (by simp[k6])<|cI ?_);refine aG (dX (cR (pdx (n:=0)<|pdv 0) dI rfl rfl rfl<|aBn k k10) (by simp[k5])<|cI ?_);have sl:∀ {X:Cx}{sd:List Slot}{a b:Expr}{p1 p2:Pos},PEd X sd a (.val<|.tup [.str<|nm k,.int i',.int j'])->PEd X sd b (.val<|.int 1)->PEd X sd (.Subscript a (.Slice (some b) none none p1) p2) (.val (.tup<|[i',j'].map λ(k:Nat)=>D.int (k:Int))):=λha hb=>mO (ol:=some 1) (oh:=none) ha hb trivial (by simp[HT.sIx])
 refine aQ (iJ<|wY (vs:=[i',j']) rfl zsorted rfl zset (sl (pdv 0) bV) λv hv=> ?_)
 rcases aU.mp hv with rfl|hv
 ·omega
 ·have:v=j':=by simpa using hv
  omega
theorem zR(bs:List Nat):bG bs=(bs.map λ(t:Nat)=>(t:Int)).map D.int:=by unfold bG;rw[aN];rfl
theorem aKN(a:Nat)(bs:List Nat):inV (.int ((a:Nat):Int)) ((bs.map λ(t:Nat)=>(t:Int)).map V.int)=bs.contains a:=by
 rw[aMx]
 by_cases h:a∈bs
 ·rw[decide_eq_true<|aJ.mpr ⟨a,h,rfl⟩];exact(kX.mpr h).symm
 ·have h2:¬ ((a:Nat):Int)∈bs.map λ(t:Nat)=>(t:Int):=λz=>by
   obtain⟨t,ht,e⟩:=aJ.mp z;have:t=a:=by omega
   exact h<|this▸ht
  rw[decide_eq_false h2];cases q:bs.contains a with
  |false=>rfl
  |true=>exact absurd (kX.mp q) h
theorem aGg(F:FI K mg "boxes_ahead" aBr)(zlist:mg "list"=none)(zsorted:mg "sorted"=none)(zset:mg "set"=none)(GB:bA P w K mg base "written_box" 1 1 wO)(GR:bA P w K mg base "boxes_read" 1 1 CRd):bA P w K mg base "boxes_ahead" 2 2 aKI:=by
 refine cG (N:=["step","behind","box"]) (ps:=["step","behind"]) (k:=1) F λf nd cdv A outer s H E hr ds r hl c=> ?_
 obtain⟨q,bs,k10,hi,hj,hb,hbs,rfl,rfl⟩:=c;have nd2:(["other","box"]:List Str).Nodup:=by decide+kernel
 refine aG<|iV (d:=.int ((q.2.1.toNat:Nat):Int)) 2 (PEd.ic (pdc (ds:=[sqD q]) GB hr (aC (pdv 0) aM) ⟨_,_,_,_,rfl,rfl⟩)<|by omega) ?_;refine aG<|fY (k:= !bs.contains q.2.1.toNat) (PTd.cast (aCz (ns:=bs.map λ(t:Nat)=>(t:Int)) (pdv 2) (PEd.cast (pdv 1)<|by rw[zR]))<|by rw[aKN]) (λh=> ?_) λh=>cI ?_
 ·have h':bs.contains q.2.1.toNat=false:=by simpa using h
  refine aQ<|cO (yF rfl zlist (PEd.bor<|pdv 1)) trivial ?_;unfold ahQ;rw[h'];rfl
 ·have h':bs.contains q.2.1.toNat=true:=by simpa using h
  have rdl:(rdQ q).length<=6:=by
   unfold rdQ
   split
   ·simp
   ·split
    ·simp
    ·split
     ·simp
     ·exact (pY (mK nY fun v hv=>by
       simp only[aU,dO,or_false] at hv
       rcases hv with rfl|rfl<;>omega)).1
  refine aQ<|cO (aBC (vs:=bs.filter (λb=> !decide (b=q.2.1.toNat))++rdQ q) rfl zsorted rfl zset (PEd.bor (PEd.val<|PEd.cast (aFj (PEd.bor (PEd.val<|PEd.cast (pdC (ds:=bG bs) (N:=["other","box"]) (M:=["step","behind","box"]) (cap:=[none,some 2]) (sc:=bK aBr) (Tb:=λd=>[.val d,.val<|.int ((q.2.1.toNat:Nat):Int)]) (λd=>match d with | .int b=> !decide (b=((q.2.1.toNat:Nat):Int))|_=>true) (λd=>d) (fV<|pdv 1) (by unfold bG;rw[aB];omega) (λcl C fp s H d hd=> ?_) λcl C fp s H d hd _=>(pdv 0)) (?_:_=R.own (bG<|bs.filter λb=> !decide (b=q.2.1.toNat))))) (PEd.bor (PEd.val<|pdc (ds:=[sqD q]) GR hr (aC (pdv 0) aM) ⟨q,k10,hi,hj,rfl,rfl⟩)) ?_) (?_:_=R.own ((bs.filter (λb=> !decide (b=q.2.1.toNat))++rdQ q).map λ(k:Nat)=>D.int (k:Int))))) λv hv=> ?_) trivial ?_
  ·obtain⟨b,_,rfl⟩:=aJ.mp hd;exact .inr ⟨_,rfl,aLK (pdv 0)<|pdv 1⟩
  ·congr 1;unfold bG;rw[aRU,aNE];congr 1;refine uX λb _=> ?_
   show(!decide (((b:Nat):Int)=((q.2.1.toNat:Nat):Int)))= !decide (b=q.2.1.toNat);congr 1;exact decide_eq_decide.mpr ⟨λz=>by omega,λz=>by rw[z]⟩
  ·unfold bG;rw[aB,aB];have:=fO (λb=> !decide (b=q.2.1.toNat)) bs;omega
  ·unfold bG;rw[aZ]
  ·rcases bC.mp hv with hv|hv
   ·exact hbs v (cS.mp hv).1
   ·unfold rdQ at hv
    split at hv
    ·cases hv
    ·split at hv
     ·rw[aF.mp hv];omega
     ·split at hv
      ·rw[aF.mp hv];omega
      ·rw[lH] at hv;simp only[dO,aU,or_false,false_or] at hv
       rcases hv with rfl|rfl<;>omega
  ·unfold ahQ;rw[h'];rfl
theorem aFU{α:Type}(g:Nat->α)(n:Nat):((aW<|n+1).map λs=>g<|n-s).reverse=(aW<|n+1).map g:=by
 apply gZ
 ·simp
 intro i h1 h2;have hi:i<n+1:=by simpa using h2
 rw[List.getElem_reverse];simp only[aB,dE,fQ,tK];congr 1;omega
theorem aMf(L:List SK)(look row:List Nat){t:Nat}(h:t<row.length):bqQ L look (row.drop t)=ahQ (L.getD (row.getD t 0) AG).1 (bqQ L look (row.drop<|t+1)):=by
 rw[fN h];show ahQ (L.getD row[t] AG).1 _=_;have:row.getD t 0=row[t]:=by simp[bF,h]
 rw[this]
abbrev nl18:List Str:=["size","stock","row","looked","told","number"]
theorem aGI(F:FID K mg "boxes_later" aFJ)(zlist:mg "list"=none)(zreversed:mg "reversed"=none)(GB:bA P w K mg base "boxes_looked_at" 1 2 aEc)(GA:bA P w K mg base "boxes_ahead" 2 2 aKI):CalleeE [.none] P w K mg base "boxes_later" 3 4 aJZ:=by
 obtain⟨f,fd,hm,F⟩:=F;have nd:nl18.Nodup:=by decide+kernel
 refine vI (N:=nl18) (ps:=["size","stock","row","looked"]) (k:=2) F ⟨rfl,rfl,rfl,nd,rfl,by decide+kernel,by decide+kernel⟩ hm (λs T o nn _ _ _ _ _ _ us hT hS hl=>match us,hl with | [_,_,_,_],_=>BindsTo.of_defaults rfl hT hS rfl rfl) (λs T o nn _ _ _ _ _ _ us hT hS hl=>match us,hl with | [_,_,_],_=>BindsTo.of_defaults rfl hT hS rfl rfl) λcdv A outer s H E hr ds r hl c=> ?_
 obtain⟨p,L,row,o,hp,S,hrow,hl2,hlk,rfl,rfl⟩:=c;obtain⟨h1,h2,h3,h4,h5⟩:=pE p hp;obtain⟨lkl,lkb⟩:(bxQ p.2.toNat o).length<=100/\∀b∈bxQ p.2.toNat o,b<p.2.toNat:=aOv hp hlk;refine aG<|mP (ds:=lsD [bxQ p.2.toNat o]) 4 (pdL (ds:=[.lst (bG<|bxQ p.2.toNat o)])<|aC (PEd.val<|pdc (ds:=[bW p,lkD o]) GB hr (aC (pdv 0)<|aC (pdv 3) aM) ⟨p,o,hp,rfl,rfl⟩) aM) λl4=> ?_;generalize bxQ p.2.toNat o=look at lkl lkb;have bl:∀t,(bqQ L look<|row.drop t).length<=100/\∀b∈bqQ L look (row.drop t),b<p.2.toNat:=λt=>aJL hp S lkl lkb (row.drop t) λu hu=>hrow u<|eC hu
 refine aG<|jX (ds:=bG row.reverse) (λt=>(s4 p L row o [.own l4 (lsD<|(aW<|t+1).map λs=>bqQ L look (row.drop<|row.length-s)),.un])) (λt=>(s4 p L row o [.own l4 (lsD<|(aW<|t+1).map λs=>bqQ L look (row.drop<|row.length-s)),.val<|.int ((row.reverse.getD t 0:Nat):Int)])) (aJt rfl zreversed (pdv 2)<|by unfold bG;rw[<-aNo]) ⟨.inr rfl,.inr rfl,.inr rfl,.inr rfl,.inr ?_,.inr rfl,trivial⟩ (λt d hd=> ?_) (λt d hd=> ?_) ?_
 ·show Slot.own l4 (lsD [look])=Slot.own l4 (lsD [bqQ L look (row.drop<|row.length-0)]);rw[Nat.sub_zero,vZ];rfl
 ·obtain⟨_,rfl⟩:=pP hd;exact pgN 5
 ·obtain⟨ht,rfl⟩:=pP hd;rw[fZ] at ht
  have hx:row.reverse.getD t 0=row.getD (row.length-1-t) 0:=by simp only[bF];rw[qA<|by omega]
  rw[hx];have hlt:row.length-1-t<row.length:=by omega
  have hn:=hrow (row.getD (row.length-1-t) 0)<|DL.getD_mem hlt;have O:=(S.st _<|DL.getD_mem (d:=AG) hn).1;have i0:=O.i0;have j0:=O.j0;have bd:=aMf L look row hlt;have e1:row.length-1-t+1=row.length-t:=by omega
  rw[e1] at bd;have b1:=bl<|row.length-t
  have el:lsD ((aW<|t+1).map λs=>bqQ L look (row.drop<|row.length-s))=lsD ((aW t).map λs=>bqQ L look (row.drop<|row.length-s))++[.lst (bG<|bqQ L look (row.drop<|row.length-t))]:=by unfold lsD;rw[pF,aZ,aZ];rfl
  refine aQ<|nV (d:=.lst (bG<|bqQ L look (row.drop<|row.length-1-t))) 4 rfl (pv 4) (PEd.val<|pdc (ds:=[sqD (L.getD (row.getD (row.length-1-t) 0) AG).1,.lst (bG<|bqQ L look (row.drop<|row.length-t))]) GA hr (aC (pdx (n:=0) (ds:=[sqD (L.getD (row.getD (row.length-1-t) 0) AG).1,.int (L.getD (row.getD (row.length-1-t) 0) AG).2])<|jK (PEd.bor<|pdv 1) (pdv 5) (uB hn) λ_ _=>rfl)<|aC (aNe (i:= -1) (mF 4 rfl<|pv 4) (aPA bV) (by rw[el];exact aHU _ _) λ_ _=>rfl) aM) ⟨_,_,O.k10,⟨i0.1,by omega⟩,⟨j0.1,by omega⟩,b1.1,λb hb=>by have:=b1.2 b hb;omega,rfl,by rw[bd]⟩) ?_ ?_
  ·unfold lsD;rw[aB,aB,dE];omega
  ·refine⟨.inr rfl,.inr rfl,.inr rfl,.inr rfl,.inr ?_,.inl rfl,trivial⟩;show Slot.own l4 (lsD _++_)=Slot.own l4 (lsD<|(aW<|t+1+1).map _);rw[pF (n:=t+1),aZ];unfold lsD;rw[aZ];show Slot.own l4 (_++[D.lst (bG<|bqQ L look (row.drop<|row.length-1-t))])=Slot.own l4 (_++[D.lst (bG<|bqQ L look (row.drop<|row.length-(t+1)))]);rw[show row.length-1-t=row.length-(t+1) by omega]
 ·rw[show(bG row.reverse).length=row.length by unfold bG;rw[aB,fZ]];refine aQ<|cO (aDa rfl zlist rfl zreversed (mF 4 rfl<|pv 4)<|by unfold lsD;rw[aB,aB,dE];omega) trivial ?_;unfold lsD ltQ;rw[<-aNo,aFU (λi=>bqQ L look<|row.drop i)]
theorem aIZ(F:FI K mg "turned_step" aEm)(ztuple:mg "tuple"=none):bA P w K mg base "turned_step" 1 2 aKf:=by
 refine cG (N:=["turn","step"]) (ps:=["turn","step"]) (k:=0) F λf nd cdv A outer s H E hr ds r hl c=> ?_
 obtain⟨n,τ,⟨k,i,j,m⟩,tl,⟨k10,hi,hj⟩,rfl,rfl⟩:=c;simp only at k10 hi hj;have ai:(bG τ)[i.toNat]? =some (.int ((τ.getD i.toNat 0:Nat):Int)):=qX (by omega);have aj:(bG τ)[j.toNat]? =some (.int ((τ.getD j.toNat 0:Nat):Int)):=qX (by omega);have nd2:(["box","turn"]:List Str).Nodup:=by decide+kernel
 by_cases k6:k=6
 ·subst k6;refine aG<|gS (cR (pdx (n:=0) (ds:=[.str<|nm 6,.int i,.int m])<|pdv 1) dI rfl rfl rfl<|mQ 6 k10) rfl ?_;exact aQ<|iJ (pdT (ds:=[.str "put",.int ((τ.getD i.toNat 0:Nat):Int),.int m])<|aC dI (aC (lG (i:=i) (pdv 0) (pdx (n:=1) (ds:=[.str<|nm 6,.int i,.int m])<|pdv 1) hi.1 ai λ_ _=>rfl)<|aC (pdx (n:=2) (ds:=[.str<|nm 6,.int i,.int m])<|pdv 1) aM))
 ·obtain⟨is,e,il,er,hb⟩:∃is:List Int,sqD (k,i,j,m)=.tup (.str (nm k)::is.map D.int)/\is.length<=2/\sqD (tsQ τ (k,i,j,m))=.tup (.str (nm k)::(is.map λz=>((τ.getD z.toNat 0:Nat):Int)).map D.int)/\∀z∈is,0<=z/\z<(n:Int):=by
   show ∃is:List Int,gI k i j m=_/\_/\gI k _ _ _=_/\_;unfold gI
   by_cases h:k<6
   ·rw[if_pos h,if_pos h];refine⟨[i,j],rfl,by simp,rfl,λz hz=> ?_⟩;simp only[aU,dO,or_false] at hz
    rcases hz with rfl|rfl
    ·exact hi
    ·exact hj
   ·rw[if_neg h,if_neg k6,if_neg h,if_neg k6];refine⟨[i],rfl,by simp,rfl,λz hz=> ?_⟩;simp only[aU,dO,or_false] at hz;rw[hz];exact hi
  rw[e,er];refine aG (dX (cR (pdx (n:=0)<|pdv 1) dI rfl rfl rfl<|mQ k k10) (by simp[k6])<|cI ?_);refine aQ<|cO (PEd.cast (kO (pdT (ds:=[.str<|nm k])<|aC (pdx (n:=0)<|pdv 1) aM) (iU rfl ztuple<|PEd.bor (PEd.val<|PEd.cast (pdC (ds:=is.map D.int) (N:=["box","turn"]) (M:=["turn","step"]) (cap:=[none,some 0]) (sc:=bK aEm) (Tb:=λd=>[.val d,.val<|tN τ]) (λ_=>true) (λd=>match d with | .int b=>D.int ((τ.getD b.toNat 0:Nat):Int)|_=>.non) (lE (PEd.cast (mO (ol:=some 1) (oh:=none) (pdv 1) bV trivial<|by simp[HT.sIx])<|by rw[aIp])) (by rw[aB];omega) (λcl C fp s H d hd=>.inl ⟨rfl,rfl⟩) λcl C fp s H d hd _=> ?_) (?_:_=R.own ((is.map λz=>((τ.getD z.toNat 0:Nat):Int)).map D.int)))) ?_) rfl) trivial rfl
  ·obtain⟨z,hz,rfl⟩:=aJ.mp hd;have hz2:=hb z hz;exact lG (i:=z) (d:=.int ((τ.getD z.toNat 0:Nat):Int)) (pdv 1) (pdv 0) hz2.1 (qX<|by omega) λ_ _=>rfl
  ·rw[bS.mpr λ_ _=>rfl,aN,aN];rfl
  ·simp only[aB,bP,fJ];omega
theorem aGj(F:FI K mg "turned_stock" aBc)(GT:bA P w K mg base "turned_step" 1 2 aKf):bA P w K mg base "turned_stock" 2 2 aFE:=by
 refine cG (N:=["turn","stock"]) (ps:=["turn","stock"]) (k:=1) F λf nd cdv A outer s H E hr ds r hl c=> ?_
 obtain⟨n,τ,L,tl,hl2,hL,rfl,rfl⟩:=c;have nd2:(["step","price","turn"]:List Str).Nodup:=by decide+kernel
 refine aQ<|cO (PEd.cast (kP (ds:=L.map skD) (N:=["step","price","turn"]) (M:=["turn","stock"]) (cap:=[none,none,some 0]) (sc:=bK aBc) (Tb:=λd=>aSq d [.val<|tN τ]) (λ_=>true) (tkD τ) (fV<|pdv 1) (by rw[aB];omega) rfl (by decide+kernel) rfl (by decide+kernel) rfl (λcl C fp s H d hd=> ?_) (λd hd=> ?_) (λcl C fp s H d hd=>.inl ⟨rfl,rfl⟩) λcl C fp s H d hd _=> ?_) ?_) trivial rfl
 ·obtain⟨s,_,rfl⟩:=aJ.mp hd;exact kN (js:=[0,1]) rfl (eI (pgn 0)<|eI (pgn 1) kM) rfl rfl
 ·obtain⟨s,_,rfl⟩:=aJ.mp hd;exact lA
 ·obtain⟨s,hs,rfl⟩:=aJ.mp hd;have O:=hL s hs;rw[aKR τ O.k10];exact pdT (ds:=[sqD<|tsQ τ s.1,.int s.2]) (aC (pdc (ds:=[tN τ,sqD s.1]) GT hr (aC (pdv 2)<|aC (pdv 0) aM) ⟨n,τ,s.1,tl,O,rfl,rfl⟩)<|aC (pdv 1) aM)
 ·rw[bS.mpr λ_ _=>rfl,aFp τ L λs hs=>(hL s hs).k10]
def aOm:List D->R->Prop:=λds r=>∃n τ look,TurnOk n τ/\n<=6/\look.Nodup/\look.length<=6/\(∀b∈look,b<n)/\ds=[.tup<|bG τ,.lst<|bG look]/\r=.own (bG<|tbx n τ look)
theorem aMF{n:Nat}{τ look:List Nat}(T:TurnOk n τ)(nd:look.Nodup)(h:∀b∈look,b<n):(tbx n τ look).Perm (look.map λb=>τ.getD b 0):=by
 have inj:∀a∈look,∀b∈look,τ.getD a 0=τ.getD b 0->a=b:=λa ha b hb e=>by rw[<-T.idx (h a ha),<-T.idx (h b hb),e]
 have nd2:(look.map λb=>τ.getD b 0).Nodup:=gP.mpr<|List.Pairwise.imp_of_mem (λha hb ne e=>ne<|inj _ ha _ hb e) nd;refine(List.perm_ext_iff_of_nodup (List.Pairwise.filter _ gY) nd2).mpr λx=> ?_
 rw[cS,bE,kX,aJ]
 constructor
 ·rintro⟨h1,h2⟩;exact⟨_,h2,T.get_idx h1⟩
 ·rintro⟨b,hb,rfl⟩;exact⟨T.at<|h b hb,by rw[T.idx<|h b hb];exact hb⟩
theorem aMP(F:FI K mg "turned_boxes" aLh)(zsorted:mg "sorted"=none):bA P w K mg base "turned_boxes" 1 2 aOm:=by
 refine cG (N:=["turn","looked"]) (ps:=["turn","looked"]) (k:=0) F λf nd cdv A outer s H E hr ds r hl c=> ?_
 obtain⟨n,τ,look,T,n6,ndl,ll,hb,rfl,rfl⟩:=c;have nd2:(["box","turn"]:List Str).Nodup:=by decide+kernel
 have ln:(bG look).length=look.length:=aB _
 have ex:bG (tbx n τ look)=((tbx n τ look).map λ(k:Nat)=>(k:Int)).map D.int:=by unfold bG;rw[aN];rfl
 have ef:((bG look).filter λ_=>true).map (λd=>match d with | .int b=>D.int ((τ.getD b.toNat 0:Nat):Int)|_=>.non)=((look.map λb=>τ.getD b 0).map λ(k:Nat)=>(k:Int)).map D.int:=by rw[bS.mpr λ_ _=>rfl];unfold bG;rw[aN,aN,aN];rfl
 rw[ex];refine aQ (iJ<|aIo (ns:=(look.map λb=>τ.getD b 0).map λ(k:Nat)=>(k:Int)) (ms:=(tbx n τ look).map λ(k:Nat)=>(k:Int)) rfl zsorted (PEd.bor<|PEd.val (PEd.cast (pdC (ds:=bG look) (N:=["box","turn"]) (M:=["turn","looked"]) (cap:=[none,some 0]) (sc:=bK aLh) (Tb:=λd=>[.val d,.val (.tup<|bG τ)]) (λ_=>true) (λd=>match d with | .int b=>D.int ((τ.getD b.toNat 0:Nat):Int)|_=>.non) (fV<|pdv 1) (by omega) (λcl C fp s H d hd=>.inl ⟨rfl,rfl⟩) λcl C fp s H d hd _=> ?_)<|by rw[ef])) (by rw[aB,aB];omega) ((aMF T ndl hb).map _) ?_)
 ·obtain⟨b,hb',rfl⟩:=aJ.mp hd;have hb2:b<τ.length:=by rw[T.len];exact hb b hb'
  exact oZ (n:=b) (d:=.int ((τ.getD b 0:Nat):Int)) (pdv 1) (pdv 0) (qX hb2) λ_ _=>rfl
 ·refine gP.mpr (List.Pairwise.imp (λ{a b} h=> ?_)<|List.Pairwise.filter _ List.pairwise_lt_range);omega
theorem aFL(F:FI K mg "_law_cell_at" aEC)(zlen:mg "len"=none):bA P w K mg base "_law_cell_at" 1 2 aHF:=by
 refine cG (N:=["_law_script","_law_k"]) (ps:=["_law_script","_law_k"]) (k:=0) F λf nd cdv A outer s H E hr ds r hl c=> ?_
 obtain⟨ns,k,rfl,hk,rfl⟩:=c;refine aG<|fY (qY aLw (pdv 1) (aMs rfl zlen<|pdv 0)<|iM _) (λh=> ?_) λh=>cI ?_
 ·have h':k<ns.length:=by simpa using h
  exact aQ (iJ<|aOW (z:=ns.getD k 0) (pdv 0) (pdv 1) (by simp[h']) λ_ _=>rfl)
 ·have h':¬ k<ns.length:=by simpa using h
  refine aQ<|cO bV trivial ?_;show R.val (.int 0)=R.val (.int<|ns.getD k 0);simp[bF,h']
abbrev aQp:List Str:=["_law_script","_law_start","_law_many"]
abbrev nl20:List Str:=["_law_k","_law_script","_law_start"]
theorem aGp(F:FI K mg "_law_cells" aBo)(zrange:mg "range"=none)(GC:bA P w K mg base "_law_cell_at" 1 2 aHF):bA P w K mg base "_law_cells" 2 3 aNX:=by
 refine cG (N:=aQp) (ps:=aQp) (k:=1) F λf nd cdv A outer s H E hr ds r hl c=> ?_
 obtain⟨ns,st,m,hst,hm2,rfl,rfl⟩:=c;have nd2:nl20.Nodup:=by decide+kernel
 refine aQ<|cO (PEd.cast (pdC (ds:=fC 0 m) (N:=nl20) (M:=aQp) (cap:=[none,some 0,some 1]) (sc:=bK aBo) (Tb:=λd=>[.val d,.val<|.scr ns,.val<|.int (st:Int)]) (λ_=>true) (λd=>match d with | .int k=>D.int (ns.getD (st+k.toNat) 0)|_=>.non) (gF (n:=m) rfl zrange (pdv 2)<|by omega) (by rw[eU];omega) (λcl C fp s H d hd=>.inl ⟨rfl,rfl⟩) λcl C fp s H d hd _=> ?_) ?_) trivial rfl
 ·obtain⟨k,hk,rfl⟩:=aJ.mp hd;have hk:=bE.mp hk;show PEd _ _ _ (.val (.int<|ns.getD (st+(0+(k:Int)).toNat) 0));rw[jH,cF];exact pdc (ds:=[.scr ns,.int ((st+k:Nat):Int)]) GC hr (aC (pdv 1)<|aC (PEd.ic (eR fU (pdv 2)<|pdv 0)<|by omega) aM) ⟨ns,st+k,rfl,by omega,rfl⟩
 ·rw[bS.mpr λ_ _=>rfl,kI];unfold bG zG;rw[aN,aN];rfl
theorem aJw(F:FI K mg "_law_mixed" aKh):bA P w K mg base "_law_mixed" 1 2 aBT:=by
 refine cG (N:=["_law_cell","_law_k","_law_number"]) (ps:=["_law_cell","_law_k"]) (k:=0) F λf nd cdv A outer s H E hr ds r hl c=> ?_
 obtain⟨c,k,rfl,hk,rfl⟩:=c;have kb:((k:Nat):Int).natAbs<2^250:=eD (by omega:_<=1000)<|by decide
 have kb2:((k:Int)*(k:Int)).natAbs<2^250:=by rw[Int.natAbs_mul,uR];exact eD (aQj hk hk)<|by decide
 refine aG<|fY (vP (dM gK (pdv 0) bV<|by decide) bV) (λh=> ?_) λh=>cI ?_
 ·have h':c%2=1:=by simpa using h
  refine aQ<|cO (dM iP (pdv 0) bV ⟨by decide,by decide⟩) trivial ?_;unfold kJ;rw[if_pos h']
 have h':¬ c%2=1:=by simpa using h
 have c1:=dG c (show(2147483647:Int)≠0 by decide);have c2:=cK c (show(0:Int)<2147483647 by decide);have big:∀z:Int,0<=z/\z<2147483647->z.natAbs<2^250:=λz hz=>eD (by omega:z.natAbs<=2147600000)<|by decide
 refine aG<|iV (d:=.int<|aNv c k) 2 (dM gK (eR fU (eR fU (dM lF (dM gK (pdv 0) bV<|by decide) bV (lJ (big _ ⟨c1,c2⟩)<|by decide))<|dM lF (dM lF (pdv 1) (pdv 1)<|lJ kb kb) bV (lJ kb2<|by decide)) bV) bV<|by decide) ?_;have r0:=aIw c k;refine aQ<|cO (dM gK (eR fU (eR fU (dM lF (pdv 2) (pdv 2) (lJ (big _ r0)<|big _ r0))<|dM lF bV (pdv 2) (lJ (by decide)<|big _ r0))<|pdv 1) bV<|by decide) trivial ?_;unfold kJ;rw[if_neg h']
noncomputable def sz94a:List (Int×Int):=[(1,1),(1,2),(1,3),(2,1),(3,1),(1,2),(1,3),(1,3)]
noncomputable def aLc(c:Int):Int×Int:=sz94a.getD (c%8).toNat (1,1)
theorem aJo(c:Int):aLc c∈bU:=by
 have ha:∀q∈sz94a,q∈bU:=by decide
 unfold aLc;refine ha _<|DL.getD_mem ?_;show _<8;omega
def aOa:List D->R->Prop:=λds r=>∃c,ds=[.int c]/\r=.val (bW<|aLc c)
theorem aGe(F:FI K mg "_law_size" aFf)(zlen:mg "len"=none):bA P w K mg base "_law_size" 1 1 aOa:=by
 refine cG (N:=["_law_cell","_law_some"]) (ps:=["_law_cell"]) (k:=0) F λf nd cdv A outer s H E hr ds r hl c=> ?_
 obtain⟨z,rfl,rfl⟩:=c;refine aG<|mP (ds:=[bW (1,1),bW (1,2),bW (1,3),bW (2,1),bW (3,1),bW (1,2),bW (1,3),bW (1,3)]) 1 (pdL (ds:=[bW (1,1),bW (1,2),bW (1,3),bW (2,1),bW (3,1),bW (1,2),bW (1,3),bW (1,3)]) ?_) λl=> ?_
 ·repeat' (first|exact aM|refine aC (aPa rfl rfl) ?_)
 have h0:=dG z (show(8:Int)≠0 by decide);have h1:=cK z (show(0:Int)<8 by decide);refine aQ (iJ<|aAY (i:=z%8) (d:=bW<|aLc z) (mF 1 rfl<|pv 1) (dM (i:=z) (j:=8) gK (pdv 0) (PEd.cast (pU rfl zlen (mF 1 rfl<|pv 1)) rfl)<|by decide) h0 ?_ λ_ _=>rfl);show(sz94a.map bW)[(z%8).toNat]? =_;rw[aY];unfold aLc
 have hlt:(z%8).toNat<sz94a.length:=by show _<8;omega
 simp[bF,hlt]
def aKG:List D->R->Prop:=λds r=>∃p,p∈bU/\ds=[bW p]/\r=.own ((gH (2^p.1.toNat) p.2.toNat).map bN)
abbrev aSd:List Str:=["_law_size_here","_law_found","_law_box","_law_longer","_law_one"]
theorem aLZ(F:FI K mg "_law_all" aLs)(zrange:mg "range"=none):bA P w K mg base "_law_all" 1 1 aKG:=by
 refine cG (N:=aSd) (ps:=["_law_size_here"]) (k:=0) F λf nd cdv A outer s H E hr ds r hl c=> ?_
 obtain⟨p,hp,rfl,rfl⟩:=c;obtain⟨h1,h2,h3,h4,h5⟩:=pE p hp;have e2:p.2=((p.2.toNat:Nat):Int):=by omega
 have nd2:(["_law_word_here","_law_one"]:List Str).Nodup:=by decide+kernel
 have m64:2^p.1.toNat<=64:=by
  have:p.1.toNat<=6:=by omega
  exact bZ (jA (by decide) this)<|by decide
 refine aG<|mP (ds:=[bN []]) 1 (pdL (ds:=[bN []])<|aC (aBH (ds:=[]) aM<|cD _) aM) λl=> ?_;refine aG<|iR (ds:=fC 0 p.2.toNat) (λk sd=>∃l,sd=[.val<|bW p,.own l<|(gH (2^p.1.toNat) k).map bN,.un,.un,.un]) (gF (n:=p.2.toNat) rfl zrange (PEd.cast (pdx (n:=1) (d:=.int p.2)<|pdv 0)<|by rw[<-e2])<|by omega) ⟨_,Le.refl _,l,rfl⟩ (λk d sdk hd hk=> ?_) λsdn hn=> ?_
 ·obtain⟨hk2,rfl⟩:=fA hd;obtain⟨l2,rfl⟩:=hk
  have hsm:(gH (2^p.1.toNat) k).length*2^p.1.toNat<=900:=by rw[vT];exact aAf p hp k hk2
  have lens:=xY (2^p.1.toNat) k;have eL:gH (2^p.1.toNat) (k+1)=(gH (2^p.1.toNat) k).flatMap λs=>(aW<|2^p.1.toNat).map λ(w:Nat)=>s++[(w:Int)]:=rfl
  rw[eL];generalize gH (2^p.1.toNat) k=L at *;refine⟨_,pgN 2,iI 1 rfl ?_⟩;refine aG<|rO 3 nd rfl (Or.inl rfl) (pA (ds:=[]) aM<|cD _) λl3=> ?_;refine aG<|iR (ds:=L.map bN) (λt sd=>∃l3,sd=[.val<|bW p,.val<|tL L,.un,.own l3<|((L.take t).flatMap λs=>(aW<|2^p.1.toNat).map λ(w:Nat)=>s++[(w:Int)]).map bN,.un]) (fV<|pdv 1) ⟨[.val<|bW p,.val<|tL L,.un,.own l3<|((L.take 0).flatMap λs=>(aW<|2^p.1.toNat).map λ(w:Nat)=>s++[(w:Int)]).map bN,.un],lA,l3,rfl⟩ (λt d sdt hd hsd=> ?_) λsdn hsd=> ?_
  ·obtain⟨l3,rfl⟩:=hsd;obtain⟨ht,rfl⟩:=lQ hd;refine⟨_,pgN 4, ?_⟩;have hmem:L.getD t []∈L:=DL.getD_mem ht
   have et:L.take (t+1)=L.take t++[L.getD t []]:=by rw[eK];simp[bF,ht]
   have lk:(L.take t).length*2^p.1.toNat+2^p.1.toNat<=900:=by
    have h1:(L.take t).length+1<=L.length:=by rw[dD];omega
    have h2:=aHn (2^p.1.toNat) h1;rw[aHe] at h2;omega
   have ec:((fC 0<|2^p.1.toNat).filter λ_=>true).map (λd=>D.tup<|(L.getD t []).map D.int++[d])=((aW<|2^p.1.toNat).map λ(w:Nat)=>L.getD t []++[(w:Int)]).map bN:=by
    rw[bS.mpr λ_ _=>rfl];unfold fC;rw[aN,aN];refine bQ λw _=> ?_
    simp[bN]
   have lt:=lens _ hmem;have e1:p.1=((p.1.toNat:Nat):Int):=by omega
   refine aQ<|mP (ds:=((L.take<|t+1).flatMap λs=>(aW<|2^p.1.toNat).map λ(w:Nat)=>s++[(w:Int)]).map bN) 3 (PEd.cast (aFj (mF 3 rfl<|pv 3) (PEd.bor<|PEd.val (PEd.cast (pdC (N:=["_law_word_here","_law_one"]) (M:=aSd) (cap:=[none,some 4]) (sc:=bK aLs) (Tb:=λd=>[.val d,.val (bN<|L.getD t [])]) (λ_=>true) (λd=>D.tup<|(L.getD t []).map D.int++[d]) (gF (n:=2^p.1.toNat) rfl zrange (nO (k:=p.1.toNat) (PEd.ic (pdx (n:=0)<|pdv 0) e1)<|by omega)<|by omega) (by rw[eU];omega) (λcl C fp s H d _=>.inl ⟨rfl,rfl⟩) λcl C fp s H d _ _=>kO (pdv 1) (pdT (ds:=[d])<|aC (pdv 0) aM) ?_)<|by rw[ec])) ?_) ?_) λl4=> ?_
   ·simp only[aB,bP,fJ];omega
   ·rw[aB,oR,aB,aB,dE];omega
   ·rw[et,aHl,aZ];simp
   ·exact⟨[.val<|bW p,.val<|tL L,.un,.own l4<|((L.take<|t+1).flatMap λs=>(aW<|2^p.1.toNat).map λ(w:Nat)=>s++[(w:Int)]).map bN,.un],lA,l4,rfl⟩
  ·obtain⟨l3,rfl⟩:=hsd;rw[aB,dW];refine aQ<|aIM 1 3 rfl nd rfl (Or.inl rfl) (pv 3) ?_;exact⟨_,Le.refl _,l3,rfl⟩
 ·obtain⟨l2,rfl⟩:=hn;refine aQ<|oY 1 rfl (pv 1) ?_;show R.own _=R.own _;rw[eU]
theorem nA{α β:Type}(g:α->β):∀ (l:List α) (i:Nat),(l.map g).eraseIdx i=(l.eraseIdx i).map g
 |[],_=>rfl
 |_::_,0=>rfl
 |a::l,i+1=>by show g a::(l.map g).eraseIdx i=g a::(l.eraseIdx i).map g;rw[nA g l i]
theorem aJe(F:FI K mg "_law_turn" aKi)(zlist:mg "list"=none)(zrange:mg "range"=none)(zlen:mg "len"=none)(ztuple:mg "tuple"=none):bA P w K mg base "_law_turn" 1 2 aOg:=by
 refine cG (N:=["_law_m","_law_boxes","_law_left","_law_turn_here","_law_k"]) (ps:=["_law_m","_law_boxes"]) (k:=0) F λf nd cdv A outer s H E hr ds r hl c=> ?_
 obtain⟨m,n,n1,n6,rfl,rfl⟩:=c;refine aG<|mP (ds:=bG<|aW n) 2 (PEd.cast (nL (n:=n) rfl zlist rfl zrange (pdv 1)<|by omega)<|by rw[kI]) λl2=> ?_;refine aG<|mP (ds:=[]) 3 (pA (ds:=[]) aM<|cD _) λl3=> ?_;refine aG<|jX (ds:=fC 0 n) (λt=>[.val (.int<|m / 7^t),.val<|.int (n:Int),.own l2<|bG (fW m n t).1,.own l3<|bG (fW m n t).2,.un]) (λt=>[.val (.int<|m / 7^t),.val<|.int (n:Int),.own l2<|bG (fW m n t).1,.own l3<|bG (fW m n t).2,.val (.int<|0+(t:Int))]) (gF (n:=n) rfl zrange (pdv 1)<|by omega) ⟨.inr<|by simp,.inr rfl,.inr rfl,.inr rfl,.inr rfl,trivial⟩ (λt d hd=> ?_) (λt d hd=> ?_) ?_
 ·obtain⟨_,rfl⟩:=fA hd;exact pgN 4
 ·obtain⟨ht,rfl⟩:=fA hd;have ok:=yC m n t (by omega);have l0:(0:Int)<((fW m n t).1.length:Int):=by omega
  have r1:=dG (m / 7^t)<|gR l0;have r2:=cK (m / 7^t) l0
  have al:(fW m n t).2.length<=6:=by have:=ok.2.length_eq;rw[aP,dE] at this;omega
  refine aG<|aDk 3 2 (k:=(m / 7^t%((fW m n t).1.length:Int)).toNat) (d:=.int (((fW m n t).1.getD (m / 7^t%((fW m n t).1.length:Int)).toNat 0:Nat):Int)) (by decide) rfl rfl (PEd.ic (dM gK (pdv 0) (PEd.ic (pU rfl zlen (mF 2 rfl<|pv 2))<|by unfold bG;rw[aB]) l0)<|by omega) (qX<|by omega) (by omega) (by unfold bG;rw[aB];omega) ?_;refine aQ<|iH 0 nd rfl (Or.inl rfl) (dM iP (pdv 0) bV ⟨by decide,by decide⟩) ?_;refine⟨.inr ?_,.inr rfl,.inr ?_,.inr ?_,.inl rfl,trivial⟩
  ·congr 2;rw[Int.pow_succ,Int.ediv_ediv_of_nonneg (Int.pow_nonneg<|by decide)]
  ·show Slot.own l2 ((bG (fW m n t).1).eraseIdx _)=Slot.own l2 (bG<|(fW m n t).1.eraseIdx _);unfold bG;rw[nA]
  ·show Slot.own l3 (bG (fW m n t).2++[_])=Slot.own l3 (bG<|(fW m n t).2++[_]);unfold bG;rw[aZ];rfl
 ·rw[eU];exact aQ (iJ<|iU rfl ztuple (mF 3 rfl<|pv 3))
theorem aJj(F:FI K mg "_law_step" aKe):bA P w K mg base "_law_step" 1 2 aKq:=by
 refine cG (N:=["_law_m","_law_size_here","_law_i","_law_j","_law_kind"]) (ps:=["_law_m","_law_size_here"]) (k:=0) F λf nd cdv A outer s H E hr ds r hl c=> ?_
 obtain⟨x,p,hp,rfl,rfl⟩:=c;obtain⟨h1,h2,h3,h4,h5⟩:=pE p hp;have m0:=pw0 p.1.toNat;have e1:p.1=((p.1.toNat:Nat):Int):=by omega
 have p20:(0:Int)<p.2:=by omega
 have d0:=dG x (show(10:Int)≠0 by decide);have d1:=cK x (show(0:Int)<10 by decide);refine aG<|iV (d:=.int<|x / 10%p.2) 2 (dM gK (dM iP (pdv 0) bV ⟨by decide,by decide⟩) (pdx (n:=1) (d:=.int p.2)<|pdv 1) p20) ?_;refine aG<|iV (d:=.int<|x / 60%p.2) 3 (dM gK (dM iP (pdv 0) bV ⟨by decide,by decide⟩) (pdx (n:=1) (d:=.int p.2)<|pdv 1) p20) ?_;refine aG<|iV (d:=.int<|x%10) 4 (dM gK (pdv 0) bV<|by decide) ?_
 have nm6:∀k:Nat,k<6->([.str "and",.str "or",.str "xor",.str "add",.str "take",.str "copy"]:List D)[k]? =some (.str<|nm k):=by
  intro k hk
  match k,hk with
  |0,_=>rfl
  |1,_=>rfl
  |2,_=>rfl
  |3,_=>rfl
  |4,_=>rfl
  |5,_=>rfl
 have nm7:∀k:Nat,k<3->([.str "not",.str "up",.str "down"]:List D)[k]? =some (.str (nm<|k+7)):=by
  intro k hk
  match k,hk with
  |0,_=>rfl
  |1,_=>rfl
  |2,_=>rfl
 refine aG<|fY (qY aLw (pdv 4) bV<|iM _) (λh=> ?_) λh=>cI ?_
 ·have h':x%10<6:=by simpa using h
  have es:sqD (vA p x)=.tup [.str<|nm (x%10).toNat,.int<|x / 10%p.2,.int<|x / 60%p.2]:=by show gI (x%10).toNat _ _ _=_;unfold gI;rw[if_pos<|by omega];rfl
  rw[es];refine aQ<|iJ (pdT (ds:=[.str<|nm (x%10).toNat,.int<|x / 10%p.2,.int<|x / 60%p.2])<|aC (aAY (i:=x%10) (ds:=[.str "and",.str "or",.str "xor",.str "add",.str "take",.str "copy"]) (PEd.bor (PEd.val<|pdL (ds:=[.str "and",.str "or",.str "xor",.str "add",.str "take",.str "copy"]) ?_)) (pdv 4) d0 (nm6 (x%10).toNat<|by omega) λ_ _=>rfl) (aC (pdv 2)<|aC (pdv 3) aM))
  repeat' (first|exact aM|refine aC dI ?_)
 have h':¬ x%10<6:=by simpa using h
 refine aG<|fY (vP (pdv 4) bV) (λh2=> ?_) λh2=>cI ?_
 ·have h2':x%10=6:=by simpa using h2
  have es:sqD (vA p x)=.tup [.str "put",.int<|x / 10%p.2,.int<|x / 360%((2^p.1.toNat:Nat):Int)]:=by show gI (x%10).toNat _ _ _=_;rw[h2'];rfl
  rw[es];exact aQ<|iJ (pdT (ds:=[.str "put",.int<|x / 10%p.2,.int<|x / 360%((2^p.1.toNat:Nat):Int)])<|aC dI (aC (pdv 2)<|aC (dM gK (dM iP (pdv 0) bV ⟨by decide,by decide⟩) (nO (PEd.ic (pdx (n:=0) (d:=.int p.1)<|pdv 1) e1)<|by omega) m0) aM))
 have h2':¬ x%10=6:=by simpa using h2
 have es:sqD (vA p x)=.tup [.str<|nm (x%10).toNat,.int<|x / 10%p.2]:=by show gI (x%10).toNat _ _ _=_;unfold gI;rw[if_neg<|by omega,if_neg<|by omega];rfl
 rw[es];have e7:(x%10-7).toNat+7=(x%10).toNat:=by omega
 have n7:=nm7 (x%10-7).toNat (by omega);rw[e7] at n7;refine aQ (iJ<|pdT (ds:=[.str<|nm (x%10).toNat,.int<|x / 10%p.2]) (aC (aAY (i:=x%10-7) (PEd.bor (PEd.val<|pdL (ds:=[.str "not",.str "up",.str "down"]) ?_)) (eR lV (pdv 4) bV) (by omega) n7 λ_ _=>rfl)<|aC (pdv 2) aM))
 repeat' (first|exact aM|refine aC dI ?_)
theorem aHY:∀k,k<10->decide (V.str (nm k)=V.str "down")=decide (k=9):=by decide+kernel
theorem aFe{ws:List Int}{i:Nat}(h:i<ws.length):(ws.map D.int)[i]? =some (.int<|ws.getD i 0):=by simp[bF,h]
abbrev aSc:List Str:=["_law_size_here","_law_step_here","_law_filling_here"]
theorem aFQ(F:FI K mg "_law_word" aFi):bA P w K mg base "_law_word" 1 3 aKS:=by
 refine cG (N:=["_law_size_here","_law_step_here","_law_filling_here","_law_word_here","_law_other"]) (ps:=aSc) (k:=0) F λf nd cdv A outer s H E hr ds r hl c=> ?_
 obtain⟨p,⟨k,i,j,n⟩,ws,O,wl,rfl,rfl⟩:=c;obtain⟨h1,h2,h3,h4,h5⟩:=pE p O.sz;have e1:p.1=((p.1.toNat:Nat):Int):=by omega
 have i0:=O.i0;have j0:=O.j0;have k10:=O.k10;simp only at i0 j0 k10;have ai:(ws.map D.int)[i.toNat]? =some (.int<|ws.getD i.toNat 0):=aFe (by omega);have aj:(ws.map D.int)[j.toNat]? =some (.int<|ws.getD j.toNat 0):=aFe (by omega);show PSd _ (init _ [bW p,gI k i j n,bN ws]) _ {nx:=λ_=>R.val (.int<|lwW k ((2^p.1.toNat:Nat):Int) (ws.getD i.toNat 0) (ws.getD j.toNat 0) n)=.val .non,rt:=λr'=>r'=.val (.int<|lwW k ((2^p.1.toNat:Nat):Int) (ws.getD i.toNat 0) (ws.getD j.toNat 0) n)};have t_not:=aKD k k10;have t_up:=aOp k k10;have t_down:=aHY k k10;have t_put:=mQ k k10
 by_cases k6:k<6
 ·have es:gI k i j n=.tup [.str<|nm k,.int i,.int j]:=by unfold gI;rw[if_pos k6]
  rw[es];refine aG<|iV (d:=.int<|ws.getD i.toNat 0) 3 (lG (i:=i) (pdv 2) (pdx (n:=1)<|pdv 1) i0.1 ai λ_ _=>rfl) ?_;refine aG (dX (cR (pdx (n:=0)<|pdv 1) dI rfl rfl rfl t_not) (decide_eq_false<|by omega)<|cI ?_);refine aG (dX (cR (pdx (n:=0)<|pdv 1) dI rfl rfl rfl t_up) (decide_eq_false<|by omega)<|cI ?_);refine aG (dX (cR (pdx (n:=0)<|pdv 1) dI rfl rfl rfl t_down) (decide_eq_false<|by omega)<|cI ?_);refine aG (dX (cR (pdx (n:=0)<|pdv 1) dI rfl rfl rfl t_put) (decide_eq_false<|by omega)<|cI ?_);refine aG<|iV (d:=.int<|ws.getD j.toNat 0) 4 (lG (i:=j) (pdv 2) (pdx (n:=2)<|pdv 1) j0.1 aj λ_ _=>rfl) ?_
  by_cases k0':k=0
  ·refine aG<|gS (cR (pdx (n:=0)<|pdv 1) dI rfl rfl rfl<|aEf k k10) (decide_eq_true k0') (aQ<|cO (eR aJQ (pdv 3)<|pdv 4) trivial ?_);rw[k0'];rfl
  refine aG (dX (cR (pdx (n:=0)<|pdv 1) dI rfl rfl rfl<|aEf k k10) (decide_eq_false k0')<|cI ?_)
  by_cases k1':k=1
  ·refine aG<|gS (cR (pdx (n:=0)<|pdv 1) dI rfl rfl rfl<|aLi k k10) (decide_eq_true k1') (aQ<|cO (eR aOj (pdv 3)<|pdv 4) trivial ?_);rw[k1'];rfl
  refine aG (dX (cR (pdx (n:=0)<|pdv 1) dI rfl rfl rfl<|aLi k k10) (decide_eq_false k1')<|cI ?_)
  by_cases k2':k=2
  ·refine aG<|gS (cR (pdx (n:=0)<|pdv 1) dI rfl rfl rfl<|aEb k k10) (decide_eq_true k2') (aQ<|cO (eR aKt (pdv 3)<|pdv 4) trivial ?_);rw[k2'];rfl
  refine aG (dX (cR (pdx (n:=0)<|pdv 1) dI rfl rfl rfl<|aEb k k10) (decide_eq_false k2')<|cI ?_)
  by_cases k3':k=3
  ·refine aG<|gS (cR (pdx (n:=0)<|pdv 1) dI rfl rfl rfl<|aEx k k10) (decide_eq_true k3') (aQ<|cO (eR fU (pdv 3)<|pdv 4) trivial ?_);rw[k3'];rfl
  refine aG (dX (cR (pdx (n:=0)<|pdv 1) dI rfl rfl rfl<|aEx k k10) (decide_eq_false k3')<|cI ?_)
  by_cases k4':k=4
  ·refine aG<|gS (cR (pdx (n:=0)<|pdv 1) dI rfl rfl rfl<|aBj k k10) (decide_eq_true k4') (aQ<|cO (eR lV (pdv 3)<|pdv 4) trivial ?_);rw[k4'];rfl
  refine aG (dX (cR (pdx (n:=0)<|pdv 1) dI rfl rfl rfl<|aBj k k10) (decide_eq_false k4')<|cI ?_);have k5:k=5:=by omega
  refine aQ<|cO (pdv 4) trivial ?_;rw[k5];rfl
 by_cases k6':k=6
 ·have es:gI k i j n=.tup [.str<|nm k,.int i,.int n]:=by unfold gI;rw[if_neg k6,if_pos k6']
  rw[es];refine aG<|iV (d:=.int<|ws.getD i.toNat 0) 3 (lG (i:=i) (pdv 2) (pdx (n:=1)<|pdv 1) i0.1 ai λ_ _=>rfl) ?_;refine aG (dX (cR (pdx (n:=0)<|pdv 1) dI rfl rfl rfl t_not) (decide_eq_false<|by omega)<|cI ?_);refine aG (dX (cR (pdx (n:=0)<|pdv 1) dI rfl rfl rfl t_up) (decide_eq_false<|by omega)<|cI ?_);refine aG (dX (cR (pdx (n:=0)<|pdv 1) dI rfl rfl rfl t_down) (decide_eq_false<|by omega)<|cI ?_);refine aG<|gS (cR (pdx (n:=0)<|pdv 1) dI rfl rfl rfl t_put) (decide_eq_true k6') (aQ<|cO (pdx (n:=2)<|pdv 1) trivial ?_);rw[k6'];rfl
 have es:gI k i j n=.tup [.str<|nm k,.int i]:=by unfold gI;rw[if_neg k6,if_neg k6']
 rw[es];refine aG<|iV (d:=.int<|ws.getD i.toNat 0) 3 (lG (i:=i) (pdv 2) (pdx (n:=1)<|pdv 1) i0.1 ai λ_ _=>rfl) ?_
 by_cases k7:k=7
 ·refine aG<|gS (cR (pdx (n:=0)<|pdv 1) dI rfl rfl rfl t_not) (decide_eq_true k7) (aQ<|cO (eR lV (eR lV (nO (PEd.ic (pdx (n:=0) (d:=.int p.1)<|pdv 0) e1)<|by omega) bV)<|pdv 3) trivial ?_);rw[k7];rfl
 refine aG (dX (cR (pdx (n:=0)<|pdv 1) dI rfl rfl rfl t_not) (decide_eq_false k7)<|cI ?_)
 by_cases k8:k=8
 ·refine aG<|gS (cR (pdx (n:=0)<|pdv 1) dI rfl rfl rfl t_up) (decide_eq_true k8) (aQ<|cO (dM aOU bV (pdv 3)<|.inl ⟨by decide,by decide⟩) trivial ?_);rw[k8];rfl
 refine aG (dX (cR (pdx (n:=0)<|pdv 1) dI rfl rfl rfl t_up) (decide_eq_false k8)<|cI ?_);have k9:k=9:=by omega
 refine aG<|gS (cR (pdx (n:=0)<|pdv 1) dI rfl rfl rfl t_down) (decide_eq_true k9) (aQ<|cO (dM iP (pdv 3) bV ⟨by decide,by decide⟩) trivial ?_);rw[k9];rfl
theorem aEB(q:SQ):∃es,sqD q=.tup (.str (nm q.1)::.int q.2.1::es):=aEJ ..
theorem aIn(F:FI K mg "_law_made" aKw)(GW:bA P w K mg base "_law_word" 1 3 aKS):bA P w K mg base "_law_made" 2 3 aNS:=by
 refine cG (N:=["_law_size_here","_law_step_here","_law_filling_here","_law_word_here"]) (ps:=aSc) (k:=1) F λf nd cdv A outer s H E hr ds r hl c=> ?_
 obtain⟨p,q,ws,O,wl,rfl,rfl⟩:=c;obtain⟨h1,h2,h3,h4,h5⟩:=pE p O.sz;have e1:p.1=((p.1.toNat:Nat):Int):=by omega
 have m0:=pw0 p.1.toNat;have i0:=O.i0;have li:q.2.1.toNat<ws.length:=by omega
 have ei:q.2.1=((q.2.1.toNat:Nat):Int):=by omega
 obtain⟨es0,es1⟩:=aEB q;have bx:∀ {X:Cx}{sd:List Slot}{a:Expr}{n0:Nat}{p1 p2:Pos},PEd X sd a (.val<|sqD q)->PEd X sd (.Subscript a (.Constant (.int 1) n0 p1) p2) (.val<|.int ((q.2.1.toNat:Nat):Int)):=λha=>PEd.ic (pdx (n:=1) (ds:=.str (nm q.1)::.int q.2.1::es0) (PEd.cast ha<|by rw[es1])) ei
 refine aG<|iV (d:=.int<|lwQ p q ws%((2^p.1.toNat:Nat):Int)) 3 (dM gK (pdc (ds:=[bW p,sqD q,bN ws]) GW hr (aC (pdv 0) (aC (pdv 1)<|aC (pdv 2) aM)) ⟨p,q,ws,O,wl,rfl,rfl⟩) (nO (PEd.ic (pdx (n:=0) (d:=.int p.1)<|pdv 0) e1)<|by omega) m0) ?_;refine aQ<|cO (PEd.cast (kO (kO (mO (ol:=none) (oh:=some ((q.2.1.toNat:Nat):Int)) (pdv 2) trivial (bx<|pdv 1) ?_) (pdT (ds:=[.int<|lwQ p q ws%((2^p.1.toNat:Nat):Int)])<|aC (pdv 3) aM) ?_) (mO (ol:=some<|((q.2.1.toNat:Nat):Int)+1) (oh:=none) (pdv 2) (eR fU (bx<|pdv 1) bV) trivial ?_) ?_) ?_) trivial rfl
 ·rw[HT.sIx_nat,aB];omega
 ·rw[uK ws li];simp only[aB,dD,bP,fJ];omega
 ·have e:(((q.2.1.toNat:Nat):Int)+1)=((q.2.1.toNat+1:Nat):Int):=by push_cast;rfl
  rw[e,HT.sIx_nat,aB];omega
 ·rw[uK ws li,rP ws li];simp only[aP,aB,dD,eX,bP,fJ];omega
 ·rw[uK ws li,rP ws li];unfold bN mdQ;rw[uQ,if_pos li];simp
abbrev aSB:List Str:=["_law_script","_law_start","_law_size_here","_law_most","_law_dear","_law_kit_here","_law_k","_law_m","_law_step_here"]
theorem aLI(F:FI K mg "_law_kit" aHw)(zrange:mg "range"=none)(GC:bA P w K mg base "_law_cell_at" 1 2 aHF)(GM:bA P w K mg base "_law_mixed" 1 2 aBT)(GT:bA P w K mg base "_law_step" 1 2 aKq):bA P w K mg base "_law_kit" 2 5 aSu:=by
 refine cG (N:=aSB) (ps:=["_law_script","_law_start","_law_size_here","_law_most","_law_dear"]) (k:=1) F λf nd cdv A outer s H E hr ds r hl c=> ?_
 obtain⟨ns,st,m,p,d,hp,hst,m1,m8,d1,d9,rfl,rfl⟩:=c;have hu:=uN hr 4;refine aG<|mP (ds:=([]:List SK).map skD) 5 (pA (ds:=[]) aM<|cD _) λl5=> ?_;refine aG<|jX (ds:=fC 0 m) (λt=>[.val<|.scr ns,.val<|.int (st:Int),.val<|bW p,.val<|.int (m:Int),.val<|.int d,.own l5<|(ktN p ns st d t).map skD,.un,.un,.un]) (λt=>[.val<|.scr ns,.val<|.int (st:Int),.val<|bW p,.val<|.int (m:Int),.val<|.int d,.own l5<|(ktN p ns st d t).map skD,.val (.int<|0+(t:Int)),.un,.un]) (gF (n:=m) rfl zrange (pdv 3)<|by omega) lA (λt d' hd=> ?_) (λt d' hd=> ?_) ?_
 ·obtain⟨_,rfl⟩:=fA hd;exact pgN 6
 ·obtain⟨ht,rfl⟩:=fA hd;rw[jH];have ll:(ktN p ns st d t).length<=8:=bZ (aBO hp ns st d1 d9 t).1 (by omega);refine aG<|iV (d:=.int (kJ (ns.getD (st+t) 0)<|t+1)) 7 (pdc (ds:=[.int<|ns.getD (st+t) 0,.int ((t+1:Nat):Int)]) GM hr (aC (pdc (ds:=[.scr ns,.int ((st+t:Nat):Int)]) GC hr (aC (pdv 0)<|aC (PEd.ic (eR fU (pdv 1)<|pdv 6)<|by omega) aM) ⟨ns,st+t,rfl,by omega,rfl⟩)<|aC (PEd.ic (eR fU (pdv 6) bV)<|by omega) aM) ⟨_,t+1,rfl,by omega,rfl⟩) ?_;refine aG<|iV (d:=sqD<|vA p (kJ (ns.getD (st+t) 0)<|t+1)) 8 (pdc (ds:=[.int (kJ (ns.getD (st+t) 0)<|t+1),bW p]) GT hr (aC (pdv 7)<|aC (pdv 2) aM) ⟨_,p,hp,rfl,rfl⟩) ?_;have eN:ktN p ns st d (t+1)=if((ktN p ns st d t).map skD |>.map ktN.fstQ).any (λz=>deq z (sqD<|vA p (kJ (ns.getD (st+t) 0)<|t+1))) then ktN p ns st d t else ktN p ns st d t++[(vA p (kJ (ns.getD (st+t) 0)<|t+1),1+kJ (ns.getD (st+t) 0) (t+1) / 10^6%d)]:=rfl
  rw[eN];generalize ktN p ns st d t=L at *;generalize hx:kJ (ns.getD (st+t) 0) (t+1)=x;generalize vA p x=q;have nd2:(["_law_one","_law_price_here"]:List Str).Nodup:=by decide+kernel
  have plc:plL ((L.map skD).map ktN.fstQ)=true/\jZ ((L.map skD).map ktN.fstQ)<=1:=by rw[aN];exact⟨aAP (λs:SK=>ktN.fstQ<|skD s) (λs=>aOw s.1) _,xS (λs:SK=>ktN.fstQ<|skD s) 1 (λs=>pG<|aPp s.1) _⟩
  have ef:((L.map skD).filter λ_=>true).map ktN.fstQ=(L.map skD).map ktN.fstQ:=by rw[bS.mpr λ_ _=>rfl]
  refine aQ<|fY (k:= !((L.map skD).map ktN.fstQ).any λz=>deq z<|sqD q) (PTd.lend 5 rfl (aOs rfl) (aCf (pdv 8) (PEd.val (PEd.cast (kP (ds:=L.map skD) (N:=["_law_one","_law_price_here"]) (M:=aSB) (cap:=[none,none]) (sc:=bK aHw) (Tb:=λd=>aSq d []) (λ_=>true) ktN.fstQ (fV<|pdv 5) (by rw[aB];omega) rfl (by decide+kernel) rfl (by decide+kernel) rfl (λcl C fp s H d hd=> ?_) (λd hd=> ?_) (λcl C fp s H d hd=>.inl ⟨rfl,rfl⟩) λcl C fp s H d hd _=> ?_)<|by rw[ef])) (aOw q) plc.1<|by have:=plc.2;show(A.deeper<|envOfC "_law_kit" (bK aHw) s.heap.objs.size f cdv).units+1+_<AM;omega)) (λh=> ?_) λh=> ?_
  ·obtain⟨s,_,rfl⟩:=aJ.mp hd;exact kN (js:=[0,1]) rfl (eI (pgn 0)<|eI (pgn 1) kM) rfl rfl
  ·obtain⟨s,_,rfl⟩:=aJ.mp hd;exact lA
  ·obtain⟨s,_,rfl⟩:=aJ.mp hd;exact(pdv 0)
  ·have h':((L.map skD).map ktN.fstQ).any (λz=>deq z<|sqD q)=false:=by simpa using h
   rw[h'];refine aQ<|nV (d:=skD (q,1+x / (10:Int)^(6:Nat)%d)) 5 rfl (pv 5) (pdT (ds:=[sqD q,.int<|1+x / (10:Int)^(6:Nat)%d]) (aC (pdv 8)<|aC (eR fU bV (dM gK (dM iP (pdv 7) (PEd.ic (dM aPL (i:=10) (j:=6) bV bV ⟨by decide,by decide,by decide⟩) (show(10:Int)^(6:Int).toNat=(10:Int)^(6:Nat) from rfl)) ⟨by decide,by decide⟩) (pdv 4)<|by omega)) aM)) (by rw[aB];omega) ?_;refine⟨.inr rfl,.inr rfl,.inr rfl,.inr rfl,.inr rfl,.inr ?_,.inl rfl,.inl rfl,.inl rfl,trivial⟩;simp only[cJ,if_false,aZ];rfl
  ·have h':((L.map skD).map ktN.fstQ).any (λz=>deq z<|sqD q)=true:=by simpa using h
   rw[h'];exact cI lA
 ·rw[eU];exact aQ<|oY 5 rfl (pv 5) rfl
theorem aHI(p:Int×Int)(L:List SK)(row:List Nat)(t:Nat)(ws:List Int):dnQ p L (row++[t]) ws=mdQ p (L.getD t AG).1 (dnQ p L row ws):=by unfold dnQ;rw[eB];rfl
theorem aFR(F:FI K mg "_law_done" aFg)(GS:bA P w K mg base "_law_made" 2 3 aNS):bA P w K mg base "_law_done" 3 4 aEs:=by
 refine cG (N:=["_law_size_here","_law_kit_here","_law_row_here","_law_filling_here","_law_number"]) (ps:=["_law_size_here","_law_kit_here","_law_row_here","_law_filling_here"]) (k:=2) F λf nd cdv A outer s H E hr ds r hl c=> ?_
 obtain⟨p,L,row,ws,hp,S,hrow,wl,rfl,rfl⟩:=c;refine aG<|jX (ds:=bG row) (λt=>[.val<|bW p,.val<|lK L,.val<|tN row,.val (bN<|dnQ p L (row.take t) ws),.un]) (λt=>[.val<|bW p,.val<|lK L,.val<|tN row,.val (bN<|dnQ p L (row.take t) ws),.val<|.int ((row.getD t 0:Nat):Int)]) (lE<|pdv 2) lA (λt d hd=> ?_) (λt d hd=> ?_) ?_
 ·obtain⟨_,rfl⟩:=pP hd;exact pgN 4
 ·obtain⟨ht,rfl⟩:=pP hd;have hn:=hrow (row.getD t 0)<|DL.getD_mem ht;refine aQ<|iV (d:=bN<|dnQ p L (row.take<|t+1) ws) 3 (pdc (ds:=[bW p,sqD (L.getD (row.getD t 0) AG).1,bN<|dnQ p L (row.take t) ws]) GS hr (aC (pdv 0) (aC (pdx (n:=0) (ds:=[sqD (L.getD (row.getD t 0) AG).1,.int (L.getD (row.getD t 0) AG).2])<|jK (PEd.bor<|pdv 1) (pdv 4) (uB hn) λ_ _=>rfl)<|aC (pdv 3) aM)) ⟨p,_,_,(S.st _<|DL.getD_mem hn).1,by rw[aBL];exact wl,rfl,by rw[aCh ht,aHI]⟩) ?_;exact lA
 ·refine aQ<|cO (pdv 3) trivial ?_;show R.val (bN<|dnQ p L (row.take (bG row).length) ws)=_;rw[show(bG row).length=row.length from aB _,dW]
abbrev aQr:List Str:=["_law_cells_here","_law_kit_here"]
abbrev nl25:List Str:=["_law_k","_law_cells_here","_law_kit_here"]
theorem aID(F:FI K mg "_law_row" aEi)(ztuple:mg "tuple"=none)(zlen:mg "len"=none)(zrange:mg "range"=none)(GM:bA P w K mg base "_law_mixed" 1 2 aBT):bA P w K mg base "_law_row" 2 2 aSA:=by
 refine cG (N:=aQr) (ps:=aQr) (k:=1) F λf nd cdv A outer s H E hr ds r hl c=> ?_
 obtain⟨cs,L,l0,hc,rfl,rfl⟩:=c;have nd2:nl25.Nodup:=by decide+kernel
 have n0:(0:Int)<(L.length:Int):=by omega
 refine aQ<|iJ (iU rfl ztuple<|PEd.bor (PEd.val<|PEd.cast (pdC (ds:=fC 0 cs.length) (N:=nl25) (M:=aQr) (cap:=[none,some 0,some 1]) (sc:=bK aEi) (Tb:=λd=>[.val d,.val (.lst<|cs.map D.int),.val<|lK L]) (λ_=>true) (λd=>match d with | .int k=>D.int (((kJ (cs.getD k.toNat 0) k.toNat%(L.length:Int)).toNat:Nat):Int)|_=>.non) (gF (n:=cs.length) rfl zrange (PEd.ic (pU rfl zlen (PEd.bor<|pdv 0))<|by rw[aB])<|by omega) (by rw[eU];omega) (λcl C fp s H d hd=>.inl ⟨rfl,rfl⟩) λcl C fp s H d hd _=> ?_) (?_:_=R.own (bG<|rwQ cs L.length))))
 ·obtain⟨k,hk,rfl⟩:=aJ.mp hd;have hk:=bE.mp hk;have r1:=dG (kJ (cs.getD k 0) k)<|gR n0;show PEd _ _ _ (.val<|.int (((kJ (cs.getD (0+(k:Int)).toNat 0) (0+(k:Int)).toNat%(L.length:Int)).toNat:Nat):Int));rw[jH,cF,mC r1];exact dM gK (pdc (ds:=[.int<|cs.getD k 0,.int (k:Int)]) GM hr (aC (jK (n:=k) (d:=.int<|cs.getD k 0) (PEd.bor<|pdv 1) (pdv 0) (by simp[bF,hk]) λ_ _=>rfl)<|aC (pdv 0) aM) ⟨_,k,rfl,by omega,rfl⟩) (PEd.ic (pU rfl zlen (PEd.bor<|pdv 2))<|by rw[aB]) n0
 ·rw[bS.mpr λ_ _=>rfl,kI];unfold bG rwQ;rw[aN,aN];rfl
abbrev aNA:List Str:=["_law_cell","_law_size_here"]
theorem aGd(F:FI K mg "_law_looked" aAR)(zlist:mg "list"=none)(zrange:mg "range"=none):bA P w K mg base "_law_looked" 1 2 aKv:=by
 refine cG (N:=aNA) (ps:=aNA) (k:=0) F λf nd cdv A outer s H E hr ds r hl c=> ?_
 obtain⟨c,p,hp,rfl,rfl⟩:=c;obtain⟨h1,h2,h3,h4,h5⟩:=pE p hp;have e2:p.2=((p.2.toNat:Nat):Int):=by omega
 have nd2:(["_law_box","_law_cell"]:List Str).Nodup:=by decide+kernel
 refine aG<|fY (vP (dM gK (pdv 0) bV<|by decide) bV) (λh=> ?_) λh=>cI ?_
 ·have h':c%5=0:=by simpa using h
  refine aQ<|cO (nL (n:=p.2.toNat) rfl zlist rfl zrange (PEd.ic (pdx (n:=1) (d:=.int p.2)<|pdv 1) e2)<|by omega) trivial ?_;unfold zC;rw[if_pos h',kI]
 ·have h':¬ c%5=0:=by simpa using h
  refine aQ<|cO (pdC (ds:=fC 0 p.2.toNat) (N:=["_law_box","_law_cell"]) (M:=aNA) (cap:=[none,some 0]) (sc:=bK aAR) (Tb:=λd=>[.val d,.val<|.int c]) (λd=>match d with | .int b=>decide (c / 5 / ((2^b.toNat:Nat):Int)%2=1)|_=>true) (λd=>d) (gF (n:=p.2.toNat) rfl zrange (PEd.ic (pdx (n:=1) (d:=.int p.2)<|pdv 1) e2)<|by omega) (by rw[eU];omega) (λcl C fp s H d hd=> ?_) λcl C fp s H d hd _=>(pdv 0)) trivial ?_
  ·obtain⟨k,hk,rfl⟩:=aJ.mp hd;have hk2:=bE.mp hk;have p0:=pw0 k;have p1:(2^k:Nat)<=64:=bZ (jA (by decide) (show k<=6 by omega)) (by decide);refine .inr ⟨_,rfl, ?_⟩;show PTd _ _ _ (decide<|c / 5 / ((2^(0+(k:Int)).toNat:Nat):Int)%2=1);rw[jH,cF];refine vP (dM gK (dM iP (dM iP (pdv 1) bV ⟨by decide,by decide⟩) (nO (k:=k) (pdv 0)<|by omega) ⟨p0, ?_⟩) bV<|by decide) bV;rw[uR];exact eD (bZ (Nat.log2_le_self _) p1)<|by decide
  ·unfold zC;rw[if_neg h',kI];show R.own _=R.own (bG _);congr 1;unfold bG;rw[aRU,aNE];rfl
abbrev aQB:List Str:=["_law_filling_here","_law_looked_here"]
theorem aHW(F:FI K mg "_law_seen" aDV):bA P w K mg base "_law_seen" 1 2 aLt:=by
 refine cG (N:=aQB) (ps:=aQB) (k:=0) F λf nd cdv A outer s H E hr ds r hl c=> ?_
 obtain⟨bs,ws,hb,hw,rfl,rfl⟩:=c;have nd2:(["_law_box","_law_filling_here"]:List Str).Nodup:=by decide+kernel
 refine aQ<|cO (PEd.cast (pdC (ds:=bG bs) (N:=["_law_box","_law_filling_here"]) (M:=aQB) (cap:=[none,some 0]) (sc:=bK aDV) (Tb:=λd=>[.val d,.val<|bN ws]) (λ_=>true) (λd=>match d with | .int i=>D.int (ws.getD i.toNat 0)|_=>.non) (fV<|pdv 1) (by unfold bG;rw[aB];omega) (λcl C fp s H d hd=>.inl ⟨rfl,rfl⟩) λcl C fp s H d hd _=> ?_) ?_) trivial rfl
 ·obtain⟨b,hb2,rfl⟩:=aJ.mp hd;have:=hw b hb2;exact oZ (n:=b) (d:=.int<|ws.getD b 0) (pdv 1) (pdv 0) (by simp[bF,this]) λ_ _=>rfl
 ·rw[bS.mpr λ_ _=>rfl];unfold bG;rw[aN,aN];rfl
theorem aFX(F:FI K mg "_law_same" aNZ)(GA:bA P w K mg base "_law_all" 1 1 aKG)(GD:bA P w K mg base "_law_done" 3 4 aEs)(GS:bA P w K mg base "_law_seen" 1 2 aLt):bA P w K mg base "_law_same" 4 5 aES:=by
 refine cG (N:=["_law_size_here","_law_kit_here","_law_one","_law_other","_law_looked_here","_law_filling_here","_law_here"]) (ps:=["_law_size_here","_law_kit_here","_law_one","_law_other","_law_looked_here"]) (k:=3) F λf nd cdv A outer s H E hr ds r hl c=> ?_
 obtain⟨p,L,one,oth,bs,hp,S,hone,hoth,lb,hb,rfl,rfl⟩:=c;have hu:=uN hr 4;refine aG<|iR (ds:=(bT p).map bN) (λt sd=>(∀u∈(bT p).take t,decide (wdQ bs (cY p L one u)=wdQ bs (cY p L oth u))=true)/\sd=[.val<|bW p,.val<|lK L,.val<|tN one,.val<|tN oth,.val (.lst<|bG bs),.un,.un]) (fV (PEd.val<|pdc (ds:=[bW p]) GA hr (aC (pdv 0) aM) ⟨p,hp,rfl,rfl⟩)) ⟨_,Le.refl _,λu hu=>by simp at hu,rfl⟩ (λt d sdk hd hk=> ?_) λsdn hn=> ?_
 ·obtain⟨ht,rfl⟩:=lQ hd;obtain⟨hk,rfl⟩:=hk;have et:(bT p).take (t+1)=(bT p).take t++[(bT p).getD t []]:=uC [] ht;have G:Fil p ((bT p).getD t []):=hW hp<|getD_mem (d:=[]) ht;have um:(bT p).getD t []∈bT p:=getD_mem ht;rw[et];generalize (bT p).getD t []=u at G um;refine⟨[.val<|bW p,.val<|lK L,.val<|tN one,.val<|tN oth,.val (.lst<|bG bs),.val<|bN u,.un],pgN 5, ?_⟩;refine aG<|mP (ds:=(wdQ bs<|cY p L one u).map D.int) 6 (pdc (ds:=[bN<|cY p L one u,.lst<|bG bs]) (r:=.own<|(wdQ bs<|cY p L one u).map D.int) GS hr (aC (pdc (ds:=[bW p,lK L,tN one,bN u]) (r:=.val (bN<|cY p L one u)) GD hr (aC (pdv 0)<|aC (pdv 1) (aC (pdv 2)<|aC (pdv 5) aM)) ⟨p,L,one,u,hp,S,hone,G.len,rfl,by rw[qT S one u hone G]⟩)<|aC (pdv 4) aM) ⟨bs,_,lb,λb q=>by rw[(gB S one u hone G).len];exact hb b q,rfl,rfl⟩) λl6=>iI 6 rfl ?_;refine aQ (fY (k:= !decide (wdQ bs (cY p L one u)=wdQ bs (cY p L oth u))) (PTd.cast (aBa (ra:=.val (.lst<|(wdQ bs<|cY p L one u).map D.int)) (rb:=.val (.lst<|(wdQ bs<|cY p L oth u).map D.int)) (pdv 6) (PEd.val<|pdc (ds:=[bN<|cY p L oth u,.lst<|bG bs]) (r:=.own<|(wdQ bs<|cY p L oth u).map D.int) GS hr (aC (pdc (ds:=[bW p,lK L,tN oth,bN u]) (r:=.val (bN<|cY p L oth u)) GD hr (aC (pdv 0)<|aC (pdv 1) (aC (pdv 3)<|aC (pdv 5) aM)) ⟨p,L,oth,u,hp,S,hoth,G.len,rfl,by rw[qT S oth u hoth G]⟩)<|aC (pdv 4) aM) ⟨bs,_,lb,λb q=>by rw[(gB S oth u hoth G).len];exact hb b q,rfl,rfl⟩) trivial trivial (.inr ⟨rfl,rfl⟩) (lX _) (lX _) (aRz hu<|by show jZ _+1+1<=4;rw[pO];decide))<|by show(!mD _ _)=_;rw[wV]) (λq=> ?_) λq=>cI ?_)
  ·refine aQ<|cO aHE trivial ?_;have nq:¬ wdQ bs (cY p L one u)=wdQ bs (cY p L oth u):=of_decide_eq_false (by rw[uZ] at q;exact q)
   have e:jV p L one oth bs=false:=by rw[aKY];intro z;unfold jV at z;exact nq (of_decide_eq_true<|cW.mp z u um)
   rw[e]
  ·refine⟨[.val<|bW p,.val<|lK L,.val<|tN one,.val<|tN oth,.val (.lst<|bG bs),.un,.un],lA,λv hv=> ?_,rfl⟩
   rcases bC.mp hv with hv|hv
   ·exact hk v hv
   ·rw[aF.mp hv];rw[tO] at q;exact q
 ·obtain⟨hn,rfl⟩:=hn;rw[aB,dW] at hn;have e:jV p L one oth bs=true:=cW.mpr hn;exact aQ (cO aHE trivial<|by rw[e])
abbrev nl28:List Str:=["_law_box","_law_cell","_law_size_here"]
theorem aIT(F:FI K mg "_law_filling" aEk)(ztuple:mg "tuple"=none)(zrange:mg "range"=none):bA P w K mg base "_law_filling" 1 2 aNQ:=by
 refine cG (N:=aNA) (ps:=aNA) (k:=0) F λf nd cdv A outer s H E hr ds r hl c=> ?_
 obtain⟨c,p,hp,rfl,rfl⟩:=c;obtain⟨h1,h2,h3,h4,h5⟩:=pE p hp;have e1:p.1=((p.1.toNat:Nat):Int):=by omega
 have e2:p.2=((p.2.toNat:Nat):Int):=by omega
 have m0:=pw0 p.1.toNat;have nd2:nl28.Nodup:=by decide+kernel
 refine aQ<|iJ (iU rfl ztuple<|PEd.bor (PEd.val<|PEd.cast (pdC (ds:=fC 0 p.2.toNat) (N:=nl28) (M:=aNA) (cap:=[none,some 0,some 1]) (sc:=bK aEk) (Tb:=λd=>[.val d,.val<|.int c,.val<|bW p]) (λ_=>true) (λd=>match d with | .int b=>D.int (c / ((2^(p.1.toNat*b.toNat):Nat):Int)%((2^p.1.toNat:Nat):Int))|_=>.non) (gF (n:=p.2.toNat) rfl zrange (PEd.ic (pdx (n:=1) (d:=.int p.2)<|pdv 1) e2)<|by omega) (by rw[eU];omega) (λcl C fp s H d hd=>.inl ⟨rfl,rfl⟩) λcl C fp s H d hd _=> ?_) (?_:_=R.own ((aLb c p).map D.int))))
 ·obtain⟨b,hb,rfl⟩:=aJ.mp hd;have hb:=bE.mp hb;have b6:p.1.toNat*b<=36:=aQj (show p.1.toNat<=6 by omega) (show b<=6 by omega);have p0:=pw0<|p.1.toNat*b;have p1:(2^(p.1.toNat*b):Nat)<=2^36:=jA (by decide) b6;show PEd _ _ _ (.val (.int<|c / ((2^(p.1.toNat*(0+(b:Int)).toNat):Nat):Int)%_));rw[jH,cF];refine dM gK (dM iP (pdv 1) (nO (k:=p.1.toNat*b) (PEd.ic (dM lF (PEd.ic (pdx (n:=0) (d:=.int p.1)<|pdv 2) e1) (pdv 0)<|lJ (i:=((p.1.toNat:Nat):Int)) (j:=((b:Nat):Int)) (eD (by omega:_<=6)<|by decide) (eD (by omega:_<=6)<|by decide))<|by push_cast;rfl)<|by omega) ⟨p0, ?_⟩) (nO (PEd.ic (pdx (n:=0) (d:=.int p.1)<|pdv 2) e1)<|by omega) m0;rw[uR];exact cB ((Nat.log2_lt<|by omega).mpr (eD p1 (by decide:2^36<2^37)))<|by decide
 ·rw[bS.mpr λ_ _=>rfl,kI];unfold bG aLb;rw[aN,aN];rfl
abbrev aQC:List Str:=["_law_kit_here","_law_row_here"]
theorem aJs(F:FI K mg "_law_price" aQH)(zsum:mg "sum"=none):bA P w K mg base "_law_price" 1 2 aNV:=by
 refine cG (N:=aQC) (ps:=aQC) (k:=0) F λf nd cdv A outer s H E hr ds r hl c=> ?_
 obtain⟨L,row,hrow,hl2,rfl,rfl⟩:=c;have nd2:(["_law_number","_law_kit_here"]:List Str).Nodup:=by decide+kernel
 have ec:((bG row).filter λ_=>true).map (λd=>match d with | .int t=>D.int (L.getD t.toNat AG).2|_=>.non)=(sG L row).map D.int:=by
  rw[bS.mpr λ_ _=>rfl];unfold bG sG;rw[aN,aN];refine bQ λt _=> ?_
  simp
 refine aQ<|iJ (PEd.ic (aEV (ns:=sG L row) rfl zsum (PEd.bor<|PEd.val (PEd.cast (pdC (ds:=bG row) (N:=["_law_number","_law_kit_here"]) (M:=aQC) (cap:=[none,some 0]) (sc:=bK aQH) (Tb:=λd=>[.val d,.val<|lK L]) (λ_=>true) (λd=>match d with | .int t=>D.int (L.getD t.toNat AG).2|_=>.non) (lE<|pdv 1) (by rw[show(bG row).length=row.length from aB _];omega) (λcl C fp s H d hd=>.inl ⟨rfl,rfl⟩) λcl C fp s H d hd _=> ?_)<|by rw[ec])))<|oS L row);obtain⟨t,ht,rfl⟩:=aJ.mp hd;have hn:=hrow t ht;exact pdx (n:=1) (ds:=[sqD (L.getD t AG).1,.int (L.getD t AG).2])<|jK (n:=t) (PEd.bor<|pdv 1) (pdv 0) (uB hn) λ_ _=>rfl
def aOd:List D->R->Prop:=λds r=>∃p L row bs w,McIn p L row (some bs) w/\1<=w/\w<=100/\row.length<=100/\fcQ p L bs w row=none/\ds=[bW p,.lst<|L.map skD,.tup<|bG row,.lst<|bG bs,.int (w:Int)]/\r=.val (.bl true)
theorem aDm(F:FI K mg "_law_cheap" aKF)(zrange:mg "range"=none)(zlen:mg "len"=none)(zmin:mg "min"=none)(GL:CalleeE [.none] P w K mg base "boxes_later" 3 4 aJZ)(GP:CalleeE [.none] P w K mg base "piece_for" 9 6 aLv):bA P w K mg base "_law_cheap" 10 5 aOd:=by
 refine cG (N:=["_law_size_here","_law_kit_here","_law_row_here","_law_looked_here","_law_width","_law_matter","_law_place","_law_many"]) (ps:=["_law_size_here","_law_kit_here","_law_row_here","_law_looked_here","_law_width"]) (k:=9) F λf nd cdv A outer s H E hr ds r hl c=> ?_
 obtain⟨p,L,row,bs,w,I,w1,w9,rl,hf,rfl,rfl⟩:=c;refine aG<|mP (ds:=lsD<|ltQ L bs row) 5 (pdc (ds:=[bW p,lK L,tN row,.lst<|bG bs]) GL.full hr (aC (pdv 0)<|aC (pdv 1) (aC (pdv 2)<|aC (pdv 3) aM)) ⟨p,L,row,some bs,I.k.hp,I.k.st,I.rw,rl,I.lk,rfl,rfl⟩) λl5=>iI 5 rfl ?_;refine aG<|jX (ds:=fC 0 row.length) (λt=>[.val<|bW p,.val<|lK L,.val<|tN row,.val (.lst<|bG bs),.val<|.int (w:Int),.val<|.lst (lsD<|ltQ L bs row),.un,.un]) (λt=>[.val<|bW p,.val<|lK L,.val<|tN row,.val (.lst<|bG bs),.val<|.int (w:Int),.val<|.lst (lsD<|ltQ L bs row),.val (.int<|0+(t:Int)),.un]) (gF (n:=row.length) rfl zrange (PEd.ic (vX rfl zlen<|pdv 2)<|by rw[sX])<|by omega) (Le.refl _) (λt d hd=> ?_) (λt d hd=> ?_) ?_
 ·obtain⟨_,rfl⟩:=fA hd;exact pgN 6
 ·obtain⟨ht,rfl⟩:=fA hd;rw[jH];have hn:=I.rw (row.getD t 0)<|DL.getD_mem ht;have i0:=(I.k.st.st _<|DL.getD_mem (d:=AG) hn).1.i0;obtain⟨es0,es1⟩:=aEB (L.getD (row.getD t 0) AG).1
  have ln:(lsD<|ltQ L bs row)[t+1]? =some (.lst (bG<|bqQ L bs (row.drop<|t+1))):=by unfold lsD ltQ;rw[aY,aY,rH<|by omega];rfl
  have mt:=aRJ I hf w1 ht;unfold aLk at mt;refine aLf (PTd.cast (aCz (ns:=(bqQ L bs (row.drop<|t+1)).map λ(t:Nat)=>(t:Int)) (PEd.ic (pdx (n:=1) (ds:=.str (nm (L.getD (row.getD t 0) AG).1.1)::.int (L.getD (row.getD t 0) AG).1.2.1::es0) (PEd.cast (pdx (n:=0) (ds:=[sqD (L.getD (row.getD t 0) AG).1,.int (L.getD (row.getD t 0) AG).2])<|jK (PEd.bor<|pdv 1) (oZ (n:=t) (d:=.int ((row.getD t 0:Nat):Int)) (pdv 2) (pdv 6) (qX ht) λ_ _=>rfl) (uB hn) λ_ _=>rfl)<|by rw[es1])) (show _=(((L.getD (row.getD t 0) AG).1.2.1.toNat:Nat):Int) by omega)) (PEd.cast (jK (n:=t+1) (PEd.bor<|pdv 5) (PEd.ic (eR fU (pdv 6) bV)<|by omega) ln λ_ _=>rfl)<|by rw[zR]))<|by rw[aKN,show(bqQ L bs (row.drop<|t+1)).contains (L.getD (row.getD t 0) AG).1.2.1.toNat=true from mt];rfl) ?_;have em:(if(row.length:Int)-(t:Int)<(w:Int) then(row.length:Int)-(t:Int) else(w:Int))=((min w (row.length-t):Nat):Int):=by split<;>omega
  refine aQ<|jX (ds:=fC 1 (((min w (row.length-t):Nat):Int)+1-1).toNat) (λ_=>[.val<|bW p,.val<|lK L,.val<|tN row,.val (.lst<|bG bs),.val<|.int (w:Int),.val<|.lst (lsD<|ltQ L bs row),.val<|.int (t:Int),.un]) (λm=>[.val<|bW p,.val<|lK L,.val<|tN row,.val (.lst<|bG bs),.val<|.int (w:Int),.val<|.lst (lsD<|ltQ L bs row),.val<|.int (t:Int),.val (.int<|1+(m:Int))]) (xF rfl zrange bV (eR fU (PEd.ic (aLS rfl zmin (pdv 4) (eR lV (PEd.ic (vX rfl zlen<|pdv 2)<|by rw[sX])<|pdv 6)) em) bV) ⟨by decide,by decide⟩ ⟨by omega,by omega⟩) (Le.refl _) (λm d hd=> ?_) (λm d hd=> ?_) ?_
  ·obtain⟨_,rfl⟩:=fA hd;exact pgN 7
  ·obtain⟨hmw,rfl⟩:=fA hd;have e1:1+(m:Int)=((m+1:Nat):Int):=by omega
   rw[e1];have h1:=fG.mp hf m (bE.mpr<|by omega);have h2:=fG.mp h1 t (bE.mpr<|by omega);have h3:pcQ p L row t (m+1) bs=none:=aBF.mp h2;exact aQ (dX (k:=false) (PTd.cast (lR (d:=.non) (PEd.cast (pdc (ds:=[bW p,lK L,tN row,.int (t:Int),.int ((m+1:Nat):Int),.lst<|bG bs]) (r:=.val (pfD<|pcQ p L row t (m+1) bs)) GP.full hr (aC (pdv 0)<|aC (pdv 1) (aC (pdv 2)<|aC (pdv 6) (aC (pdv 7)<|aC (pdv 3) aM))) ⟨p,L,row,t,m+1,some bs,I.pc (by omega) (by omega)<|by omega,rfl,rfl⟩)<|by rw[h3];rfl) iO) rfl) rfl<|cI lA)
  ·exact lA
 ·exact aQ<|iJ aHE
theorem aFs(l:List Nat):pl (.tup<|bG l)=true:=(xE l).1
theorem aCI(l:List Nat):dep (.tup<|bG l)=1:=by show jZ (bG l)+1=1;rw[(xE l).2]
theorem aQV(c:Ch):pl (chD c)=true:=by show(true&&(true&&(pl (.tup<|bG c.2.2)&&true)))=true;rw[aFs];rfl
theorem aOX(c:Ch):dep (chD c)<=2:=by show max 0 (max 0<|max (dep (.tup<|bG c.2.2)) 0)+1<=2;rw[aCI];decide
theorem aKK(cs:List Ch):pl (.lst<|cs.map chD)=true:=aAP chD aQV cs
theorem aFF(cs:List Ch):dep (.lst<|cs.map chD)<=3:=oP<|xS chD 2 aOX cs
theorem aRf(r:List Nat)(cs:List Ch):pl (.tup [.tup<|bG r,.lst<|cs.map chD])=true:=by show(pl (.tup<|bG r)&&(pl (.lst<|cs.map chD)&&true))=true;rw[aFs,aKK];rfl
theorem q12(q:List Int)(h:∀x∈q,x=1\/x=2)(hl:q.length<=3):q∈([[],[1],[2],[1,1],[1,2],[2,1],[2,2],[1,1,1],[1,1,2],[1,2,1],[1,2,2],[2,1,1],[2,1,2],[2,2,1],[2,2,2]]:List (List Int)):=by
 match q,hl with
 |[],_=>simp
 |[a],_=>rcases h a (by simp) with rfl|rfl<;>simp
 |[a,b],_=>rcases h a (by simp) with rfl|rfl<;>rcases h b (by simp) with rfl|rfl<;>simp
 |[a,b,c],_=>rcases h a (by simp) with rfl|rfl<;>rcases h b (by simp) with rfl|rfl<;>rcases h c (by simp) with rfl|rfl<;>simp
theorem kw94{p:Int×Int}(hp:p∈bU)(ns:List Int){w:Nat}(hw:w<=2):Kw p (ktN p ns 4 2 3) w:=by
 have K:=aRQ hp ns;have g:∀q∈([[],[1],[2],[1,1],[1,2],[2,1],[2,2],[1,1,1],[1,1,2],[1,2,1],[1,2,2],[2,1,1],[2,1,2],[2,2,1],[2,2,2]]:List (List Int)),enC q 3=true:=by decide+kernel
 refine⟨hp,K.st,K.nd,2,3,_,K.pr,by decide,by push_cast;omega,by decide,aLL K.st (by decide)<|g _ (q12 _ (λx hx=> ?_)<|by rw[aB];exact K.le)⟩;obtain⟨s,hs,rfl⟩:=aJ.mp hx;have:=(K.st.st s hs).2.1;have:=K.pr s hs;omega
theorem mc94{p:Int×Int}{L:List SK}{w:Nat}(k:Kw p L w){row:List Nat}(h:RowOk L row)(h6:row.length<=6){o:Option (List Nat)}(hl:aJE p o):McIn p L row o w:=by
 refine⟨k,h, ?_,hl⟩;have:=aBP (f:=9) (pr:=prK L) row λt ht=>(k.st.st _ (getD_mem (d:=(AG:SK))<|h t ht)).2.2
 omega
theorem aRq(c:Int)(n:Nat):(zC c n).Nodup:=by
 unfold zC
 split
 ·exact gY
 ·exact List.Pairwise.filter _ gY
theorem aJd{X:Cx}{sd:List Slot}{a b:Expr}{pos:Pos}{ra rb:R}(ha:PEd X sd a ra)(hb:PEd X sd b rb)(ka:ra.keeps)(kb:rb.keeps)(hs:(isT ra.toD=true/\isT rb.toD=true)\/(isL ra.toD=true/\isL rb.toD=true))(p1:pl ra.toD=true)(p2:pl rb.toD=true)(hu:X.A.units+dep ra.toD+1<AM):PEd X sd (.Compare a [.NotEq] [b] pos) (.val (.bl<|!deq ra.toD rb.toD)):=
 vW (aJO X.K _ _ hs p1 p2 hu) ha hb ka (iM _) λσ F H v u Q S q1 q2 k=>⟨q1.rep S ka,q2.rep S kb,k F H S<|Same.refl _⟩
abbrev nl30:List Str:=["_law_script","_law_size_here","_law_kit_here","_law_row_here","_law_looked_here","_law_width","_law_turn_here","_law_found","_law_changes","_law_less","_law_cell","_law_filling_here","_law_here","_law_there"]
theorem aPG(F:Fun K "law" "law" aHr f fd)(zisinstance:mg "isinstance"=none)(ztuple:mg "tuple"=none)(zlist:mg "list"=none)(GC:bA P w K mg base "_law_cell_at" 1 2 aHF)(GE:bA P w K mg base "_law_cells" 2 3 aNX)(GX:bA P w K mg base "_law_mixed" 1 2 aBT)(GZ:bA P w K mg base "_law_size" 1 1 aOa)(GU:bA P w K mg base "_law_turn" 1 2 aOg)(GK:bA P w K mg base "_law_kit" 2 5 aSu)(GD:bA P w K mg base "_law_done" 3 4 aEs)(GR:bA P w K mg base "_law_row" 2 2 aSA)(GL:bA P w K mg base "_law_looked" 1 2 aKv)(GS:bA P w K mg base "_law_seen" 1 2 aLt)(GA:bA P w K mg base "_law_same" 4 5 aES)(GF:bA P w K mg base "_law_filling" 1 2 aNQ)(GP:bA P w K mg base "_law_price" 1 2 aNV)(GH:bA P w K mg base "_law_cheap" 10 5 aOd)(GM:bA P w K mg base "made_cheaper" 11 5 CMc)(GT:bA P w K mg base "turned_stock" 2 2 aFE)(GB:bA P w K mg base "turned_boxes" 1 2 aOm):FnOk P w K mg base CX0 12 f fd ["_law_script"] (spC K 1 aQg):=by
 have nd:nl30.Nodup:=by decide+kernel
 refine aKk (N:=nl30) (ps:=["_law_script"]) (k:=11) F ⟨rfl,rfl,rfl,nd,rfl,by decide+kernel,by decide+kernel⟩ λcdv A outer s H E hr ds r hl c=> ?_
 obtain⟨ns,rfl,hns,rfl⟩:=c;have hu:=uN hr 6;have cell:∀ {sd:List Slot}{p1 p2 p3 p4:Pos}{j1:Nat} (k:Nat),k<=1000->sd[0]? =some (.val<|.scr ns)->PEd (qG CX0 P w K mg base nl30 "law" (bK aHr) f cdv A outer s H E).nox sd (.Call (.Name "_law_cell_at" p1) [.Name "_law_script" p2, .Constant (.int (k:Int)) j1 p3] [] p4) (.val (.int<|ns.getD k 0)):=λk hk hs=>pdc (ds:=[.scr ns,.int (k:Int)]) GC hr (aC (aEo 0 hs<|pv 0)<|aC bV aM) ⟨ns,k,rfl,hk,rfl⟩
 refine aG<|iV (d:=bW (aLc<|ns.getD 0 0)) 1 (pdc (ds:=[.int<|ns.getD 0 0]) GZ hr (aC (cell 0 (by decide) rfl) aM) ⟨_,rfl,rfl⟩) ?_;have hp:=aJo<|ns.getD 0 0;generalize aLc (ns.getD 0 0)=p at hp;obtain⟨h1,h2,h3,h4,h5⟩:=pE p hp;have e2:p.2=((p.2.toNat:Nat):Int):=by omega
 obtain⟨wd,hwd⟩:∃wd:Nat,1+ns.getD 2 0%2=(wd:Int):=⟨(1+ns.getD 2 0%2).toNat,by omega⟩;have w1:1<=wd/\wd<=2:=by omega
 refine aG<|mP (ds:=(ktN p ns 4 2 3).map skD) 2 (pdc (ds:=[.scr ns,.int ((4:Nat):Int),bW p,.int ((3:Nat):Int),.int 2]) GK hr (aC (pdv 0) (aC bV<|aC (pdv 1) (aC bV<|aC bV aM))) ⟨ns,4,3,p,2,hp,by decide,by decide,by decide,by decide,by decide,rfl,rfl⟩) λl2=>iI 2 rfl ?_;have kw:=kw94 hp ns w1.2;generalize ktN p ns 4 2 3=L at kw;have S:=kw.st;obtain⟨m,hm⟩:∃m:Nat,1+ns.getD 1 0 / 320%6=(m:Int):=⟨(1+ns.getD 1 0 / 320%6).toNat,by omega⟩;have m1:1<=m/\m<=6:=by omega
 refine aG<|iV (d:=tN<|rwQ (zG ns 7 m) L.length) 3 (pdc (ds:=[.lst<|(zG ns 7 m).map D.int,lK L]) GR hr (aC (PEd.val<|pdc (ds:=[.scr ns,.int ((7:Nat):Int),.int (m:Int)]) GE hr (aC (pdv 0) (aC bV<|aC (PEd.ic (eR fU bV (dM gK (dM iP (cell 1 (by decide) rfl) bV ⟨by decide,by decide⟩) bV<|by decide)) hm) aM)) ⟨ns,7,m,by decide,by omega,rfl,rfl⟩)<|aC (pdv 2) aM) ⟨zG ns 7 m,L,S.pos,by simp[zG];omega,rfl,rfl⟩) ?_;have hrow:RowOk L _:=aPb (zG ns 7 m) S.pos;have hrl:(rwQ (zG ns 7 m) L.length).length=m:=by rw[aLF];simp[zG]
 generalize rwQ (zG ns 7 m) L.length=row at hrow hrl;refine aJY (sd':=[.val<|.scr ns,.val<|bW p,.val<|lK L,.val<|tN row,.un,.un,.un,.un,.un,.un,.un,.un,.un,.un]) (Le.refl _) ?_;refine aG<|mP (ds:=bG<|zC (ns.getD 1 0) p.2.toNat) 4 (pdc (ds:=[.int<|ns.getD 1 0,bW p]) GL hr (aC (cell 1 (by decide) rfl)<|aC (pdv 1) aM) ⟨_,p,hp,rfl,rfl⟩) λl4=>iI 4 rfl ?_;obtain⟨lb,hb⟩:=aMp (ns.getD 1 0) p.2.toNat;have lnd:=aRq (ns.getD 1 0) p.2.toNat;generalize zC (ns.getD 1 0) p.2.toNat=bs at lb hb lnd;have lk1:bs.length<=100:=by omega
 have hlk:aJE p (some bs):=λl q=>by cases q;exact⟨lk1,hb⟩
 refine aG<|iV (d:=.int (wd:Int)) 5 (PEd.ic (eR fU bV (dM gK (cell 2 (by decide) rfl) bV<|by decide)) hwd) ?_;refine aG<|iV (d:=tN<|aHC (kJ (ns.getD 3 0) 1) p.2.toNat) 6 (pdc (ds:=[.int<|kJ (ns.getD 3 0) 1,.int ((p.2.toNat:Nat):Int)]) GU hr (aC (pdc (ds:=[.int<|ns.getD 3 0,.int ((1:Nat):Int)]) GX hr (aC (cell 3 (by decide) rfl)<|aC bV aM) ⟨_,1,rfl,by decide,rfl⟩)<|aC (PEd.ic (pdx (n:=1) (d:=.int p.2)<|pdv 1) e2) aM) ⟨_,p.2.toNat,by omega,by omega,rfl,rfl⟩) ?_;have T:=aIy (kJ (ns.getD 3 0) 1) p.2.toNat;generalize aHC (kJ (ns.getD 3 0) 1) p.2.toNat=τ at T;have I:=mc94 kw hrow (by omega) hlk;have St:=McSt.start I bs;obtain⟨I2,n2,n3,n4⟩:=St.end_;obtain⟨g1,g2⟩:=aRI (row:=row) St rfl (λt c h=>by simp at h);have ls:=aMg St
 have hlk2:aJE p (some<|tbx p.2.toNat τ bs):=λl q=>by cases q;refine⟨bZ (fO _ _) (by rw[dE];omega),λb hb=>bE.mp (cS.mp hb).1⟩
 have I':McIn p (tkQ τ L) row (some<|tbx p.2.toNat τ bs) wd:=⟨aRg T I.k,(tQ row).mpr I.rw,by rw[pC];exact I.pr,hlk2⟩;have eT:mcQ p (tkQ τ L) (tbx p.2.toNat τ bs) wd row=mcQ p L bs wd row:=aFa T hb _ row [] I I';have cM:CMc [bW p,lK L,tN row,.lst<|bG bs,.int (wd:Int)] (mcR<|mcQ p L bs wd row):=⟨p,L,row,some bs,wd,I,by omega,rfl,rfl⟩;have cT:CMc [bW p,lK<|tkQ τ L,tN row,.lst (bG<|tbx p.2.toNat τ bs),.int (wd:Int)] (mcR<|mcQ p L bs wd row):=⟨p,tkQ τ L,row,some<|tbx p.2.toNat τ bs,wd,I',by omega,rfl,by rw[<-eT];rfl⟩;generalize mcQ p L bs wd row=fn at n2 n3 n4 I2 g1 g2 ls cM cT;obtain⟨rf,cs⟩:=fn;have g1:rf=cs.foldl wcQ row:=g1;have n2:cs.length<=120:=n2;have cM:CMc [bW p,lK L,tN row,.lst<|bG bs,.int (wd:Int)] (.pr (tN rf)<|cs.map chD):=cM;have cT:CMc [bW p,lK<|tkQ τ L,tN row,.lst (bG<|tbx p.2.toNat τ bs),.int (wd:Int)] (.pr (tN rf)<|cs.map chD):=cT;have I2:McIn p L rf (some bs) wd:=I2;have n4:fcQ p L bs wd rf=none:=n4;have g2:aQc p L (some bs) row cs:=g2;have ls:S45.prQ (prK L) rf<=S45.prQ (prK L) row/\((rf,cs)=(row,[])\/0<cs.length/\S45.prQ (prK L) rf<S45.prQ (prK L) row):=ls
 have rl:rf.length<=100:=by
  have a:=nK I2.k.st I2.rw;have b:=aBP (f:=9) (pr:=prK L) row λt ht=>(S.st _ (getD_mem (d:=(AG:SK))<|hrow t ht)).2.2
  have:=ls.1;omega
 have sm:jV p L row rf bs=true:=by have:=aIP g2 cs.length<|aR _;rw[dW,<-g1] at this;exact(pQ hp S hrow I2.rw<|some bs).mp this
 have pm:∀cs:List Ch,pl (.tup [tN rf,.lst<|cs.map chD])=true:=aRf rf
 have dm:∀cs:List Ch,dep (.tup [tN rf,.lst<|cs.map chD])<=4:=λcs=>by have:=aFF cs;show max (dep<|tN rf) (max (dep (.lst<|cs.map chD)) 0)+1<=4;rw[aCI];omega
 refine aG<|aLE (d:=.tup [tN rf,.lst<|cs.map chD]) (PEd.valP<|pdc (ds:=[bW p,lK L,tN row,.lst<|bG bs,.int (wd:Int)]) GM hr (aC (pdv 1) (aC (pdv 2)<|aC (pdv 3) (aC (pdv 4)<|aC (pdv 5) aM))) cM) (kN (js:=[7,8]) (ds:=[tN rf,.lst<|cs.map chD]) rfl (eI (pgn 7)<|eI (pgn 8) kM) rfl rfl) ?_;refine aLf (PWd.pt (aKJ (k:=false) (j:=false) (rX (k:=true) (pK<|PEd.cast (aFI rfl zisinstance rfl ztuple PyProof.Rows.boot_tuple (pdv 7) (λ_=>by simp)<|aGm _ _) rfl)) λ_=>aEN<|rX (k:=true) (pK<|PEd.cast (aFI rfl zisinstance rfl zlist PyProof.Rows.boot_list (pdv 8) (λ_=>by simp)<|aIz _ _) rfl))) ?_;refine aLf (rX (k:=true)<|pK (PEd.cast (pdc (ds:=[bW p,lK L,tN row,tN rf,.lst<|bG bs]) (r:=.val (.bl<|jV p L row rf bs)) GA hr (aC (pdv 1) (aC (pdv 2)<|aC (pdv 3) (aC (pdv 7)<|aC (pdv 4) aM))) ⟨p,L,row,rf,bs,hp,S,hrow,I2.rw,lk1,hb,rfl,rfl⟩)<|by rw[sm])) ?_;refine aG<|iV (d:=.int<|S45.prQ (prK L) row-S45.prQ (prK L) rf) 9 (eR lV (pdc (ds:=[lK L,tN row]) GP hr (aC (pdv 2)<|aC (pdv 3) aM) ⟨L,row,hrow,by omega,rfl,rfl⟩)<|pdc (ds:=[lK L,tN rf]) GP hr (aC (pdv 2)<|aC (pdv 7) aM) ⟨L,rf,I2.rw,by omega,rfl,rfl⟩) ?_;have q1:¬ S45.prQ (prK L) row-S45.prQ (prK L) rf<0:=by have:=ls.1;omega
 have q2:(!deq (.lst<|cs.map chD) (.lst []))=decide (0<S45.prQ (prK L) row-S45.prQ (prK L) rf):=by
  rcases ls.2 with e|⟨e,e'⟩
  ·cases e;rw[Int.sub_self];rfl
  ·rw[decide_eq_true<|by omega];cases cs with
   |nil=>cases e
   |cons c l=>rfl
 generalize S45.prQ (prK L) row-S45.prQ (prK L) rf=le at q1 q2;refine aLf (PWd.pt<|aKJ (k:=false) (j:=false) (PTd.cast (qY aLw (pdv 9) bV rfl)<|decide_eq_false q1) λ_=>aEN (PTd.cast (aLM (aHA aLr (pdv 9) bV rfl)<|PEd.cast (aJd (ra:=.val (.lst<|cs.map chD)) (rb:=.val<|.lst []) (pdv 8) (PEd.val<|pdL (ds:=[]) aM) trivial trivial (.inr ⟨rfl,rfl⟩) (aKK _) rfl (aPX hu<|by have:=aFF cs;show dep (.lst _)+1<=6;omega)) (show R.val (.bl (!deq (.lst<|cs.map chD) (.lst [])))=R.val (.bl (decide<|0<le)) by rw[q2]))<|by simp)) ?_
 obtain⟨xs,hxs,lxs⟩:∃xs:List Int,DL.cutD (ns.map D.int) (some 13) (some 63)=xs.map D.int/\xs.length<=64:=by
  refine⟨(ns.drop (HT.sIx ns.length 0<|some 13)).take<|HT.sIx ns.length ns.length (some 63)-HT.sIx ns.length 0 (some 13), ?_, ?_⟩
  ·unfold DL.cutD;rw[gC,gD,aB]
  ·rw[dD,eX];omega
 refine aG<|jX (ds:=xs.map D.int) (λt=>[.val<|.scr ns,.val<|bW p,.val<|lK L,.val<|tN row,.val (.lst<|bG bs),.val<|.int (wd:Int),.val<|tN τ,.val<|tN rf,.val (.lst<|cs.map chD),.val<|.int le,.un,.un,.un,.un]) (λt=>[.val<|.scr ns,.val<|bW p,.val<|lK L,.val<|tN row,.val (.lst<|bG bs),.val<|.int (wd:Int),.val<|tN τ,.val<|tN rf,.val (.lst<|cs.map chD),.val<|.int le,.val (.int<|xs.getD t 0),.un,.un,.un]) (fV<|PEd.val (PEd.cast (aOD (ol:=some 13) (oh:=some 63) (pdv 0) bV bV)<|by rw[hxs])) (Le.refl _) (λt d hd=> ?_) (λt d hd=> ?_) ?_
 ·obtain⟨_,rfl⟩:=sE hd;exact pgN 10
 ·obtain⟨ht,rfl⟩:=sE hd;generalize xs.getD t 0=c;refine aG<|iV (d:=bN<|aLb c p) 11 (pdc (ds:=[.int c,bW p]) GF hr (aC (pdv 10)<|aC (pdv 1) aM) ⟨_,p,hp,rfl,rfl⟩) ?_;have G:=aMM c p;generalize aLb c p=one at G
  have es:(bs.map λj=>(dnQ p L rf one).getD j 0)=(bs.map λj=>(dnQ p L row one).getD j 0):=by rw[qT S rf one I2.rw G,qT S row one hrow G];exact(of_decide_eq_true (cW.mp sm one<|mE G.1 G.2)).symm
  have ln:=G.1;refine aG<|mP (ds:=(bs.map λj=>(dnQ p L rf one).getD j 0).map D.int) 12 (pdc (ds:=[bN<|dnQ p L rf one,.lst<|bG bs]) GS hr (aC (pdc (ds:=[bW p,lK L,tN rf,bN one]) GD hr (aC (pdv 1)<|aC (pdv 2) (aC (pdv 7)<|aC (pdv 11) aM)) ⟨p,L,rf,one,hp,S,I2.rw,ln,rfl,rfl⟩)<|aC (pdv 4) aM) ⟨bs,_,lk1,λb q=>by rw[aBL,ln];exact hb b q,rfl,rfl⟩) λl12=>iI 12 rfl ?_;refine aQ (dX (k:=false) (PTd.cast (aBa (ra:=.val (.lst<|(bs.map λj=>(dnQ p L rf one).getD j 0).map D.int)) (rb:=.val (.lst<|(bs.map λj=>(dnQ p L row one).getD j 0).map D.int)) (pdv 12) (PEd.val<|pdc (ds:=[bN<|dnQ p L row one,.lst<|bG bs]) GS hr (aC (pdc (ds:=[bW p,lK L,tN row,bN one]) GD hr (aC (pdv 1)<|aC (pdv 2) (aC (pdv 3)<|aC (pdv 11) aM)) ⟨p,L,row,one,hp,S,hrow,ln,rfl,rfl⟩)<|aC (pdv 4) aM) ⟨bs,_,lk1,λb q=>by rw[aBL,ln];exact hb b q,rfl,rfl⟩) trivial trivial (.inr ⟨rfl,rfl⟩) (lX _) (lX _) (aPX hu<|by have:=pO<|bs.map λj=>(dnQ p L rf one).getD j 0;show jZ _+1+1<=6;omega))<|by show(!deq (.lst _) (.lst _))=_;rw[es,oV (D.lst<|(bs.map λj=>(dnQ p L row one).getD j 0).map D.int)<|lX _];rfl) rfl<|cI ?_);exact lA
 refine aLf (rX (k:=true) (pK<|pdc (ds:=[bW p,lK L,tN rf,.lst<|bG bs,.int (wd:Int)]) (r:=.val<|.bl true) GH hr (aC (pdv 1) (aC (pdv 2)<|aC (pdv 7) (aC (pdv 4)<|aC (pdv 5) aM))) ⟨p,L,rf,bs,wd,I2,w1.1,by omega,rl,n4,rfl,rfl⟩)) ?_;have pm0:pl (.tup [tN rf,.lst []])=true:=pm [];have em:mcQ p L bs wd rf=(rf,[]):=nN n4 [] 120;refine aLf (PTd.cast (aBa (ra:=.val<|.tup [tN rf,.lst []]) (rb:=.val<|.tup [tN rf,.lst []]) (PEd.valP<|pdc (ds:=[bW p,lK L,tN rf,.lst<|bG bs,.int (wd:Int)]) (r:=.pr (tN rf) []) GM hr (aC (pdv 1) (aC (pdv 2)<|aC (pdv 7) (aC (pdv 4)<|aC (pdv 5) aM))) ⟨p,L,rf,some bs,wd,I2,by omega,rfl,by show _=mcR (mcQ p L bs wd rf);rw[em];rfl⟩) (pdT (ds:=[tN rf,.lst []]) (aC (pdv 7)<|aC (PEd.val<|pdL (ds:=[]) aM) aM)) trivial trivial (.inl ⟨rfl,rfl⟩) pm0 pm0 (aPX hu<|by have:=dm [];show dep (.tup _)+1<=6;exact oP (bZ this<|by decide)))<|by show(!deq (.tup _) (.tup _))=false;rw[oV _ pm0];rfl) ?_;refine aG<|iV (d:=.tup [tN rf,.lst<|cs.map chD]) 13 (PEd.valP<|pdc (ds:=[bW p,lK<|tkQ τ L,tN row,.lst (bG<|tbx p.2.toNat τ bs),.int (wd:Int)]) GM hr (aC (pdv 1) (aC (PEd.val<|pdc (ds:=[tN τ,lK L]) GT hr (aC (pdv 6)<|aC (pdv 2) aM) ⟨p.2.toNat,τ,L,T.len,by have:=S.le;omega,λs hs=>(S.st s hs).1.b,rfl,rfl⟩)<|aC (pdv 3) (aC (PEd.val<|pdc (ds:=[tN τ,.lst<|bG bs]) GB hr (aC (pdv 6)<|aC (pdv 4) aM) ⟨p.2.toNat,τ,bs,T,by omega,lnd,by omega,hb,rfl,rfl⟩)<|aC (pdv 5) aM))) cT) ?_;exact aQ<|cO (PEd.cast (aPj (ra:=.val<|.tup [tN rf,.lst<|cs.map chD]) (rb:=.val<|.tup [tN rf,.lst<|cs.map chD]) (pdv 13) (pdT (ds:=[tN rf,.lst<|cs.map chD]) (aC (pdv 7)<|aC (pdv 8) aM)) trivial trivial (.inl ⟨rfl,rfl⟩) (pm cs) (pm cs) (aPX hu<|by have:=dm cs;show dep (.tup _)+1<=6;omega))<|by show R.val (.bl (deq (.tup _)<|.tup _))=_;rw[oV _<|pm cs]) trivial rfl
theorem aBz{t1 t2 t3:Tok}:Vals [V.str "not",V.str "up",V.str "down"] (#[Value.str "not" t1,Value.str "up" t2,Value.str "down" t3]:Array BH).toList:=.cons ⟨_,rfl⟩ (.cons ⟨_,rfl⟩<|.cons ⟨_,rfl⟩ .nil)
theorem all_mk{h:BL}{fa:BJ}(X:K.In h)(G:h.Ns AN mg)(hfa:mg "law"=some (.ref fa))
  {odL anL:Option BJ}{slL:Array (Option BH)}{ocL kVL dcL pmL cdL ctL:BH}{fL:BJ}{fBY:BJ}{dB:Option BJ}{t1 t2 t3:Tok}{nB:Nat}{sB:Array (Option BH)}{tmst:Tok}{CS fSI:BJ}{odSh anSh:Option BJ}{slSh:Array (Option BH)}{ocSh kVSh dcSh pmSh cdSh ctSh:BH}{fSB:BJ}{odBu anBu:Option BJ}{slBu:Array (Option BH)}{ocBu kVBu dcBu pmBu cdBu ctBu:BH}
    (aL:kB K AN "law"=some (some<|.ref fL)) (lL:K.lookup fL=some ⟨ocL,odL,.func<|cV "law" "law" (fT aHr) (dY aHr) (bK aHr) .none kVL dcL pmL anL cdL ctL,slL⟩) (cL:fE K cdL "law"=true) (kL:cU K (.ref fL)=true) (zrange:mg "range"=none) (ztuple:mg "tuple"=none) (zenumerate:mg "enumerate"=none) (zlen:mg "len"=none) (zmin:mg "min"=none) (zlist:mg "list"=none) (zsorted:mg "sorted"=none) (zsum:mg "sum"=none) (zset:mg "set"=none) (zreversed:mg "reversed"=none) (zisinstance:mg "isinstance"=none) (aBY:kB K AN "BY_ITSELF"=some (some<|.ref fBY)) (lBY:K.lookup fBY=some ⟨.type "tuple",dB,.seq #[.str "not" t1,.str "up" t2,.str "down" t3] nB,sB⟩) (amst:kB K AN "MOST_TABLES"=some (some<|.int 500 tmst)) (aSh:kB K AN "Shelf"=some (some<|.ref CS)) (iSh:dF K (.ref CS) "__init__"=some (some<|.ref fSI)) (fSh:oH K (.ref fSI)=true) (lSh:K.lookup fSI=some ⟨ocSh,odSh,.func<|cV "__init__" "Shelf.__init__" (fT aLg) (dY aLg) (bK aLg) .none kVSh dcSh pmSh anSh cdSh ctSh,slSh⟩) (cSh:fE K cdSh "Shelf.__init__"=true) (kSh:cU K (.ref fSI)=true) (pgSh:kK K CS Str.empty=true) (hdSh:mN K CS=true) (poSh:tH K CS=true) (saSh:dF K (.ref CS) "__setattr__"=some (some<|.builtin "object.__setattr__")) (mkSh:vG K CS=true) (kcSh:cU K (.ref CS)=true) (nZSh:dF K (.ref CS) "size"=some none) (nSSh:dF K (.ref CS) "stock"=some none) (nMSh:dF K (.ref CS) "made"=some none) (iBu:dF K (.ref CS) "book_up_to"=some (some<|.ref fSB)) (fBu:oH K (.ref fSB)=true) (lBu:K.lookup fSB=some ⟨ocBu,odBu,.func<|cV "book_up_to" "Shelf.book_up_to" (fT aNx) (dY aNx) (bK aNx) .none kVBu dcBu pmBu anBu cdBu ctBu,slBu⟩) (cBu:fE K cdBu "Shelf.book_up_to"=true) (kBu:cU K (.ref fSB)=true) (hC:FI K mg "word_count" aKT) (hEa:FI K mg "with_each_word" aDN) (hFi:FI K mg "fillings" aNR) (hNu:FI K mg "number_of" aRY) (hI:FI K mg "word_by_itself" aFC) (hA:FI K mg "word_by_another" aCb) (hN:FI K mg "new_word" aCx) (hB:FI K mg "written_box" aCG) (hS:FI K mg "step_on" aFB) (hNo:FI K mg "numbers_of_step" aQG) (hMo:FI K mg "moves_of" aDT) (hNb:FI K mg "numbers_behind" aLo) (hPu:FI K mg "put_longer_rows" aSm) (hFo:FI K mg "found_rows" sFd) (hTf:FI K mg "table_from" aEa) (hBk:FI K mg "book_of" aLy) (hR:FI K mg "row_on" aJI) (hTa:FI K mg "table_of" aEv) (hBo:FI K mg "boxes_looked_at" aKr) (hWi:FI K mg "words_in" xC) (hIw:FI K mg "is_window" aKa) (hWt:FI K mg "words_told" aDX) (hFb:FI K mg "fillings_by_words" aSE) (hWa:FID K mg "wish_at" aQq) (hMs:FI K mg "misses_at" aNY) (hDo:FI K mg "does_wish" aOq) (hFt:FI K mg "first_that_does" sFt) (hP:FI K mg "price_of" aEp) (hSa:FI K mg "steps_at" aCw) (hPf:FI K mg "piece_from" aEg) (hPo:FID K mg "piece_for" aLp) (hWc:FI K mg "with_change" aEW) (hFc:FI K mg "first_change" sFc) (hCf:FI K mg "cheaper_from" sCf) (hMc:FIE K mg "made_cheaper" sMc) (hRd:FI K mg "boxes_read" aJV) (hAh:FI K mg "boxes_ahead" aBr) (hLa:FID K mg "boxes_later" aFJ) (hTs:FI K mg "turned_step" aEm) (hTk:FI K mg "turned_stock" aBc) (hTx:FI K mg "turned_boxes" aLh) (hCa:FI K mg "_law_cell_at" aEC) (hCe:FI K mg "_law_cells" aBo) (hMi:FI K mg "_law_mixed" aKh) (hZ:FI K mg "_law_size" aFf) (hAl:FI K mg "_law_all" aLs) (hTu:FI K mg "_law_turn" aKi) (hQ:FI K mg "_law_step" aKe) (hLw:FI K mg "_law_word" aFi) (hMd:FI K mg "_law_made" aKw) (hKi:FI K mg "_law_kit" aHw) (hDn:FI K mg "_law_done" aFg) (hRo:FI K mg "_law_row" aEi) (hLk:FI K mg "_law_looked" aAR) (hSe:FI K mg "_law_seen" aDV) (hSm:FI K mg "_law_same" aNZ) (hFl:FI K mg "_law_filling" aEk) (hPr:FI K mg "_law_price" aQH) (hCh:FI K mg "_law_cheap" aKF):
  ∃fd:AL,(∀ (s:BI) (v:BH),BindsTo s fd ⟨[v],[]⟩ [("_law_script",v)])/\∀base:BL,K.In base->base.Ns AN mg->FnOk P w K mg base CX0 12 fa fd ["_law_script"] (spC K 1 aQg):=by
 have e:=hfa.symm.trans<|jI X G aL;cases e;have byself:∃ad,mg "BY_ITSELF"=some (.ref ad)/\∀H:Hp,SqT K H ad [V.str "not",V.str "up",V.str "down"]:=⟨_,jI X G aBY,λH=>.inr ⟨_,_,_,lBY,rfl,rfl,iS rfl,aBz⟩⟩;have mst:∃t,mg "MOST_TABLES"=some (.int 500 t):=⟨_,jI X G amst⟩;have shT:sJ K mg CS:=⟨⟨pgSh,hdSh,poSh,saSh⟩,nZSh,nSSh,nMSh,jI X G aSh⟩;have shM:Mk K CS fSI:=⟨mkSh,iSh,fSh,kcSh⟩;have shF:=aBI (st:=aLg) lSh cSh kSh;have mBu:aQd K CS "book_up_to" fSB:=⟨iBu,fBu,kBu⟩;have shB:=aBI (st:=aNx) lBu cBu kBu;have FL:=aBI (st:=aHr) lL cL kL;refine⟨cV "law" "law" (fT aHr) (dY aHr) (bK aHr) .none kVL dcL pmL anL cdL ctL,λs v=>.of_eq rfl,λbase _ _=> ?_⟩;have GC:=aIV (P:=P) (w:=w) (base:=base) hC zrange;have GEa:=aLH (P:=P) (w:=w) (base:=base) hEa zrange;have GFi:=aLN hFi zrange GC GEa;have GNu:=aOB hNu GC;have GI:=aGY (P:=P) (w:=w) (base:=base) hI;have GA:=aDe (P:=P) (w:=w) (base:=base) hA;have GN:=aDh hN byself GC GI GA;have GB:=aDB (P:=P) (w:=w) (base:=base) hB;have GS:=aGQ hS GB GN;have GNo:=aJp hNo ztuple GNu GS GFi;have GMo:=aDz hMo GNo;have GNb:=aFV (P:=P) (w:=w) (base:=base) hNb ztuple;have GPu:=aIJ hPu zenumerate GNb;have GFo:=aCZ hFo zlen zmin zlist zsorted mst GPu;have GTf:=aDu (P:=P) (w:=w) (base:=base) hTf ztuple;have GBk:=aGA hBk zlen zrange ztuple GFi GMo GFo GTf;have GR:=aIA hR GS;have GTa:=aIr hTa ztuple GFi GR;have GBo:=aIF (P:=P) (w:=w) (base:=base) hBo zlist zrange;have GWi:=aDy (P:=P) (w:=w) (base:=base) hWi;have GIw:=aCV (P:=P) (w:=w) (base:=base) hIw zlen;have GWt:=aDD hWt ztuple GWi;have GFb:=aIg hFb zenumerate GFi;have GWa:=aIt hWa zlist zenumerate GIw GBo GTa GWt GFb GFi;have GMs:=aGf hMs zenumerate GFi;have GDo:=aMY hDo GMs;have GFt:=aMN hFt GDo;have GP:=aHR (P:=P) (w:=w) (base:=base) hP zsum;have GSa:=aDH (P:=P) (w:=w) (base:=base) hSa;have GPf:=aGo hPf shT mBu shB GBk GWa GSa GP GFt;have GPo:=aJl hPo shT shM shF GPf;have GWc:=aGT (P:=P) (w:=w) (base:=base) hWc;have GFc:=aMQ hFc zrange zlen GPf;have GCf:=aLQ hCf GFc GWc;have GMc:=aMo hMc shT shM shF GCf;have GRd:=aJh (P:=P) (w:=w) (base:=base) hRd zsorted zset;have GAh:=aGg hAh zlist zsorted zset GB GRd;have GLa:=aGI hLa zlist zreversed GBo GAh;have GTs:=aIZ (P:=P) (w:=w) (base:=base) hTs ztuple;have GTk:=aGj hTk GTs;have GTx:=aMP (P:=P) (w:=w) (base:=base) hTx zsorted;have GCa:=aFL (P:=P) (w:=w) (base:=base) hCa zlen;have GCe:=aGp hCe zrange GCa;have GMi:=aJw (P:=P) (w:=w) (base:=base) hMi;have GZ:=aGe (P:=P) (w:=w) (base:=base) hZ zlen;have GAl:=aLZ (P:=P) (w:=w) (base:=base) hAl zrange;have GTu:=aJe (P:=P) (w:=w) (base:=base) hTu zlist zrange zlen ztuple;have GQ:=aJj (P:=P) (w:=w) (base:=base) hQ;have GLw:=aFQ (P:=P) (w:=w) (base:=base) hLw;have GMd:=aIn hMd GLw;have GKi:=aLI hKi zrange GCa GMi GQ;have GDn:=aFR hDn GMd;have GRo:=aID hRo ztuple zlen zrange GMi;have GLk:=aGd (P:=P) (w:=w) (base:=base) hLk zlist zrange;have GSe:=aHW (P:=P) (w:=w) (base:=base) hSe;have GSm:=aFX hSm GAl GDn GSe;have GFl:=aIT (P:=P) (w:=w) (base:=base) hFl ztuple zrange;have GPr:=aJs (P:=P) (w:=w) (base:=base) hPr zsum;have GCh:=aDm hCh zrange zlen zmin GLa GPo;exact aPG FL zisinstance ztuple zlist GCa GCe GMi GZ GTu GKi GDn GRo GLk GSe GSm GFl GPr GCh GMc GTk GTx
end K94
open PySem PySem.W PyProof.Rows
namespace PySem.W.Fast
theorem tw10021074291872210590:True:=trivial
theorem tw10302096025419778305:True:=trivial
theorem tw11159904264450463137:True:=trivial
theorem tw11182612563452449917:True:=trivial
theorem tw1146628406430033571:True:=trivial
theorem tw11614341965694367757:True:=trivial
theorem tw1177887588234589832:True:=trivial
theorem tw11949895064297857293:True:=trivial
theorem tw11959396871541566567:True:=trivial
theorem tw12003874223590514274:True:=trivial
theorem tw12113172189152519604:True:=trivial
theorem tw1228903922848886902:True:=trivial
theorem tw1247054829088788453:True:=trivial
theorem tw12730636876888809302:True:=trivial
theorem tw1286234249956731415:True:=trivial
theorem tw13199474758717701889:True:=trivial
theorem tw13216637918238327530:True:=trivial
theorem tw13219203002716630592:True:=trivial
theorem tw13647459203199342556:True:=trivial
theorem tw13667532495062132676:True:=trivial
theorem tw13815260623810039766:True:=trivial
theorem tw138401537669781312:True:=trivial
theorem tw13871508979225435283:True:=trivial
theorem tw13888010363311754465:True:=trivial
theorem tw14283194218857477904:True:=trivial
theorem tw14410885525499173653:True:=trivial
theorem tw16211798784065351355:True:=trivial
theorem tw16322510182661330555:True:=trivial
theorem tw16434590659439765109:True:=trivial
theorem tw16490505989319677336:True:=trivial
theorem tw16696396317856984203:True:=trivial
theorem tw17610355223719019838:True:=trivial
theorem tw17636726967751568646:True:=trivial
theorem tw17961326909066636495:True:=trivial
theorem tw18368151795433722939:True:=trivial
theorem tw1902665548750915003:True:=trivial
theorem tw1997628002598588577:True:=trivial
theorem tw2312872873811893831:True:=trivial
theorem tw2437836891446270486:True:=trivial
theorem tw2625362362717660685:True:=trivial
theorem tw2751805886764189004:True:=trivial
theorem tw2808837747723871867:True:=trivial
theorem tw2814034283583560334:True:=trivial
theorem tw326084416390935269:True:=trivial
theorem tw3359946905736757269:True:=trivial
theorem tw3369271104459683173:True:=trivial
theorem tw3389824948384418169:True:=trivial
theorem tw348433316311937303:True:=trivial
theorem tw3635843252101740650:True:=trivial
theorem tw3712182725226297084:True:=trivial
theorem tw3740445468922397228:True:=trivial
theorem tw3745146512818972250:True:=trivial
theorem tw4091433431235236735:True:=trivial
theorem tw4298002061332219178:True:=trivial
theorem tw4468512138675373106:True:=trivial
theorem tw4472672522923391239:True:=trivial
theorem tw4614717145448727596:True:=trivial
theorem tw4632995683451578511:True:=trivial
theorem tw4684979964010888197:True:=trivial
theorem tw4794975083680727527:True:=trivial
theorem tw4943492899538538795:True:=trivial
theorem tw5006326291696103838:True:=trivial
theorem tw5092023432831708009:True:=trivial
theorem tw5306419026918020931:True:=trivial
theorem tw5468162984082132535:True:=trivial
theorem tw5786316732753737230:True:=trivial
theorem tw6117997658421472605:True:=trivial
theorem tw6140398699577484025:True:=trivial
theorem tw6177276129008313453:True:=trivial
theorem tw6476578669076681176:True:=trivial
theorem tw653866199734383548:True:=trivial
theorem tw6819465156009751533:True:=trivial
theorem tw7004480839413539049:True:=trivial
theorem tw7098897127076773032:True:=trivial
theorem tw7599770255735481720:True:=trivial
theorem tw7759793671726870877:True:=trivial
theorem tw7777859449668620071:True:=trivial
theorem tw8076578633054526175:True:=trivial
theorem tw8124272485852614237:True:=trivial
theorem tw8377954872417936090:True:=trivial
theorem tw8478153614915829219:True:=trivial
theorem tw8960974966463714819:True:=trivial
theorem tw8971303251136831932:True:=trivial
theorem tw9336916505272782483:True:=trivial
theorem tw9393241599011032333:True:=trivial
theorem tw9597600233154445368:True:=trivial
theorem tw9661126661767426183:True:=trivial
theorem tw9994100298431273782:True:=trivial
end PySem.W.Fast
set_option maxRecDepth 100000 in
set_option maxHeartbeats 0 in
theorem PySem.Challenge.cw_leastrow_k94_whole_rows_made_cheaper_tur_holds : PySem.Challenge.rw_leastrow_k94_whole_rows_made_cheaper_tur.Holds := by
 w_on;o_law;k_head;(case hw=>w_witness2)
 k_fill
 refine DL.walkD (l:=PySem.Challenge.rw_leastrow_k94_whole_rows_made_cheaper_tur) (k:=12) (x:="_law_script") rfl rfl ⟨rfl,by decide,by decide,rfl⟩ (λw h Y=>PySem.W.kIn_of Y) ?F
 case F=>
  intro w mg fa h KX G hmg;refine' K94.all_mk KX G hmg ?aL ?lL ?cL ?kL ?zrange ?ztuple ?zenumerate ?zlen ?zmin ?zlist ?zsorted ?zsum ?zset ?zreversed ?zisinstance ?aBY ?lBY ?amst ?aSh ?iSh ?fSh ?lSh ?cSh ?kSh ?pgSh ?hdSh ?poSh ?saSh ?mkSh ?kcSh ?nZSh ?nSSh ?nMSh ?iBu ?fBu ?lBu ?cBu ?kBu ..
  (case aL|lL|cL|kL|aBY|lBY|amst|aSh|iSh|fSh|lSh|cSh|kSh|pgSh|hdSh|poSh|saSh|mkSh|kcSh|nZSh|nSSh|nMSh|iBu|fBu|lBu|cBu|kBu=>k_is);(case zrange|ztuple|zenumerate|zlen|zmin|zlist|zsorted|zsum|zset|zreversed|zisinstance=>refine' PySem.W.mg_none_of KX G ?a;(case a=>k_is))
  any_goals (refine' DL.FI.mk KX G ?a ?l ?c ?k;(case a|l|c|k=>k_is))
  any_goals (refine' DL.FID.mk KX G ?a ?l ?c ?k ?t;(case a|l|c|k|t=>k_is))
  any_goals (refine' DL.FIE.mk KX G ?a ?l ?c ?k ?t;(case a|l|c|k|t=>k_is))
