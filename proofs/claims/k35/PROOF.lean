import PyProof.Rows.All
import Wide.All
import OpenK.AllK
import Wide.FinOn
import Lean
import PyProof.EqAt
import PyProof.EqKinds
import PyProof.TupleCall
import PySem.Challenge.RW_leastrow_k35_whole_examples_and_tables
set_option Elab.async false
set_option linter.all false
set_option maxRecDepth 100000
open PySem renaming wpAny_bind→AA,wpAny_pure→AB,starEach→AD,model→AF,wpAny→AG,Program→AI,World→AL,wpAny_setState_of→AM,sizeLine→AN,mainGlobals→AQ,cLine→AR,wpAny_holding→AS,sizeLine_eq→AU,FuncData→AV,wpAny_mono→AW,wpAny_field→AX,wpAny_call_entry→AY,compareOp→Aa,wpAny_askSetting→Ab,wpAny_seqItems→Ac,wpAny_Call_Name_kw→Ad,behindInMarks→Ae,swapsWith→Af,foldedSetIterable→Ag,wpAny_newObj_type→Ah,wpAny_callSpecial?_slot→Ai,backTo→Ak,rawInt→Al,binaryOp→Am,wpAny_setField_rec→An,tupleKind→Ao,wpAny_storeSet_of→Ap,wpAny_comprehension_free→Ar,IsPair→As,wpAny_setField→At,carriedByValue→Au,putSet_of→Av,sysModules→Aw,bootBuiltins→Ax,assignEach→Ay,wpAny_rule→Az,codeAny_mono→BC,wpAny_isInstance→BD,setSearchFrom→BE,wpAny_passesOwn→BF,tupleKind_room_in1→BG
open PyProof.Rows renaming pendingOf→AC,wpS_bind→AE,Keyed→AH,wpS_pure→AJ,arrOf→AK,wpS_forRange→AT,wpS_mono→AZ,envOfC→Aj,SortKind→Aq,wpS_modify→BA,setPending→BB
open List renaming length_map→aA,mem_append_right→aC,mem_map→aH,map_append→aI,mem_append→aJ,mem_cons_self→aK,mem_cons_of_mem→aO,size_toArray→aQ,map_cons→aR,mem_append_left→aU,mem_cons→aV,map_map→aX,mem_map_of_mem→aY,getElem?_eq_some_iff→aZ,mem_singleton→bA,mem_range→bB,getD→bF,range→bK,getElem?_map→bL,all_eq_true→bN,idxOf_lt_length_of_mem→bO,length_append→bR,map_congr_left→cI,length_cons→cM,getElem?_eq_none→cO,extract_eq_take_drop→cR,mem_of_getElem?→cU,pairwise_append→cV,length_take→cW,nodup_append→cX,map_nil→dD,getElem?_eq_getElem→dH,filter_eq_self→dJ,replicate→dM,mem_singleton_self→dN,take_add_one→dO,length_range→dP,nodup_nil→eD,mem_filter→eM,append_nil→eO,lookup_cons→eR,getElem_mem→eU,getElem_of_mem→eW,nodup_cons→fB,pairwise_cons→fE,length_eq_zero_iff→fG,getElem?_append_right→fI,take_of_length_le→fJ,pairwise_map→fM,filterMap_cons→fN,getElem?_append_left→fP,mem_flatMap→fR,take_length→fS,append_assoc→gA,not_mem_nil→gH,getElem_idxOf→gK,take_append_drop→gM,length_set→gU,length_nil→gW,getElem?_of_mem→gY,mem_filterMap→iG,zip_cons_cons→iH,find?_cons→iJ,getElem?_set_ne→iW,mem_of_mem_drop→iX,mem_of_mem_take→iY,drop_eq_getElem_cons→jG,pairwise_iff_getElem→jH,map→jO,forIn_cons→jS,drop_of_length_le→kE,length_filter_le→lE,perm_append_comm→lF,getElem_inj→lH,getElem_map→lI,any_cons→lQ,forIn_nil→nK,find?_eq_none→nL,nodup_iff_pairwise_ne→nM,mem_or_eq_of_mem_set→nU,map_id→oA,filter_congr→oB,map_take→oF,length_drop→pB,any_eq_true→pD,ext_getElem→pE,nodup_range→pF,pairwise_singleton→pG,map_set→pP,nil_append→qH,filter_map→qI,length_replicate→qX,getElem?_range→rV,flatMap_append→rW,map_drop→tH,append_of_mem→tJ,foldl_append→uO,ext_getElem?→uP,zipIdx_cons→vP,eq_nil_iff_forall_not_mem→vQ,length→yP,eq_nil_of_length_eq_zero→yQ,of_mem_zip→yW,dropLast_concat_getLast→yX,length_zip→yY
open PySem.W renaming Frag→aB,mg_none_of→dW,keepIn→eJ,fnOf→eQ,nsIn→eZ,codeIn→iP,kitOne→kA,excIn→lB,findIn→mR,exmOne→qM,methodObj→tI,mg_of→zQ
open PySem.Heap renaming get?_push_of_some→aE,lt_size→aM,get?_push_size→bE,get?_update_self→cY,get?_update_other→eV,size_push→kF,get?_none_of_le→lV
open Bool renaming false_eq_true→aF,and_eq_true→bH,false_ne_true→bS,not_true→dR,eq_iff_iff→eP,not_eq_true'→iO,false_and→iZ,not_false→jA,or_eq_true→jT,beq_eq_decide_eq→lG,eq_false_iff→oD,and_false→rK
open Nat renaming le_refl→aG,le_of_ble_eq_true→aP,lt_of_lt_of_le→aW,zero_le→bI,ne_of_lt→bQ,lt_or_eq_of_le→bW,lt_of_le_of_lt→cB,le_trans→cP,lt_irrefl→cQ,le_of_lt→cZ,ne_of_gt→gG,lt_or_ge→kP,min_self→nA,le_of_not_lt→pN,lt_succ_self→pO,lt_trans→qJ,div_div_eq_div_mul→qK,sub_self→qL,pow_le_pow_right→rU,not_lt→uI,mod_lt→uJ,pow_succ→uS,succ_pos→uT,zero_add→uU,le_add_right→yR,min_eq_right→yS,min_eq_left→zN
open Int renaming emod_lt_of_pos→bM,emod_nonneg→bP,toNat_natCast→dG,zero_add→gZ,ne_of_gt→kQ
open Option renaming some→bT,map_eq_some_iff→cS,isSome→eK,map→lA,bind_eq_some_iff→oG,isSome_some→rX,isNone_iff_eq_none→zO
open PySem.SetTable renaming runEnd→cC,bits→cG,probe→cN,sizeAbove→dE,turns→dY,below→eF,insertAt→gP,layClean→gQ,eraseAt→iQ,leap→nN,slot→nQ,grown→pQ,drop→rE,tooFull→tL,laid→zF
open Array renaming toList_append→dA,length_toList→dI,toList_extract→dU,getElem?_toList→eY,perm_iff_toList_perm→gJ,forIn_toList→iC,toList_push→iK,getElem?_eq_some_iff→iV,size_extract→jU,getElem?_eq_none→kB,mem_toList_iff→lR,toList_reverse→lU,toList_inj→oW,toList_map→uV,replicate→yT,getElem?_setIfInBounds→yU,getD_eq_getD_getElem?→yZ,getElem?_eq_none_iff→zP
open PySem.F renaming plainAttrs_list→jP,slot_list_index→jQ,args_tuple_add_2→nT,entry_tuple_add→oE,slot_tuple_add→oX,excBase_ValueError→yV,args_list_index_2→zG,entry_list_index→zR
open List renaming perm_ext_iff_of_nodup→aAw,getElem?_zip_eq_some→aAy,getElem?_take_of_lt→aBn,find?_range_eq_some→aBo,getElem?_set_self→aCR,filter_eq_nil_iff→aCS,pairwise_lt_range→aCT,drop_eq_nil_of_le→aCU,append_eq_nil_iff→aCV,all_map→aCX,reverse_reverse→aFt,take_succ_cons→aFA,reverse_append→aFB,idxOf_append→aIo,getElem_zip→aKd,isEmpty_nil→aKe,range_succ→aKo,zipIdx_nil→aKp,take_left'→aKq,drop_left'→aKr,foldl_cons→aKs,take_left→aMB,drop_left→aMC,drop_drop→aMD,all_cons→aMU
open PySem.F renaming type_list_index→aAx,slot_dict_get→aBp,slot_set_sub→aCt,slot_set_and→aCu
open Int renaming fdiv_eq_ediv_of_nonneg→aAz
open Option renaming isNone→aAA,bind_eq_bind→aCY,isSome_none→aFx,getD_none→aHb,getD_some→aHc,bind_some→aHd,pure_def→aIp,none→aMV
open Array renaming getElem?_replicate→aAB,getElem?_modify→aCW,mem_filter→aIq,toList→aMX
open PySem.W renaming cellsFrom_some→aAC,callWith_K→aDa,specialIn→aFy,instObj→aHe,isFn→aKv
open PySem.SetTable renaming has→aAD,sameMemory→aCs,gaveWay→aFz,relaid→aFD,fill→aIs,fits→aIt
open Bool renaming and_self→aCr,true_or→aCZ,false_or→aMW
open Nat renaming le_of_eq→aFu,succ_mul→aFv,pow_zero→aFw,mul_le_mul_right→aFC,le_succ→aGZ,div_one→aHa,lt_succ_of_lt→aKf,le_of_lt_succ→aKg,succ_le_succ→aKt,lt_of_not_le→aKu,add_assoc→aOn
open PySem.Heap renaming get?_push_ne→aIr,size_update→aKh
open PySem renaming Value→BH,Shared→BI,Addr→BJ,Around→BK,Heap→BL,Obj→BM,Stmt→BN,SetTable→BQ
open PyProof.Rows renaming SortSt→BP
namespace L2
open PySem PySem.Spec PyProof.Rows
noncomputable abbrev Key:=Sum Int Str
noncomputable def xB:Key->BH->Bool
 |.inl k,v=>Value.isInt k v
 |.inr x,v=>Value.isStrOf x v
noncomputable def keyH(w:AL):Key->Int
 |.inl k=>hashInt k
 |.inr x=>hashStr w x
theorem gD:∀ {k:Key}{v:BH},xB k v=true->(∃i t,k=Sum.inl i/\v=Value.int i t)\/(∃x t,k=Sum.inr x/\v=Value.str x t)
 |.inl i,v,h=>by obtain⟨t,e⟩:=Value.isInt_shape (k:=i) (v:=v) h;exact .inl ⟨i,t,rfl,e⟩
 |.inr x,v,h=>by obtain⟨t,e⟩:=Value.isStrOf_shape (x:=x) (v:=v) h;exact .inr ⟨x,t,rfl,e⟩
theorem aEY(i:Int)(t:Tok):xB (.inl i) (.int i t)=true:=by simp[xB,Value.isInt]
theorem aEU(x:Str)(t:Tok):xB (.inr x) (.str x t)=true:=by simp[xB,Value.isStrOf]
theorem aMu(a b:Int):decide ((Sum.inl a:Key)=Sum.inl b)=(a==b):=by
 by_cases e:a=b
 ·subst e;simp
 ·have h:¬ (Sum.inl a:Key)=Sum.inl b:=λq=>e (Sum.inl.inj q)
  rw[decide_eq_false h];exact(beq_eq_false_iff_ne.mpr e).symm
theorem aMt(a b:Str):decide ((Sum.inr a:Key)=Sum.inr b)=decide (a=b):=by
 by_cases e:a=b
 ·subst e;simp
 ·have h:¬ (Sum.inr a:Key)=Sum.inr b:=λq=>e (Sum.inr.inj q)
  rw[decide_eq_false h,decide_eq_false e]
theorem aMs(a:Int)(b:Str):decide ((Sum.inl a:Key)=Sum.inr b)=false:=decide_eq_false λq=>nomatch q
theorem aLC(a:Str)(b:Int):decide ((Sum.inr a:Key)=Sum.inl b)=false:=decide_eq_false λq=>nomatch q
noncomputable def eC(prog:AI)(w:AL):PySem.KeyKind prog w Key where
 is:=xB
 hash:=keyH w
 inj:=λv a b ha hb=>by
  rcases gD ha with⟨i,t,rfl,rfl⟩|⟨x,t,rfl,rfl⟩
  ·rcases gD hb with⟨j,u,rfl,e⟩|⟨y,u,rfl,e⟩
   ·injection e with e1 _;rw[e1]
   ·exact nomatch e
  ·rcases gD hb with⟨j,u,rfl,e⟩|⟨y,u,rfl,e⟩
   ·exact nomatch e
   ·injection e with e1 _;rw[e1]
 byValue:=λk v h=>by rcases gD h with⟨i,t,rfl,rfl⟩|⟨x,t,rfl,rfl⟩<;>rfl
 pyHash:=λhv h=>by
  rcases gD hv with⟨i,t,rfl,rfl⟩|⟨x,t,rfl,rfl⟩
  ·exact wpAny_pyHash_int h
  ·exact wpAny_pyHash_str h
 eqBool:=λhu hv h=>by
  rcases gD hu with⟨i,t,rfl,rfl⟩|⟨x,t,rfl,rfl⟩
  ·rcases gD hv with⟨j,u,rfl,rfl⟩|⟨y,u,rfl,rfl⟩
   ·rw[aMu] at h;exact wpAny_eqBool_int h
   ·rw[aMs] at h;exact SeqAt.EqAt.int_str i t y u _ _ _ _ h
  ·rcases gD hv with⟨j,u,rfl,rfl⟩|⟨y,u,rfl,rfl⟩
   ·rw[aLC] at h;exact SeqAt.EqAt.str_int x t j u _ _ _ _ h
   ·rw[aMt] at h;exact wpAny_eqBool_str h
 «strs»:=λk x t v h=>by
  rcases gD h with⟨i,u,rfl,e⟩|⟨y,u,rfl,e⟩
  ·exact nomatch e
  ·injection e with e1 _
   subst e1;cases v<;>rfl
theorem aBk(prog:AI)(w:AL)(i:Int)(t:Tok):(eC prog w).is (.inl i) (.int i t)=true:=aEY i t
theorem aBh(prog:AI)(w:AL)(x:Str)(t:Tok):(eC prog w).is (.inr x) (.str x t)=true:=aEU x t
inductive V where
 |non|bl (b:Bool)|int (i:Int)|str (x:Str)|byt (b:Array UInt8)|flt (b:UInt64)|ref (a:BJ)|ty (n:String)
 deriving DecidableEq
noncomputable def RelV:V->BH->Prop
 |.non,u=>u=Value.none
 |.bl b,u=>u=Value.bool b
 |.int i,u=>∃t,u=Value.int i t
 |.str x,u=>∃t,u=Value.str x t
 |.byt b,u=>∃t,u=Value.bytes b t
 |.flt b,u=>∃t,u=Value.float b t
 |.ref a,u=>u=Value.ref a
 |.ty n,u=>u=Value.type n
abbrev Vals:List V->List BH->Prop:=Paired RelV
theorem Vals.length{xs:List V}{us:List BH}(r:Vals xs us):xs.length=us.length:=Paired.length r
theorem Vals.get:∀ {xs:List V}{us:List BH}{i:Nat}{x:V},Vals xs us->xs[i]? =some x->∃u,us[i]? =some u/\RelV x u
 |_,_,_,_,.nil,e=>by simp at e
 |_,_,0,_,.cons r _,e=>by simp at e;subst e;exact⟨_,rfl,r⟩
 |_,_,i+1,x,.cons _ t,e=>by obtain⟨u,h1,h2⟩:=Vals.get (i:=i) (x:=x) t (by simpa using e);exact⟨u,by simpa using h1,h2⟩
theorem Vals.set{x:V}{u:BH}(r:RelV x u):∀ {xs:List V}{us:List BH} (i:Nat),Vals xs us->Vals (xs.set i x) (us.set i u)
 |_,_,_,.nil=>.nil
 |_,_,0,.cons _ t=>.cons r t
 |_,_,i+1,.cons q t=>.cons q<|Vals.set r i t
theorem Vals.append:∀ {xs ys:List V}{us ws:List BH},Vals xs us->Vals ys ws->Vals (xs++ys) (us++ws)
 |_,_,_,_,.nil,s=>s
 |_,_,_,_,.cons r t,s=>.cons r<|Vals.append t s
theorem Vals.take:∀ {xs:List V}{us:List BH} (n:Nat),Vals xs us->Vals (xs.take n) (us.take n)
 |_,_,0,_=>.nil
 |_,_,_+1,.nil=>.nil
 |_,_,n+1,.cons r t=>.cons r<|Vals.take n t
theorem Vals.drop:∀ {xs:List V}{us:List BH} (n:Nat),Vals xs us->Vals (xs.drop n) (us.drop n)
 |_,_,0,r=>r
 |_,_,_+1,.nil=>.nil
 |_,_,n+1,.cons _ t=>Vals.drop n t
noncomputable def RelO:Option V->Option BH->Prop
 |some v,some u=>RelV v u
 |none,none=>True
 |_,_=>False
def KV{κ:Type}:List (κ×V)->List (κ×BH)->Prop:=Paired λ(p:κ×V) (q:κ×BH)=>p.1=q.1/\RelV p.2 q.2
noncomputable def kV:Key->V
 |.inl i=>.int i
 |.inr x=>.str x
inductive HO where
 /-- a list -/
 |lst (xs:List V)
 /-- a tuple (never changes) -/
 |tup (xs:List V)
 /-- a dict whose keys are ints and texts;one whose keys are tuples of ints and texts (the empty one is both) -/
 |dK (kvs:List (Key×V))|dT (kvs:List (List Key×V))
 /-- a set of ints:its members,its size -/
 |set (S:Int->Bool) (n:Nat)
 /-- an instance of the class at C,its dict at dx,its attributes -/
 |ins (C dx:BJ) (fs:List (Str×V))
 /-- the dict of the instance at x -/
 |own (x:BJ)
 /-- the dict of an exception -/
 |xd (fs:List (Str×V))
 /-- a bound method,f of x -/
 |met (f x:BJ)
 /-- a range object lo,lo+1, .. below hi -/
 |rng (lo hi:Int)
 /-- a thing that is known to the object (the script;a dict while a loop walks it):read,never written while it is so -/
 |frz (o:BM) (u:HO)
 /-- a code object's table -/
 |tbl (ps:Array BH)
 /-- any other thing,by what is true of its one object (a def of one's own:SetO a S n:=HO.ext λh=> ..) -/
 |ext (φ:BL->Prop)
noncomputable abbrev Hp:=BJ->Option HO
noncomputable def upd(H:Hp)(a:BJ)(o:HO):Hp:=λb=>if b=a then some o else H b
theorem cD{H:Hp}{a:BJ}{o:HO}:upd H a o a=some o:=by unfold upd;rw[if_pos rfl]
theorem bU{H:Hp}{a b:BJ}{o:HO}(h:b≠a):upd H a o b=H b:=by unfold upd;rw[if_neg h]
theorem cA{H:Hp}{a b:BJ}{o:HO}(h:H a=some o)(h':H b=none):a≠b:=by intro e;subst e;rw[h] at h';cases h'
def IsTupD(h:BL)(a:BJ)(items:Array BH):Prop:=∃o,h.get? a=some o/\o.cls=.type "tuple"/\(∃n,o.data=.seq items n)/\o.dict=none
theorem IsTupD.tup{h:BL}{a:BJ}{items:Array BH}(x:IsTupD h a items):IsTup h a items:=let ⟨o,e,c,d,_⟩:=x;⟨o,e,c,d⟩
theorem IsTupD.new(h:BL)(items:Array BH):IsTupD (h.push {cls:=.type "tuple",data:=.seq items}) h.objs.size items:=⟨_,bE _ rfl,rfl,⟨_,rfl⟩,rfl⟩
variable (P:AI)(w:AL)
noncomputable def ObjOk(H:Hp)(h:BL)(a:BJ):HO->Prop
 |.lst xs=>xs.length<=AN/\∃ (its:List BH) (n:Nat),Vals xs its/\h.get? a=some {cls:=.type "list",data:=.seq its.toArray n}
 |.tup xs=>xs.length<=AN/\∃its:List BH,Vals xs its/\IsTupD h a its.toArray
 |.dK kvs=>kvs.length<=AN/\(a==Aw)=false/\∃vs,KV kvs vs/\h.DictOf (eC P w) a vs
 |.dT kvs=>kvs.length<=AN/\(a==Aw)=false/\∃xs:List (List Key×BJ×BH),
   Paired (λ(p:List Key×V) (q:List Key×BJ×BH)=>p.1=q.1/\H q.2.1=some (.tup<|p.1.map kV)/\RelV p.2 q.2.2) kvs xs/\
   ∃o es ep,h.get? a=some o/\o.ExactDict/\o.data=.dict es ep/\es.toList=xs.map (entryOfKey (Ao<|eC P w))/\(xs.map (·.1)).Nodup
 |.set S n=>h.SetOf (intKind P w) a S n
 |.ins C dx fs=>H dx=some (.own a)/\fs.length<=1000/\dx≠a/\h.get? a=some (aHe C dx)/\
   ∃mA,h.Ns1 dx mA/\(∀f,RelO (fs.lookup f)<|mA f)/\PySem.Within mA (fs.map (·.1))
 |.own _=>∃o,h.get? a=some o
 |.xd fs=>∃mA,h.Ns1 a mA/\∀f,RelO (fs.lookup f)<|mA f
 |.rng lo hi=>∃t u v,h.get? a=some {cls:=.type "range",data:=.fields #[.int lo t,.int hi u,.int 1 v]}
 |.frz o u=>h.get? a=some o/\ObjOk H h a u
 |.tbl ps=>h.get? a=some {cls:=.none,data:=.fields ps}
 |.met f x=>h.get? a=some (tI (.ref f)<|.ref x)
 |.ext φ=>φ h/\(∃o,h.get? a=some o)/\∀h1 h2:BL,φ h1->(∀o,h1.get? a=some o->h2.get? a=some o)->φ h2
def HOk(H:Hp)(h:BL):Prop:=∀a o,H a=some o->ObjOk P w H h a o
variable {P:AI}{w:AL}{H H':Hp}{h h':BL}{a:BJ}{o:HO}
theorem ObjOk.lt(x:ObjOk P w H h a o):a<h.objs.size:=by
 cases o with
 |lst xs=>obtain⟨_,_,_,_,e⟩:=x;exact aM e
 |tup xs=>obtain⟨_,_,_,p⟩:=x;exact p.tup.lt
 |dK kvs=>obtain⟨_,_,_,_,o,_,_,e,_⟩:=x;exact aM e
 |dT kvs=>obtain⟨_,_,_,_,o,_,_,e,_⟩:=x;exact aM e
 |set S n=>obtain⟨o,_,_,_,e,_⟩:=x;exact aM e
 |ins C dx fs=>obtain⟨_,_,_,e,_⟩:=x;exact aM e
 |own y=>obtain⟨_,e⟩:=x;exact aM e
 |xd fs=>obtain⟨_,⟨_,_,_,e,_⟩,_⟩:=x;exact aM e
 |rng lo hi=>obtain⟨_,_,_,e⟩:=x;exact aM e
 |frz ob u=>obtain⟨e,_⟩:=x;exact aM e
 |tbl ps=>exact aM (show h.get? a=some _ from x)
 |met f y=>exact aM (show h.get? a=some _ from x)
 |ext φ=>obtain⟨_,⟨_,e⟩,_⟩:=x;exact aM e
theorem Paired.mapP{α β:Type}{F G:α->β->Prop}:∀ {l₁:List α}{l₂:List β},Paired F l₁ l₂->(∀a b,F a b->G a b)->Paired G l₁ l₂
 |_,_,.nil,_=>.nil
 |_,_,.cons r t,f=>.cons (f _ _ r)<|Paired.mapP t f
theorem ObjOk.stay(x:ObjOk P w H h a o)(k:∀b u,(b=a\/H b=some (.own a))->h.get? b=some u->h'.get? b=some u)
  (ho:∀b,H b=some (.own a)->H' b=some (.own a)) (ht:∀b xs,H b=some (.tup xs)->H' b=some (.tup xs)):ObjOk P w H' h' a o:=by
 induction o with
 |lst xs=>obtain⟨z,its,n,r,e⟩:=x;exact⟨z,its,n,r,k _ _ (.inl rfl) e⟩
 |tup xs=>obtain⟨z,its,r,ob,e,c⟩:=x;exact⟨z,its,r,ob,k _ _ (.inl rfl) e,c⟩
 |dK kvs=>obtain⟨z,y,vs,r,ob,es,ep,e,c⟩:=x;exact⟨z,y,vs,r,ob,es,ep,k _ _ (.inl rfl) e,c⟩
 |dT kvs=>obtain⟨z,y,xs,r,ob,es,ep,e,c⟩:=x;exact⟨z,y,xs,Paired.mapP r λp q z=>⟨z.1,ht _ _ z.2.1,z.2.2⟩,ob,es,ep,k _ _ (.inl rfl) e,c⟩
 |set S n=>obtain⟨ob,es,ep,t,e,c⟩:=x;exact⟨ob,es,ep,t,k _ _ (.inl rfl) e,c⟩
 |ins C dx fs=>obtain⟨d,z,ne,e,mA,⟨od,es,ep,e2,c⟩,r⟩:=x;exact⟨ho _ d,z,ne,k _ _ (.inl rfl) e,mA,⟨od,es,ep,k _ _ (.inr d) e2,c⟩,r⟩
 |own y=>obtain⟨ob,e⟩:=x;exact⟨ob,k _ _ (.inl rfl) e⟩
 |xd fs=>obtain⟨mA,⟨od,es,ep,e,c⟩,r⟩:=x;exact⟨mA,⟨od,es,ep,k _ _ (.inl rfl) e,c⟩,r⟩
 |rng lo hi=>obtain⟨t,u,v,e⟩:=x;exact⟨t,u,v,k _ _ (.inl rfl) e⟩
 |frz ob u ih=>obtain⟨e,q⟩:=x;exact⟨k _ _ (.inl rfl) e,ih q⟩
 |tbl ps=>have e:h.get? a=some {cls:=.none,data:=.fields ps}:=x;show h'.get? a=some {cls:=.none,data:=.fields ps};exact k a _ (.inl rfl) e
 |met f y=>have e:h.get? a=some (tI (.ref f)<|.ref y):=x;show h'.get? a=some (tI (.ref f)<|.ref y);exact k a _ (.inl rfl) e
 |ext φ=>obtain⟨p,⟨o,e⟩,st⟩:=x;exact⟨st _ _ p λo q=>k _ _ (.inl rfl) q,⟨o,k _ _ (.inl rfl) e⟩,st⟩
theorem HOk.lt(x:HOk P w H h)(e:H a=some o):a<h.objs.size:=(x a o e).lt
theorem HOk.fresh(x:HOk P w H h)(e:h.objs.size<=a):H a=none:=by
 cases q:H a with
 |none=>rfl
 |some u=>exact absurd (aW (x.lt q) e)<|cQ _
theorem HOk.kept(x:HOk P w H h)(k:∀b u,h.get? b=some u->h'.get? b=some u):HOk P w H h':=λa o e=>(x a o e).stay (λb u _ q=>k b u q) (λ_ q=>q) λ_ _ q=>q
theorem HOk.laid(x:HOk P w H h)(k:∀b u,h.get? b=some u->h'.get? b=some u)(hp:h.objs.size<=a)(new:ObjOk P w (upd H a o) h' a o):HOk P w (upd H a o) h':=λb u e=>by
 have hn:=x.fresh hp
 by_cases hb:b=a
 ·subst hb;rw[cD] at e;cases e;exact new
 ·rw[bU hb] at e;exact(x b u e).stay (λc v _ q=>k c v q) (λc q=>by rw[bU<|cA q hn];exact q) λc xs q=>by rw[bU<|cA q hn];exact q
def Rd(H:Hp)(a:BJ)(u:HO):Prop:=H a=some u\/∃o,H a=some (.frz o u)
theorem Rd.ok{u:HO}(r:Rd H a u)(x:HOk P w H h):ObjOk P w H h a u:=by
 rcases r with r|⟨o,r⟩
 ·exact x a u r
 ·obtain⟨_,q⟩:=x a _ r;exact q
noncomputable def Mut:Option HO->Prop
 |some (.lst _)=>True
 |some (.dK _)=>True
 |some (.dT _)=>True
 |some (.set _ _)=>True
 |some (.ins _ _ _)=>True
 |some (.ext _)=>True
 |_=>False
variable {x e:BJ}{o':HO}
theorem HOk.write(ok:HOk P w H h)(mu:Mut (H x))(he:e=x\/H e=some (.own x))(k:∀b u,b≠e->h.get? b=some u->h'.get? b=some u)(heo:∃u,h'.get? e=some u)
  (new:ObjOk P w (upd H x o') h' x o'):HOk P w (upd H x o') h':=λb u q=>by
 have nown:∀c y,H c=some (.own y)->c≠x:=λc y r z=>by subst z;rw[r] at mu;exact mu
 have ntup:∀c xs,H c=some (.tup xs)->c≠x:=λc xs r z=>by subst z;rw[r] at mu;exact mu
 by_cases hb:b=x
 ·subst hb;rw[cD] at q;cases q;exact new
 ·rw[bU hb] at q
  by_cases hbe:b=e
  ·have q':H b=some (.own x):=by
    rcases he with z|z
    ·exact absurd (hbe.trans z) hb
    ·rw[hbe];exact z
   rw[q] at q';cases q';obtain⟨v,hv⟩:=heo;exact⟨v,by rw[hbe];exact hv⟩
  ·refine(ok b u q).stay (λc v hc r=>k c v ?_ r) (λc r=>by rw[bU<|nown c b r];exact r) λc xs r=>by rw[bU<|ntup c xs r];exact r
   rcases hc with rfl|hc
   ·exact hbe
   ·rintro rfl
    rcases he with z|z
    ·exact nown c b hc z
    ·rw[hc] at z;cases z;exact hb rfl
structure Un(fs ex:List BJ)(H H':Hp)(h h':BL):Prop where
 keep:∀b o,h.get? b=some o->H b=none->b∉fs->b∉ex->h'.get? b=some o
 slot:∀b o,h.get? b=some o->H b=none->b∈fs->b∉ex->∃sl,h'.get? b=some {o with slots:=sl}
 free:∀b o,h.get? b=some o->H b=none->b∉ex->H' b=none
 there:∀b o,h.get? b=some o->b∉ex->∃o',h'.get? b=some o'
 tups:∀b xs,H b=some (.tup xs)->H' b=some (.tup xs)
 frzs:∀b o u,H b=some (.frz o u)->H' b=some (.frz o u)
 tbls:∀b ps,H b=some (.tbl ps)->∃more,H' b=some (.tbl<|ps++more)
section
variable {fs fs' ex ex':List BJ}{H H1 H2:Hp}{h h1 h2 h':BL}{a x e:BJ}{o:HO}
theorem Un.any(u:Un fs ex H H1 h h1){b:BJ}{ob:BM}(q:h.get? b=some ob)(n:H b=none)(hx:b∉ex):∃sl,h1.get? b=some {ob with slots:=sl}:=by
 by_cases hb:b∈fs
 ·exact u.slot b ob q n hb hx
 ·exact⟨ob.slots,u.keep b ob q n hb hx⟩
theorem Un.kept(k:∀b u,h.get? b=some u->h'.get? b=some u):Un fs ex H H h h':=
 ⟨λb ob q _ _ _=>k b ob q,λb ob q _ _ _=>⟨ob.slots,k b ob q⟩,λ_ _ _ n _=>n,λb ob q _=>⟨ob,k b ob q⟩,λ_ _ q=>q,λ_ _ _ q=>q,λ_ ps q=>⟨#[],by rw[q];simp⟩⟩
theorem Un.refl:Un fs ex H H h h:=Un.kept λ_ _ q=>q
theorem Un.laid(k:∀b u,h.get? b=some u->h'.get? b=some u)(hp:h.objs.size<=a)(hn:H a=none):Un fs ex H (upd H a o) h h' where
 keep:=λb u q _ _ _=>k b u q
 slot:=λb u q _ _ _=>⟨u.slots,k b u q⟩
 free:=λb u q n _=>by rw[bU (bQ<|aW (aM q) hp)];exact n
 there:=λb u q _=>⟨u,k b u q⟩
 tups:=λb xs q=>by rw[bU<|cA q hn];exact q
 frzs:=λb u xs q=>by rw[bU<|cA q hn];exact q
 tbls:=λb ps q=>⟨#[],by rw[bU<|cA q hn,q];simp⟩
theorem Un.write(mu:Mut (H x))(he:e=x\/H e=some (.own x))(k:∀b u,b≠e->h.get? b=some u->h'.get? b=some u)(heo:∃u,h'.get? e=some u):Un fs ex H (upd H x o) h h':=by
 have hx:∀b,H b=none->b≠x:=λb n z=>by subst z;rw[n] at mu;exact mu
 have hb:∀b,H b=none->b≠e:=λb n z=>by
  subst z
  rcases he with r|r
  ·exact hx b n r
  ·rw[n] at r;cases r
 have hm:∀b u,H b=some u->¬ Mut (some u)->b≠x:=λb u q nm z=>by subst z;rw[q] at mu;exact nm mu
 refine ⟨fun b u q n _ _=>k b u (hb b n) q,fun b u q n _ _=>⟨u.slots,k b u (hb b n) q⟩,fun b u q n _=>by rw [bU (hx b n)]; exact n,fun b u q _=> ?_,
  λb xs q=>by rw[bU (hm b _ q λz=>z)];exact q,λb u xs q=>by rw[bU (hm b _ q λz=>z)];exact q,λb ps q=>⟨#[],by rw[bU (hm b _ q λz=>z),q];simp⟩⟩
 by_cases hbe:b=e
 ·subst hbe;exact heo
 ·exact⟨u,k b u hbe q⟩
end
noncomputable def trk(h:BL)(H:Hp):List BJ:=(bK h.objs.size).filter λa=>(H a).isSome
noncomputable def aFG(h:BL)(H:Hp):BL:=PySem.W.hideAll h<|trk h H
theorem aFl(h:BL)(H:Hp):(aFG h H).objs.size=h.objs.size:=PySem.W.hideAll_size _ _
theorem aGR{b:BJ}{o:BM}(e:h.get? b=some o)(n:H b=none):(aFG h H).get? b=some o:=
 PySem.W.hideAll_get _ e λhm=>by have q:(H b).isSome=true:=(eM.mp hm).2;rw[n] at q;simp at q
theorem aJQ{b:BJ}{o:BM}(e:(aFG h H).get? b=some o):h.get? b=some o/\H b=none:=by
 have e':h.get? b=some o:=PySem.W.of_hideAll (trk h H) e;refine⟨e', ?_⟩;cases q:H b with
 |none=>rfl
 |some x=>have hm:b∈trk h H:=eM.mpr ⟨bB.mpr<|aM e',by simp[q]⟩;have z:(aFG h H).get? b=none:=PySem.W.hideAll_none (trk h H) hm;rw[z] at e;cases e
noncomputable def aJk(g h:BL)(L:BJ):List (BJ×BM):=(bK h.objs.size).filterMap λa=>if a=L\/(g.get? a).isSome=true then none else(h.get? a).map λo=>(a,o)
noncomputable def rest(g h:BL)(L d:BJ):List (BJ×BM):=(aJk g h L).filter λp=>decide<|p.1≠d
structure Mod(K:aB)(mg:Str->Option BH)(base:BL):Prop where
 kin:K.In base
 glob:base.Ns AQ mg
 blt:∃mb,base.Ns builtinsNs mb/\∀x:Str,x≠"__name__"->mb x=Ax x
 nolimit:base.NoLimit
noncomputable def aOx:HO->Prop
 |.lst _=>False
 |.ext _=>False
 |_=>True
structure Cx where
 prog:AI
 w:AL
 K:aB
 mg:Str->Option BH
 base:BL
 A:BK
 N:List Str
 s₀:BI
 H₀:Hp
 env:Env
 outer:List Env
 stack:List Env
 ex:List BJ
 fn:Str->Bool
 calm:Bool
 pn:List (BJ×BM)
 xe:BH->BI->Prop
 B₀:Hp:=H₀
 hB:∀b o,H₀ b=some o->aOx o->B₀ b=some o:=by intro b o e _;exact e
noncomputable def frs(l:List Env):List BJ:=l.filterMap (·.frame)
noncomputable abbrev Cx.fs(X:Cx):List BJ:=frs X.outer
def Vis(sc:Scope)(x:Str):Prop:=sc.names.lookup x=some .local\/sc.names.lookup x=some .cell\/sc.names.lookup x=some .free
def Loc(sc:Scope)(x:Str):Prop:=sc.names.lookup x=some .local\/sc.names.lookup x=some .cell
def Look(env:Env)(h:BL)(m:Str->Option BH)(x:Str)(u:BH):Prop:=
 (env.kindOf x=some .local/\m x=some u)\/((env.kindOf x=some .cell\/env.kindOf x=some .free)/\∃c,env.cells.lookup x=some c/\h.IsCell c (some u))
structure Cx.Ok(X:Cx):Prop where
 mod:Mod X.K X.mg X.base
 kind:X.env.scope.kind=.function
 glob:X.env.globals=AQ
 blt:X.env.builtins=builtinsNs
 above:X.s₀.heap.objs.size<=X.env.locals
 inj:∀x y c,X.env.cells.lookup x=some c->X.env.cells.lookup y=some c->x=y
 has:∀x,(X.env.kindOf x=some .cell\/X.env.kindOf x=some .free)->∃c,X.env.cells.lookup x=some c
 cab:∀x c,X.fn x=true->X.env.cells.lookup x=some c->X.s₀.heap.objs.size<=c
 hd:X.calm=true->X.A.handled=none
 frames:X.A.frames=some X.stack
 stk:X.stack=X.outer\/(X.stack=X.env::X.outer/\X.env.frame=some X.env.locals)
 exf:∀b∈X.ex,b≠X.env.locals/\∀x c,X.env.cells.lookup x=some c->c≠b
 bs:∀b o,X.base.get? b=some o->X.s₀.heap.get? b=some o/\X.H₀ b=none
 bsz:X.base.objs.size<=X.s₀.heap.objs.size
 noex:∀b o,X.base.get? b=some o->b∉X.ex
 exfs:∀b∈X.ex,b∉X.fs
 funs:X.s₀.heap.FunFrames X.base X.outer
 frf:∀b∈X.fs,X.H₀ b=none
structure Inv(X:Cx)(pins:List (BJ×BM))(σ:List (Option V))(H:Hp)(s:BI):Prop where
 ok:X.Ok
 os:s.os=X.s₀.os
 bare:AllBare s.gens
 base:Un X.fs X.ex X.H₀ H X.s₀.heap s.heap
 loc:∃m,s.heap.Ns X.env.locals m/\∀ (i:Nat) (x:Str) (v:V),X.N[i]? =some x->σ[i]? =some (some v)->Vis X.env.scope x->∃u,RelV v u/\Look X.env s.heap m x u
 cell:∀x c,X.env.cells.lookup x=some c->∃v,s.heap.IsCell c v
 free:H X.env.locals=none
 freeC:∀x c,X.env.cells.lookup x=some c->H c=none
 pin:∀p∈X.pn++pins,s.heap.get? p.1=some p.2/\H p.1=none/\p.1≠X.env.locals/\p.1∉X.fs/\∀v,p.2.data≠ .cell v
 hok:HOk X.prog X.w H s.heap
 len:σ.length=X.N.length
variable {X:Cx}{pins:List (BJ×BM)}{σ:List (Option V)}{s:BI}
theorem Cx.Ok.nofr(ok:X.Ok){b:BJ}{o:BM}(e:X.base.get? b=some o):b∉X.fs:=λhb=>by have:=(ok.funs.mem hb).1;rw[e] at this;cases this
theorem Inv.bs(I:Inv X pins σ H s):∀b o,X.base.get? b=some o->s.heap.get? b=some o/\H b=none:=λb o e=>⟨I.base.keep b o (I.ok.bs b o e).1 (I.ok.bs b o e).2 (I.ok.nofr e)<|I.ok.noex b o e,I.base.free b o (I.ok.bs b o e).1 (I.ok.bs b o e).2<|I.ok.noex b o e⟩
theorem Inv.bk(I:Inv X pins σ H s):∀b o,X.base.get? b=some o->s.heap.get? b=some o:=λb o e=>(I.bs b o e).1
theorem Inv.mod(I:Inv X pins σ H s):Mod X.K X.mg X.base:=I.ok.mod
theorem Inv.kIn(I:Inv X pins σ H s):X.K.In s.heap:=I.ok.mod.kin.keeps I.bk
theorem Inv.lt(I:Inv X pins σ H s):X.env.locals<s.heap.objs.size:=let ⟨_,hn,_⟩:=I.loc;hn.lt
theorem Inv.sz(I:Inv X pins σ H s):X.s₀.heap.objs.size<=s.heap.objs.size:=cP I.ok.above<|cZ I.lt
theorem Inv.nofs(I:Inv X pins σ H s)(h:s.heap.objs.size<=a):a∉X.fs:=λhb=>by obtain⟨_,o,ho,_⟩:=I.ok.funs.mem hb;exact absurd (aW (aM ho)<|cP I.sz h)<|cQ _
theorem Inv.cne(I:Inv X pins σ H s):∀x c,X.env.cells.lookup x=some c->c≠X.env.locals:=λx c e z=>by obtain⟨v,o,ho,hd⟩:=I.cell x c e;obtain⟨m,⟨o',es,ep,ho',hd',_⟩,_⟩:=I.loc;rw[z,ho'] at ho;cases ho;rw[hd'] at hd;cases hd
theorem Inv.funs(I:Inv X pins σ H s):s.heap.FunFrames X.base X.outer:=by
 have all:∀ (l:List Env),(∀b∈frs l,b∈X.fs)->X.s₀.heap.FunFrames X.base l->s.heap.FunFrames X.base l:=by
  intro l
  induction l with
  |nil=>intro _ _;trivial
  |cons env r ih=>
   intro hs hl;obtain⟨hk,⟨L,o,hf,hn,ho,hd⟩,hr⟩:=hl;have hL:L∈X.fs:=hs L (by unfold frs;rw[fN,hf];exact aK);obtain⟨sl,e⟩:=I.base.slot L o ho (I.ok.frf L hL) hL λz=>I.ok.exfs L z hL
   exact⟨hk,⟨L,_,hf,hn,e,hd⟩,ih (λb hb=>hs b<|by unfold frs;rw[fN,hf];exact aO _ hb) hr⟩
 exact all X.outer (λ_ hb=>hb) I.ok.funs
theorem Inv.stack(I:Inv X pins σ H s):s.heap.FunFrames X.base X.stack:=by
 rcases I.ok.stk with e|⟨e,hf⟩
 ·rw[e];exact I.funs
 ·rw[e];obtain⟨m,hn,_⟩:=I.loc;refine .cons (by rw[I.ok.kind];decide) hf hn ?_ I.funs;exact lV<|cP I.ok.bsz I.ok.above
theorem Inv.stkSub(I:Inv X pins σ H s):∀b∈frs X.stack,b∈X.env.locals::X.fs:=λb hb=>by
 rcases I.ok.stk with e|⟨e,hf⟩
 ·rw[e] at hb;exact aO _ hb
 ·rw[e] at hb;unfold frs at hb;rw[fN,hf] at hb;exact hb
theorem Inv.stkFree(I:Inv X pins σ H s):∀b∈frs X.stack,H b=none:=λb hb=>by
 rcases aV.mp (I.stkSub b hb) with e|hb
 ·rw[e];exact I.free
 ·obtain⟨_,o,ho,_⟩:=I.ok.funs.mem hb;exact I.base.free b o ho (I.ok.frf b hb) λz=>I.ok.exfs b z hb
theorem Inv.step{g':Array GenState}{t':Nat}{d':Drawn}{ch:List BJ}(I:Inv X pins σ H s)
  (hch:∀b∈ch,(b∈X.ex\/X.s₀.heap.objs.size<=b)/\b≠X.env.locals/\(∀x c,X.env.cells.lookup x=some c->c≠b)/\∀p∈X.pn++pins,p.1≠b)
  (keep:∀b o,b≠X.env.locals->b∉X.fs->b∉ch->s.heap.get? b=some o->H b=none->h'.get? b=some o)
  (slot:∀b o,b≠X.env.locals->b∈X.fs->b∉ch->s.heap.get? b=some o->H b=none->∃sl,h'.get? b=some {o with slots:=sl}) (free:∀b o,b∉ch->s.heap.get? b=some o->H b=none->H' b=none)
  (there:∀b o,b∉ch->s.heap.get? b=some o->∃o',h'.get? b=some o')
  (tups:∀b xs,H b=some (.tup xs)->H' b=some (.tup xs)) (frzs:∀b o u,H b=some (.frz o u)->H' b=some (.frz o u)) (tbls:∀b ps,H b=some (.tbl ps)->∃more,H' b=some (.tbl<|ps++more))
  (ns:∀m,s.heap.Ns X.env.locals m->h'.Ns X.env.locals m) (hok:HOk X.prog X.w H' h') (hg:AllBare g'):
  Inv X pins σ H' {s with heap:=h',gens:=g',drawn:=d',toks:=t'}:=by
 have neL:∀b o,X.s₀.heap.get? b=some o->b≠X.env.locals:=λb o e=>bQ<|aW (aM e) I.ok.above
 have neC:∀b o,X.s₀.heap.get? b=some o->b∉X.ex->b∉ch:=λb o e hx hb=>by
  rcases(hch b hb).1 with z|z
  ·exact hx z
  ·exact absurd (aW (aM e) z)<|cQ _
 have cellK:∀x c,X.env.cells.lookup x=some c->∀v,s.heap.IsCell c v->h'.IsCell c v:=λx c e v ⟨o,ho,hd⟩=>by
  have nch:c∉ch:=λz=>(hch c z).2.2.1 x c e rfl
  by_cases hc:c∈X.fs
  ·obtain⟨sl,q⟩:=slot c o (I.cne x c e) hc nch ho<|I.freeC x c e;exact⟨_,q,hd⟩
  ·exact⟨o,keep c o (I.cne x c e) hc nch ho<|I.freeC x c e,hd⟩
 refine⟨I.ok,I.os,hg,⟨λb o e n hb hx=> ?_,λb o e n hb hx=> ?_,λb o e n hx=> ?_,λb o e hx=> ?_,λb xs e=>tups b xs<|I.base.tups b xs e,λb o xs e=>frzs b o xs<|I.base.frzs b o xs e,λb ps e=> ?_⟩, ?_,λx c e=> ?_, ?_,λx c e=> ?_,λp hp=> ?_,hok,I.len⟩
 ·exact keep b o (neL b o e) hb (neC b o e hx) (I.base.keep b o e n hb hx)<|I.base.free b o e n hx
 ·obtain⟨sl,e1⟩:=I.base.slot b o e n hb hx;obtain⟨sl',e2⟩:=slot b _ (neL b o e) hb (neC b o e hx) e1<|I.base.free b o e n hx;exact⟨sl',e2⟩
 ·obtain⟨o',e1⟩:=I.base.there b o e hx;exact free b o' (neC b o e hx) e1<|I.base.free b o e n hx
 ·obtain⟨o',e1⟩:=I.base.there b o e hx;exact there b o' (neC b o e hx) e1
 ·obtain⟨m1,e1⟩:=I.base.tbls b ps e;obtain⟨m2,e2⟩:=tbls b _ e1;exact⟨m1++m2,by rw[e2,Array.append_assoc]⟩
 ·obtain⟨m,hn,hl⟩:=I.loc;refine⟨m,ns m hn,λi x v e1 e2 e3=> ?_⟩;obtain⟨u,r,l⟩:=hl i x v e1 e2 e3;refine⟨u,r, ?_⟩
  rcases l with l|⟨k,c,e,z⟩
  ·exact .inl l
  ·exact .inr ⟨k,c,e,cellK x c e _ z⟩
 ·obtain⟨v,z⟩:=I.cell x c e;exact⟨v,cellK x c e v z⟩
 ·obtain⟨m,⟨o,_,_,ho,_⟩,_⟩:=I.loc;exact free _ o (λz=>(hch _ z).2.1 rfl) ho I.free
 ·obtain⟨v,o,ho,hd⟩:=I.cell x c e;exact free c o (λz=>(hch c z).2.2.1 x c e rfl) ho<|I.freeC x c e
 ·obtain⟨e,n,ne,nf,d⟩:=I.pin p hp;have nch:p.1∉ch:=λz=>(hch p.1 z).2.2.2 p hp rfl
  exact⟨keep p.1 p.2 ne nf nch e n,free p.1 p.2 nch e n,ne,nf,d⟩
theorem Inv.un{t':Nat}(I:Inv X pins σ H s)(u:Un X.fs [] H H' s.heap h')(hok:HOk X.prog X.w H' h'):Inv X pins σ H' {s with heap:=h',toks:=t'}:=by
 obtain⟨m,⟨o,es,ep,ho,r⟩,_⟩:=id I.loc;obtain⟨sl,hL⟩:=u.any ho I.free<|by simp
 exact I.step (g':=s.gens) (d':=s.drawn) (ch:=[]) (fun _ z=>nomatch z) (fun b o _ hb _ e n=>u.keep b o e n hb (by simp)) (fun b o _ hb _ e n=>u.slot b o e n hb (by simp)) (fun b o _ e n=>u.free b o e n (by simp)) (fun b o _ e=>u.there b o e (by simp)) u.tups u.frzs u.tbls (fun m' hm=>by
  obtain⟨o',es',ep',ho',r'⟩:=hm;rw[ho] at ho';cases ho'
  exact⟨_,es',ep',hL,r'⟩) hok I.bare
theorem Inv.call{g':Array GenState}{t':Nat}{d':Drawn}{ch:List BJ}(I:Inv X pins σ H s)(u:Un (frs X.stack) ch H H' s.heap h')(hok:HOk X.prog X.w H' h')(hg:AllBare g')
  (hch:∀b∈ch,(b∈X.ex\/X.s₀.heap.objs.size<=b)/\b≠X.env.locals/\(∀x c,X.env.cells.lookup x=some c->c≠b)/\∀p∈X.pn++pins,p.1≠b):
  Inv X pins σ H' {s with heap:=h',gens:=g',drawn:=d',toks:=t'}:=by
 obtain⟨m,⟨o,es,ep,ho,r⟩,_⟩:=id I.loc;obtain⟨sl,hL⟩:=u.any ho I.free λz=>(hch _ z).2.1 rfl
 exact I.step (ch:=ch) hch (fun b o hL hb hc e n=>u.keep b o e n (fun z=>(aV.mp (I.stkSub b z)).elim hL hb) hc) (fun b o _ _ hc e n=>u.any e n hc) (fun b o hc e n=>u.free b o e n hc) (fun b o hc e=>u.there b o e hc) u.tups u.frzs u.tbls (fun m' hm=>by
  obtain⟨o',es',ep',ho',r'⟩:=hm;rw[ho] at ho';cases ho'
  exact⟨_,es',ep',hL,r'⟩) hok hg
theorem Inv.turned{t':Nat}{it:BJ}(I:Inv X pins σ H s)(k:∀b o,b≠it->s.heap.get? b=some o->h'.get? b=some o)(hn:H it=none)(hL:it≠X.env.locals)
  (h1:it∈X.ex\/X.s₀.heap.objs.size<=it) (h2:∀x c,X.env.cells.lookup x=some c->c≠it) (h3:∀p∈X.pn++pins,p.1≠it):Inv X pins σ H {s with heap:=h',toks:=t'}:=by
 have nit:∀b u,H b=some u->b≠it:=λb u e z=>by rw[z,hn] at e;cases e
 refine I.step (g':=s.gens) (d':=s.drawn) (ch:=[it]) (λb hb=> ?_) (λb o _ _ hc e _=>k b o (λz=>hc<|by simp[z]) e) (λb o _ _ hc e _=>⟨o.slots,k b o (λz=>hc<|by simp[z]) e⟩) (λ_ _ _ _ n=>n)
  (λb o hc e=>⟨o,k b o (λz=>hc<|by simp[z]) e⟩) (λ_ _ e=>e) (λ_ _ _ e=>e) (λb ps e=>⟨#[],by rw[e];simp⟩) (λm hm=> ?_) (λb u e=> ?_) I.bare
 ·have e:b=it:=by simpa using hb
  subst e;exact⟨h1,hL,h2,h3⟩
 ·obtain⟨o,es,ep,ho,r⟩:=hm;exact⟨o,es,ep,k _ o (Ne.symm hL) ho,r⟩
 ·refine(I.hok b u e).stay (λc v hc q=>k c v ?_ q) (λ_ q=>q) λ_ _ q=>q
  rcases hc with z|z
  ·rw[z];exact nit b u e
  ·exact nit c _ z
theorem Inv.tok(I:Inv X pins σ H s)(t:Nat):Inv X pins σ H {s with toks:=t}:=I.un (h':=s.heap) (t':=t) Un.refl I.hok
theorem Inv.kept{t':Nat}(I:Inv X pins σ H s)(k:∀b u,s.heap.get? b=some u->h'.get? b=some u):Inv X pins σ H {s with heap:=h',toks:=t'}:=I.un (Un.kept k)<|I.hok.kept k
theorem Inv.laid{t':Nat}(I:Inv X pins σ H s)(k:∀b u,s.heap.get? b=some u->h'.get? b=some u)(hp:s.heap.objs.size<=a)(new:ObjOk X.prog X.w (upd H a o) h' a o):
  Inv X pins σ (upd H a o) {s with heap:=h',toks:=t'}:=I.un (Un.laid k hp<|I.hok.fresh hp)<|I.hok.laid k hp new
theorem Inv.write{t':Nat}(I:Inv X pins σ H s)(mu:Mut (H x))(he:e=x\/H e=some (.own x))(k:∀b u,b≠e->s.heap.get? b=some u->h'.get? b=some u)(heo:∃u,h'.get? e=some u)
  (new:ObjOk X.prog X.w (upd H x o) h' x o):Inv X pins σ (upd H x o) {s with heap:=h',toks:=t'}:=I.un (Un.write mu he k heo)<|I.hok.write mu he k heo new
theorem Inv.pins_of{pins':List (BJ×BM)}(I:Inv X pins σ H s)(h:∀p∈pins',s.heap.get? p.1=some p.2/\H p.1=none/\p.1≠X.env.locals/\p.1∉X.fs/\∀v,p.2.data≠ .cell v):Inv X pins' σ H s:=
 ⟨I.ok,I.os,I.bare,I.base,I.loc,I.cell,I.free,I.freeC,λp hp=>(aJ.mp hp).elim (λz=>I.pin p<|aU _ z)<|h p,I.hok,I.len⟩
theorem aBR{N:List Str}(hN:N.Nodup){i j:Nat}{x:Str}(a:N[i]? =some x)(b:N[j]? =some x):i=j:=by obtain⟨h1,e1⟩:=aZ.mp a;obtain⟨h2,e2⟩:=aZ.mp b;exact(lH hN).mp<|e1.trans e2.symm
theorem aEH{M:Model}{A:BK}{E:BH->BI->Prop}{i:Nat}{x:Str}{v:V}{u:BH}{Q:Unit->BI->Prop}(I:Inv X pins σ H s)(hN:X.N.Nodup)(hi:X.N[i]? =some x)(hx:Loc X.env.scope x)(r:RelV v u)
  (h:∀s',Inv X pins (σ.set i (some v)) H s'->(∃a,Heap.SameBut a s.heap s'.heap/\(a=X.env.locals\/X.env.cells.lookup x=some a))->Q () s') (hf:X.fn x=true\/X.env.scope.names.lookup x=some .local:=by first|exact .inl rfl|exact .inr rfl|assumption):AG M A (storeName X.env x u) Q E s:=by
 obtain⟨m,hn,hl⟩:=id I.loc;have hcls:(X.env.scope.kind==.class||(X.env.scope.kind==.module&&X.env.locals !=X.env.globals))=false:=by rw[I.ok.kind];rfl
 have hiσ:i<σ.length:=by rw[I.len];exact(aZ.mp hi).1
 have cne:=I.cne
 have tracked:∀ {a:BJ}{h':BL},(∃o,s.heap.get? a=some o/\H a=none)->Heap.SameBut a s.heap h'->HOk X.prog X.w H h':=λ{a h'} ha hs b ob e=>by
  obtain⟨_,_,hfree⟩:=ha;refine(I.hok b ob e).stay (λc w' hc q=>(hs.2 c ?_).trans q) (λ_ q=>q) λ_ _ q=>q
  rintro rfl
  rcases hc with rfl|hc
  ·rw[hfree] at e;cases e
  ·rw[hfree] at hc;cases hc
 rcases hx with hk|hk
 ·refine wpAny_storeName_local hk hn (λh' hn' hs=> ?_) hcls;obtain⟨oL,_,_,hoL,_⟩:=id hn;refine h _ ⟨I.ok,I.os,I.bare,⟨λb o e n hb hx=> ?_,λb o e n hb hx=> ?_,I.base.free,λb o e hx=> ?_,I.base.tups,I.base.frzs,I.base.tbls⟩,⟨_,hn',λj y v' e1 e2 e3=> ?_⟩,λy c e=> ?_,I.free,I.freeC,λp hp=> ?_,tracked ⟨oL,hoL,I.free⟩ hs,by simpa using I.len⟩ ⟨_,hs,.inl rfl⟩
  ·exact(hs.2 b (bQ<|aW (aM e) I.ok.above)).trans<|I.base.keep b o e n hb hx
  ·obtain⟨sl,e1⟩:=I.base.slot b o e n hb hx;exact⟨sl,(hs.2 b (bQ<|aW (aM e) I.ok.above)).trans e1⟩
  ·obtain⟨o',e1⟩:=I.base.there b o e hx;exact⟨o',(hs.2 b (bQ<|aW (aM e) I.ok.above)).trans e1⟩
  ·by_cases hj:j=i
   ·subst hj;rw[hi] at e1;cases e1;rw[aCR hiσ] at e2;cases e2;exact⟨u,r,.inl ⟨hk,by simp⟩⟩
   ·rw[iW<|Ne.symm hj] at e2;obtain⟨u',r',q⟩:=hl j y v' e1 e2 e3;refine⟨u',r', ?_⟩
    rcases q with⟨k,e⟩|⟨k,c,e,z⟩
    ·refine .inl ⟨k, ?_⟩;have:y≠x:=λe=>hj (aBR hN e1<|e▸hi)
     simp[this,e]
    ·exact .inr ⟨k,c,e,z.sameBut hs<|cne y c e⟩
  ·obtain⟨w',z⟩:=I.cell y c e;exact⟨w',z.sameBut hs<|cne y c e⟩
  ·obtain⟨e,n,ne,nf,d⟩:=I.pin p hp;exact⟨(hs.2 p.1 ne).trans e,n,ne,nf,d⟩
 ·have hfn:X.fn x=true:=by
   rcases hf with z|z
   ·exact z
   ·rw[z] at hk;cases hk
  obtain⟨c,hc⟩:=I.ok.has x<|.inl hk;obtain⟨w',z⟩:=I.cell x c hc;refine wpAny_storeName_cell I.ok.kind hk hc z λh' hc' hs=> ?_;obtain⟨oc,hoc,hocd⟩:=id z;refine h {s with heap:=h'} ⟨I.ok,I.os,I.bare,⟨λb o e n hb hx=> ?_,λb o e n hb hx=> ?_,I.base.free,λb o e hx=> ?_,I.base.tups,I.base.frzs,I.base.tbls⟩,⟨m,hn.sameBut hs (Ne.symm<|cne x c hc),λj y v' e1 e2 e3=> ?_⟩,λy c' e=> ?_,I.free,I.freeC,λp hp=> ?_,tracked ⟨oc,hoc,I.freeC x c hc⟩ hs,by simpa using I.len⟩ ⟨c,hs,.inr hc⟩
  ·exact(hs.2 b<|bQ (aW (aM e)<|I.ok.cab x c hfn hc)).trans<|I.base.keep b o e n hb hx
  ·obtain⟨sl,e1⟩:=I.base.slot b o e n hb hx;exact⟨sl,(hs.2 b<|bQ (aW (aM e)<|I.ok.cab x c hfn hc)).trans e1⟩
  ·obtain⟨o',e1⟩:=I.base.there b o e hx;exact⟨o',(hs.2 b<|bQ (aW (aM e)<|I.ok.cab x c hfn hc)).trans e1⟩
  ·by_cases hj:j=i
   ·subst hj;rw[hi] at e1;cases e1;rw[aCR hiσ] at e2;cases e2;exact⟨u,r,.inr ⟨.inl hk,c,hc,hc'⟩⟩
   ·rw[iW<|Ne.symm hj] at e2;obtain⟨u',r',q⟩:=hl j y v' e1 e2 e3;refine⟨u',r', ?_⟩
    rcases q with q|⟨k,c',e,z'⟩
    ·exact .inl q
    ·refine .inr ⟨k,c',e,z'.sameBut hs ?_⟩;rintro rfl;exact hj (aBR hN e1<|I.ok.inj _ _ _ e hc▸hi)
  ·by_cases hcc:c'=c
   ·subst hcc;exact⟨_,hc'⟩
   ·obtain⟨w2,z2⟩:=I.cell y c' e;exact⟨w2,z2.sameBut hs hcc⟩
  ·obtain⟨e,n,ne,nf,d⟩:=I.pin p hp;refine⟨(hs.2 p.1 ?_).trans e,n,ne,nf,d⟩;intro q;rw[q,hoc] at e;have q':oc=p.2:=bT.inj e;exact d w' (by rw[<-q'];exact hocd)
theorem wJ{M:Model}{A:BK}{E:BH->BI->Prop}{i:Nat}{x:Str}{v:V}{u:BH}{Q:Unit->BI->Prop}(I:Inv X pins σ H s)(hN:X.N.Nodup)(hi:X.N[i]? =some x)(hx:Loc X.env.scope x)(r:RelV v u)
  (h:∀s',Inv X pins (σ.set i (some v)) H s'->Q () s') (hf:X.fn x=true\/X.env.scope.names.lookup x=some .local:=by first|exact .inl rfl|exact .inr rfl|assumption):AG M A (storeName X.env x u) Q E s:=
 aEH I hN hi hx r (λs' I' _=>h s' I') hf
theorem Inv.call'{s':BI}{ch:List BJ}(I:Inv X pins σ H s)(ho:s'.os=s.os)(u:Un (frs X.stack) ch H H' s.heap s'.heap)(hok:HOk X.prog X.w H' s'.heap)(hg:AllBare s'.gens)
  (hch:∀b∈ch,(b∈X.ex\/X.s₀.heap.objs.size<=b)/\b≠X.env.locals/\(∀x c,X.env.cells.lookup x=some c->c≠b)/\∀p∈X.pn++pins,p.1≠b):Inv X pins σ H' s':=by
 obtain⟨h',g',d',t',o'⟩:=s';have e:o'=s.os:=ho;subst e;exact I.call (g':=g') (t':=t') (d':=d') u hok hg hch
noncomputable abbrev XK:=BH->Option BJ->Hp->Prop
noncomputable abbrev St:=List<|Option V
noncomputable abbrev VK:=V->Hp->Prop
noncomputable abbrev TE:=St->Hp->VK->Prop
noncomputable abbrev TT:=St->Hp->(Bool->Hp->Prop)->Prop
noncomputable abbrev TA:=St->Hp->(List V->Hp->Prop)->Prop
structure xP where
 nx:St->Hp->Prop
 rt:VK
 bk:St->Hp->Prop:=λ_ _=>False
 ct:St->Hp->Prop:=λ_ _=>False
noncomputable abbrev TS:=xP->St->Hp->Prop
def EP(X:Cx)(pins:List (BJ×BM))(σ:St)(Q:VK)(u:BH)(s':BI):Prop:=∃v H',Inv X pins σ H' s'/\RelV v u/\Q v H'
def TP(X:Cx)(pins:List (BJ×BM))(σ:St)(Q:Bool->Hp->Prop)(b:Bool)(s':BI):Prop:=∃H',Inv X pins σ H' s'/\Q b H'
def AP(X:Cx)(pins:List (BJ×BM))(σ:St)(Q:List V->Hp->Prop)(us:List BH)(s':BI):Prop:=∃vs H',Inv X pins σ H' s'/\Vals vs us/\Q vs H'
def SP(X:Cx)(pins:List (BJ×BM))(D:xP)(f:Flow)(s':BI):Prop:=
 match f with
 |.next=>∃σ' H',Inv X pins σ' H' s'/\D.nx σ' H'
 |.brk=>∃σ' H',Inv X pins σ' H' s'/\D.bk σ' H'
 |.cont=>∃σ' H',Inv X pins σ' H' s'/\D.ct σ' H'
 |.ret u=>∃v σ' H',Inv X pins σ' H' s'/\RelV v u/\D.rt v H'
def PE(X:Cx)(e:Expr)(t:TE):Prop:=
 ∀ (pins:List (BJ×BM)) (s:BI) (σ:St) (H:Hp) (Q:VK),Inv X pins σ H s->t σ H Q->AG (AF X.prog X.w) X.A (eval e X.env) (EP X pins σ Q) X.xe s
def PT(X:Cx)(e:Expr)(t:TT):Prop:=
 ∀ (pins:List (BJ×BM)) (s:BI) (σ:St) (H:Hp) (Q:Bool->Hp->Prop),Inv X pins σ H s->t σ H Q->AG (AF X.prog X.w) X.A (isTrue e X.env<|eval e X.env) (TP X pins σ Q) X.xe s
def PW(X:Cx)(e:Expr)(t:TT):Prop:=
 ∀ (whole:Sem BH) (pins:List (BJ×BM)) (s:BI) (σ:St) (H:Hp) (Q:Bool->Hp->Prop),Inv X pins σ H s->t σ H Q->AG (AF X.prog X.w) X.A (isTrue e X.env whole) (TP X pins σ Q) X.xe s
theorem PW.pt{e:Expr}{t:TT}(h:PW X e t):PT X e t:=h _
def PA(X:Cx)(es:List Expr)(t:TA):Prop:=
 ∀ (pos:Pos) (pins:List (BJ×BM)) (s:BI) (σ:St) (H:Hp) (Q:List V->Hp->Prop),Inv X pins σ H s->t σ H Q->AG (AF X.prog X.w) X.A (spliced (Ak pos<|AD es X.env)) (AP X pins σ Q) X.xe s
def PS(X:Cx)(st:BN)(t:TS):Prop:=
 ∀ (pins:List (BJ×BM)) (s:BI) (σ:St) (H:Hp) (D:xP),Inv X pins σ H s->t D σ H->AG (AF X.prog X.w) X.A (exec st X.env) (SP X pins D) X.xe s
def PSs(X:Cx)(st:List BN)(t:TS):Prop:=
 ∀ (pins:List (BJ×BM)) (s:BI) (σ:St) (H:Hp) (D:xP),Inv X pins σ H s->t D σ H->AG (AF X.prog X.w) X.A (execs st X.env) (SP X pins D) X.xe s
theorem thn{α:Type}{t:Sem α}{Q Q':α->BI->Prop}{M:Model}{A:BK}{E:BH->BI->Prop}(h:AG M A t Q E s)(hQ:∀a s,Q a s->Q' a s):AG M A t Q' E s:=AW h hQ λ_ _ x=>x
noncomputable def qY(i:Nat):TE:=λσ H Q=>∃v,σ[i]? =some (some v)/\Q v H
noncomputable def tC(v:V):TE:=λ_ H Q=>Q v H
theorem aLF{i:Nat}{x:Str}{pos:Pos}(hN:X.N[i]? =some x)(hv:Vis X.env.scope x)(hd:(x==("__debug__":Str))=false:=by decide)(hcd:(x==("__classdict__":Str))=false:=by decide):PE X (.Name x pos) (qY i):=by
 intro pins s σ H Q I h;obtain⟨v,e,h⟩:=h;obtain⟨m,hn,hl⟩:=I.loc;obtain⟨u,r,l⟩:=hl i x v hN e hv;have fin:EP X pins σ Q u s:=⟨v,H,I,r,h⟩
 rcases l with⟨hk,hm⟩|⟨hk,c,hc,hcell⟩
 ·exact wpAny_Name (wpAny_loadName_local I.ok.kind hk hn hm fin) hd
 ·rcases hk with hk|hk
  ·exact wpAny_Name (wpAny_loadName_cell I.ok.kind hk hc hcell fin) hd
  ·exact wpAny_Name (wpAny_loadName_free I.ok.kind hk hc hcell fin hcd) hd
theorem pe_int{i j pos}:PE X (.Constant (.int i) j pos) (tC<|.int i):=λ_ _ _ H _ I h=>wpAny_Constant_int ⟨.int i,H,I.tok _,⟨_,rfl⟩,h⟩
theorem pe_bl{b j pos}:PE X (.Constant (.bool b) j pos) (tC<|.bl b):=λ_ _ _ H _ I h=>Constant_bool ⟨.bl b,H,I,rfl,h⟩
theorem pe_non{j pos}:PE X (.Constant .none j pos) (tC .non):=λ_ _ _ H _ I h=>Constant_none ⟨.non,H,I,rfl,h⟩
theorem pe_str{x j pos}:PE X (.Constant (.str x) j pos) (tC<|.str x):=λ_ _ _ H _ I h=>Calls.Constant_str ⟨.str x,H,I.tok _,⟨_,rfl⟩,h⟩
def Gl(X:Cx)(x:Str):Prop:=X.env.kindOf x=some .globalImplicit
theorem aAG{E:BH->BI->Prop}{σ:St}{x:Str}{u:BH}{pos:Pos}{Q:BH->BI->Prop}(I:Inv X pins σ H s)(hg:Gl X x)(hm:X.mg x=some u)(h:Q u s)
  (hd:(x==("__debug__":Str))=false:=by decide):AG (AF X.prog X.w) X.A (eval (.Name x pos) X.env) Q E s:=
 Calls.Name_function_global I.ok.kind hg (Calls.loadGlobal_global (by rw[I.ok.glob];exact I.mod.glob.keeps I.bk) hm h) hd
theorem qG{E:BH->BI->Prop}{σ:St}{x:Str}{u:BH}{pos:Pos}{Q:BH->BI->Prop}(I:Inv X pins σ H s)(hg:Gl X x)(hm:X.mg x=none)(hv:Ax x=some u)(h:Q u s)
  (hn:x≠"__name__":=by decide) (hd:(x==("__debug__":Str))=false:=by decide):AG (AF X.prog X.w) X.A (eval (.Name x pos) X.env) Q E s:=by
 obtain⟨mb,h1,h2⟩:=I.mod.blt;exact Calls.Name_function_global I.ok.kind hg (Calls.loadGlobal_builtin (by rw[I.ok.glob];exact I.mod.glob.keeps I.bk) hm (by rw[I.ok.blt];exact h1.keeps I.bk) ((h2 x hn).trans hv) h) hd
def t2I(ta tb:TE)(k:Int->Int->Hp->Prop):St->Hp->Prop:=λσ H=>ta σ H λx H1=>tb σ H1 λy H2=>∃i j,x=.int i/\y=.int j/\k i j H2
variable {a b:Expr}{ta tb:TE}{pos:Pos}
noncomputable def aKn(p:Int->Int->Bool)(ta tb:TE):TE:=λσ H Q=>t2I ta tb (λi j H2=>Q (.bl<|p i j) H2) σ H
noncomputable abbrev tLt:TE->TE->TE:=aKn λi j=>decide<|i<j
noncomputable abbrev tLe:TE->TE->TE:=aKn λi j=>decide<|i<=j
noncomputable abbrev tGt:TE->TE->TE:=aKn λi j=>decide<|j<i
noncomputable abbrev tGe:TE->TE->TE:=aKn λi j=>decide<|j<=i
noncomputable abbrev tEqI:TE->TE->TE:=aKn λi j=>decide<|i=j
noncomputable abbrev tNeI:TE->TE->TE:=aKn λi j=> !decide (i=j)
noncomputable def tB(t:TE):TT:=λσ H Q=>t σ H λx H1=>∃c,x=.bl c/\Q c H1
theorem aMb{e:Expr}{t:TE}(h:PE X e t)(he:∀whole,isTrue e X.env whole=(do let v <-whole;standAt e.pos;holding [v] (truthy v)):=by intro _;rfl):PT X e (tB t):=by intro pins s σ H Q I hw;refine isTrue_plain (thn (h pins s σ H _ I hw) λv s1 ⟨x,H1,I1,r1,q1⟩=> ?_)<|he _;obtain⟨d,rfl,q⟩:=q1;cases r1;exact wpAny_truthy_bool ⟨H1,I1,q⟩
variable {tA tB':TT}{rest:List Expr}
noncomputable def tAnd(t u:TT):TT:=λσ H Q=>t σ H λc H1=>if c=true then u σ H1 Q else Q false H1
noncomputable def tOr(t u:TT):TT:=λσ H Q=>t σ H λc H1=>if c=true then Q true H1 else u σ H1 Q
noncomputable def tNot(t:TT):TT:=λσ H Q=>t σ H λc H1=>Q (!c) H1
theorem aJW(ha:PT X a tA):PW X (.BoolOp .And [a] pos) tA:=by
 intro wh pins s σ H Q I h;refine isTrue_and<|thn (ha pins s σ H Q I h) λc s1 e=> ?_;cases c with
 |true=>exact isTrue_and_nil e
 |false=>exact e
theorem aMy(ha:PT X a tA):PW X (.BoolOp .Or [a] pos) tA:=by
 intro wh pins s σ H Q I h;refine isTrue_or<|thn (ha pins s σ H Q I h) λc s1 e=> ?_;cases c with
 |false=>exact isTrue_or_nil e
 |true=>exact e
theorem aLS(ha:PT X a tA)(hb:PW X (.BoolOp .And (b::rest) pos) tB'):PW X (.BoolOp .And (a::b::rest) pos) (tAnd tA tB'):=by
 intro wh pins s σ H Q I h;refine isTrue_and<|thn (ha pins s σ H _ I h) λc s1 ⟨H1,I1,q1⟩=> ?_;cases c with
 |true=>exact hb wh pins s1 σ H1 Q I1 q1
 |false=>exact⟨H1,I1,q1⟩
theorem aNB(ha:PT X a tA)(hb:PW X (.BoolOp .Or (b::rest) pos) tB'):PW X (.BoolOp .Or (a::b::rest) pos) (tOr tA tB'):=by
 intro wh pins s σ H Q I h;refine isTrue_or<|thn (ha pins s σ H _ I h) λc s1 ⟨H1,I1,q1⟩=> ?_;cases c with
 |true=>exact⟨H1,I1,q1⟩
 |false=>exact hb wh pins s1 σ H1 Q I1 q1
theorem aLN(ha:PT X a tA):PT X (.UnaryOp .Not a pos) (tNot tA):=by intro pins s σ H Q I h;exact isTrue_not<|ha pins s σ H (λc H1=>Q (!c) H1) I h
noncomputable def tOrV(ta tb:TE):TE:=λσ H Q=>ta σ H λx H1=>∃c,x=.bl c/\if c=true then Q (.bl true) H1 else tb σ H1 Q
theorem aLD{op}{t:TE}(h:PE X a t):PE X (.BoolOp op [a] pos) t:=λpins s σ H Q I hw=>BoolOp_one<|h pins s σ H Q I hw
theorem aOi(ha:PE X a ta)(hb:PE X (.BoolOp .Or (b::rest) pos) tb):PE X (.BoolOp .Or (a::b::rest) pos) (tOrV ta tb):=by
 intro pins s σ H Q I h;refine BoolOp_or<|thn (ha pins s σ H _ I h) λv s1 ⟨x,H1,I1,r1,q1⟩=> ?_;obtain⟨c,rfl,q1⟩:=q1;cases r1;refine wpAny_truthy_bool ?_;cases c with
 |false=>exact hb pins s1 σ H1 Q I1 q1
 |true=>exact⟨.bl true,H1,I1,rfl,q1⟩
def SqL(K:aB)(H:Hp)(a:BJ)(xs:List V):Prop:=
 Rd H a (.lst xs)\/
  ∃ (o:BM) (its:Array BH) (n:Nat),K.lookup a=some o/\o.cls=.type "list"/\o.dict=none/\o.data=.seq its n/\its.size<=AN/\Vals xs its.toList
def SqT(K:aB)(H:Hp)(a:BJ)(xs:List V):Prop:=
 Rd H a (.tup xs)\/
  ∃ (o:BM) (its:Array BH) (n:Nat),K.lookup a=some o/\o.cls=.type "tuple"/\o.data=.seq its n/\its.size<=AN/\Vals xs its.toList
noncomputable def absV:BH->Option V
 |.none=>some .non
 |.bool b=>some<|.bl b
 |.int i _=>some<|.int i
 |.str x _=>some<|.str x
 |.bytes b _=>some<|.byt b
 |.float b _=>some<|.flt b
 |.ref a=>some<|.ref a
 |.type n=>some<|.ty n
 |_=>none
theorem RelV.abs{x:V}{u:BH}(r:RelV x u):absV u=some x:=by
 cases x with
 |non=>cases r;rfl
 |bl _=>cases r;rfl
 |int _=>obtain⟨t,rfl⟩:=r;rfl
 |str _=>obtain⟨t,rfl⟩:=r;rfl
 |byt _=>obtain⟨t,rfl⟩:=r;rfl
 |flt _=>obtain⟨t,rfl⟩:=r;rfl
 |ref _=>cases r;rfl
 |ty _=>cases r;rfl
theorem RelV.inj{x y:V}{u:BH}(r:RelV x u)(q:RelV y u):x=y:=bT.inj<|r.abs.symm.trans q.abs
theorem Vals.inj:∀ {xs ys:List V}{us:List BH},Vals xs us->Vals ys us->xs=ys
 |_,_,_,.nil,.nil=>rfl
 |_,_,_,.cons r t,.cons r' t'=>by rw[r.inj r',Vals.inj t t']
variable {σ:St}{a:BJ}{xs ys:List V}
theorem SqL.of{K:aB}(h:H a=some (.lst xs)):SqL K H a xs:=.inl<|.inl h
theorem SqT.of{K:aB}(h:H a=some (.tup xs)):SqT K H a xs:=.inl<|.inl h
theorem Inv.list(I:Inv X pins σ H s)(h:SqL X.K H a xs):∃its:List BH,Vals xs its/\PlainL s.heap a its.toArray/\xs.length<=AN:=by
 rcases h with h|⟨o,its,n,hk,hc,hd,hs,hz,r⟩
 ·obtain⟨z,its,n,r,e⟩:=h.ok I.hok;exact⟨its,r,⟨_,n,e,rfl,rfl,rfl⟩,z⟩
 ·refine⟨its.toList,r,⟨o,n,I.kIn a o hk,hc,hd,by simpa using hs⟩, ?_⟩;have e:=r.length;simp only[dI] at e;omega
theorem Inv.tuple(I:Inv X pins σ H s)(h:SqT X.K H a xs):∃its:List BH,Vals xs its/\IsTup s.heap a its.toArray/\xs.length<=AN:=by
 rcases h with h|⟨o,its,n,hk,hc,hs,hz,r⟩
 ·obtain⟨z,its,r,p⟩:=h.ok I.hok;exact⟨its,r,p.tup,z⟩
 ·refine⟨its.toList,r,⟨o,I.kIn a o hk,hc,n,by simpa using hs⟩, ?_⟩;have e:=r.length;simp only[dI] at e;omega
theorem Inv.list_inj(I:Inv X pins σ H s)(h:SqL X.K H a xs)(h':SqL X.K H a ys):xs=ys:=by
 obtain⟨its,r,⟨o,n,e,_,_,d⟩,_⟩:=I.list h;obtain⟨its',r',⟨o',n',e',_,_,d'⟩,_⟩:=I.list h';rw[e] at e';cases e';rw[d] at d';injection d' with d1 _
 have:its=its':=by simpa using congrArg aMX d1
 subst this;exact r.inj r'
theorem Inv.tuple_inj(I:Inv X pins σ H s)(h:SqT X.K H a xs)(h':SqT X.K H a ys):xs=ys:=by
 obtain⟨its,r,⟨o,e,_,n,d⟩,_⟩:=I.tuple h;obtain⟨its',r',⟨o',e',_,n',d'⟩,_⟩:=I.tuple h';rw[e] at e';cases e';rw[d] at d';injection d' with d1 _
 have:its=its':=by simpa using congrArg aMX d1
 subst this;exact r.inj r'
noncomputable abbrev Cx.wish(X:Cx)(E:BH->BI->Prop):Cx:={X with xe:=E}
noncomputable abbrev Cx.nox(X:Cx):Cx:=X.wish λ_ _=>False
theorem Cx.Ok.wish(ok:X.Ok)(E:BH->BI->Prop):(X.wish E).Ok:=
 ⟨ok.mod,ok.kind,ok.glob,ok.blt,ok.above,ok.inj,ok.has,ok.cab,ok.hd,ok.frames,ok.stk,ok.exf,ok.bs,ok.bsz,ok.noex,ok.exfs,ok.funs,ok.frf⟩
theorem Cx.Ok.unwish{E:BH->BI->Prop}(ok:(X.wish E).Ok):X.Ok:=
 ⟨ok.mod,ok.kind,ok.glob,ok.blt,ok.above,ok.inj,ok.has,ok.cab,ok.hd,ok.frames,ok.stk,ok.exf,ok.bs,ok.bsz,ok.noex,ok.exfs,ok.funs,ok.frf⟩
variable {E:BH->BI->Prop}
theorem Inv.wish(I:Inv X pins σ H s)(E:BH->BI->Prop):Inv (X.wish E) pins σ H s:=⟨I.ok.wish E,I.os,I.bare,I.base,I.loc,I.cell,I.free,I.freeC,I.pin,I.hok,I.len⟩
theorem Inv.unwish(I:Inv (X.wish E) pins σ H s):Inv X pins σ H s:=⟨I.ok.unwish,I.os,I.bare,I.base,I.loc,I.cell,I.free,I.freeC,I.pin,I.hok,I.len⟩
theorem SP.unwish{D:xP}{f:Flow}{s':BI}(h:SP (X.wish E) pins D f s'):SP X pins D f s':=by
 cases f with
 |next=>obtain⟨σ',H',I,q⟩:=h;exact⟨σ',H',I.unwish,q⟩
 |brk=>obtain⟨σ',H',I,q⟩:=h;exact⟨σ',H',I.unwish,q⟩
 |cont=>obtain⟨σ',H',I,q⟩:=h;exact⟨σ',H',I.unwish,q⟩
 |ret u=>obtain⟨v,σ',H',I,r,q⟩:=h;exact⟨v,σ',H',I.unwish,r,q⟩
theorem PSs.nox{st:List BN}{t:TS}(h:PSs X.nox st t):PSs X st t:=λpins s σ H D I hw=>AW (h pins s σ H D (I.wish _) hw) (λ_ _ q=>q.unwish) λ_ _ z=>False.elim z
variable {st:BN}{rest:List BN}{t u:TS}{e:Expr}{te:TE}
noncomputable def aNv:TS:=λD σ H=>D.nx σ H
noncomputable def tSeq(t u:TS):TS:=λD σ H=>t {D with nx:=u D} σ H
theorem pss_nil:PSs X [] aNv:=λ_ _ σ H _ I h=>wpAny_execs_nil ⟨σ,H,I,h⟩
theorem aGl(h1:PS X st t)(h2:PSs X rest u):PSs X (st::rest) (tSeq t u):=by
 intro pins s σ H D I h;refine wpAny_execs_cons<|thn (h1 pins s σ H {D with nx:=u D} I h) λf s1 q=> ?_;cases f with
 |next=>obtain⟨σ',H',I',q⟩:=q;exact h2 pins s1 σ' H' D I' q
 |ret v=>exact q
 |brk=>exact q
 |cont=>exact q
theorem aJY(h1:PS X st t):PSs X [st] t:=by
 intro pins s σ H D I h;refine wpAny_execs_cons<|thn (h1 pins s σ H D I h) λf s1 q=> ?_;cases f with
 |next=>exact wpAny_execs_nil q
 |ret v=>exact q
 |brk=>exact q
 |cont=>exact q
theorem Inv.quiet(I:Inv X pins σ H s):interactive X.env=false:=by simp[interactive,I.ok.kind]
noncomputable def aNJ(te:TE):TS:=λD σ H=>te σ H λ_ H1=>D.nx σ H1
theorem aDT(he:PE X e te)(hs:Af e none pos.line X.env=pure false:=by rfl):PS X (.Expr e pos) (aNJ te):=by intro pins s σ H D I h;exact wpAny_Expr_any (thn (he pins s σ H _ I h) λv s1 ⟨x,H1,I1,r1,q1⟩=>⟨σ,H1,I1,q1⟩) I.quiet hs
noncomputable def tRet(te:TE):TS:=λD σ H=>te σ H D.rt
theorem aBs(he:PE X e te):PS X (.Return (some e) pos) (tRet te):=by intro pins s σ H D I h;exact wpAny_Return_some<|thn (he pins s σ H _ I h) λv s1 ⟨x,H1,I1,r1,q1⟩=>⟨x,σ,H1,I1,r1,q1⟩
noncomputable def tIfS(c:TT)(t u:TS):TS:=λD σ H=>c σ H λb H1=>if b=true then t D σ H1 else u D σ H1
theorem aNs{c:Expr}{a b:List BN}{tc:TT}(hc:PT X c tc)(ha:PSs X a t)(hb:PSs X b u):PS X (.If c a b pos) (tIfS tc t u):=by
 intro pins s σ H D I h;refine wpAny_If<|thn (hc pins s σ H _ I h) λd s1 ⟨H1,I1,q1⟩=> ?_;cases d with
 |true=>exact ha pins s1 σ H1 D I1 q1
 |false=>exact hb pins s1 σ H1 D I1 q1
noncomputable abbrev TG:=V->St->Hp->(St->Hp->Prop)->Prop
noncomputable abbrev TGs:=List V->St->Hp->(St->Hp->Prop)->Prop
def PG(X:Cx)(target:Expr)(t:TG):Prop:=
 ∀ (pins:List (BJ×BM)) (s:BI) (σ:St) (H:Hp) (v:V) (u:BH) (Q:St->Hp->Prop),Inv X pins σ H s->RelV v u->t v σ H Q->
  AG (AF X.prog X.w) X.A (assign target X.env u) (λ_ s'=>∃σ' H',Inv X pins σ' H' s'/\Q σ' H') X.xe s
def PGs(X:Cx)(ts:List Expr)(t:TGs):Prop:=
 ∀ (pins:List (BJ×BM)) (s:BI) (σ:St) (H:Hp) (vs:List V) (us:List BH) (Q:St->Hp->Prop),Inv X pins σ H s->Vals vs us->t vs σ H Q->
  AG (AF X.prog X.w) X.A (assignInOrder ((Ay ts X.env).map (·.2)) us) (λ_ s'=>∃σ' H',Inv X pins σ' H' s'/\Q σ' H') X.xe s
noncomputable abbrev aNa:=V->V->V->Hp->(Hp->Prop)->Prop
def aOC(X:Cx)(t:aNa):Prop:=
 ∀ (pins:List (BJ×BM)) (s:BI) (σ:St) (H:Hp) (o i v:V) (ov iv u:BH) (Q:Hp->Prop),Inv X pins σ H s->RelV o ov->RelV i iv->RelV v u->t o i v H Q->
  AG (AF X.prog X.w) X.A (setItem ov iv u) (λ_ s'=>∃H',Inv X pins σ H' s'/\Q H') X.xe s
noncomputable abbrev TIp:=V->V->Hp->VK->Prop
noncomputable def aDc(i:Nat):TG:=λv σ H Q=>Q (σ.set i (some v)) H
theorem aAY{i:Nat}{x:Str}(hN:X.N.Nodup)(hi:X.N[i]? =some x)(hx:Loc X.env.scope x)(hf:X.fn x=true\/X.env.scope.names.lookup x=some .local:=by first|exact .inl rfl|exact .inr rfl|assumption):PG X (.Name x pos) (aDc i):=by intro pins s σ H v u Q I r h;exact wpAny_assign_Name<|wJ I hN hi hx r (λs' I'=>⟨_,H,I',h⟩) hf
noncomputable def aOI:TGs:=λvs σ H Q=>vs=[]/\Q σ H
noncomputable def aLk(t:TG)(u:TGs):TGs:=λvs σ H Q=>∃v r,vs=v::r/\t v σ H λσ' H'=>u r σ' H' Q
theorem kU:PGs X [] aOI:=by intro pins s σ H vs us Q I r h;obtain⟨e,h⟩:=h;subst e;cases r;exact assignInOrder_nil ⟨σ,H,I,h⟩
theorem fD{es:List Expr}{t:TG}{u:TGs}(h1:PG X e t)(h2:PGs X es u)
  (hs:(Ay (e::es) X.env).map (·.2)=assign e X.env::(Ay es X.env).map (·.2):=by rfl):PGs X (e::es) (aLk t u):=by
 intro pins s σ H vs us Q I r h;obtain⟨v,vr,e1,h⟩:=h;subst e1;cases r with
 |cons r rr=>rw[hs];refine assignInOrder_cons<|thn (h1 pins s σ H _ _ _ I r h) λ_ s1 ⟨σ1,H1,I1,q1⟩=> ?_;exact h2 pins s1 σ1 H1 _ _ Q I1 rr q1
noncomputable def gTup(K:aB)(n:Nat)(t:TGs):TG:=λv σ H Q=>∃a xs,v=.ref a/\SqT K H a xs/\xs.length=n/\t xs σ H Q
theorem aLU{es:List Expr}{k:Nat}{t:TGs}{n:Nat}(hc:X.calm=true)(h:PGs X es t)
  (hn:(Ay es X.env).length=n:=by rfl) (hst:(Ay es X.env).findIdx? (·.1)=none:=by rfl):PG X (.Tuple es k pos) (gTup X.K n t):=by
 intro pins s σ H v u Q I r hw;obtain⟨a,xs,e1,hq,hl,hw⟩:=hw;subst e1;cases r;obtain⟨its,rv,ht,hz⟩:=I.tuple hq;refine assign_Tuple_tuple (I.ok.hd hc) ht (by simp[hn,<-hl,rv.length]) hst λh' hx=> ?_
 have I1:Inv X pins σ H {s with heap:=h'}:=I.kept (t':=s.toks) λb o e=>hx b o (bQ<|aM e) e
 exact h pins _ σ H xs _ Q I1 (by simpa using rv) hw
noncomputable def gSub(to ti:TE)(t:aNa):TG:=λv σ H Q=>to σ H λo H1=>ti σ H1 λi H2=>t o i v H2 λH3=>Q σ H3
theorem aMw{o i:Expr}{to ti:TE}{t:aNa}(ho:PE X o to)(hi:PE X i ti)(hs:aOC X t)
  (ha:∀v,assign (.Subscript o i pos) X.env v=(do
   let ov <-holding [v] (eval o X.env)
   let iv <-holding [v,ov] (eval i X.env)
   standAt pos
   holding [v,ov,iv] (setItem ov iv v)
   release [v,ov,iv] []):=by intro _;rfl):PG X (.Subscript o i pos) (gSub to ti t):=by
 intro pins s σ H v u Q I r h;rw[ha];refine AA (AS<|thn (ho pins s σ H _ I h) λov s1 ⟨x,H1,I1,r1,q1⟩=> ?_);refine AA (AS<|thn (hi pins s1 σ H1 _ I1 q1) λiv s2 ⟨y,H2,I2,r2,q2⟩=> ?_);refine AA (wpAny_standAt<|AA (AS<|thn (hs pins s2 σ H2 x y v ov iv u _ I2 r1 r2 r q2) λ_ s3 ⟨H3,I3,q3⟩=> ?_));exact wpAny_release ⟨σ,H3,I3,q3⟩
noncomputable def aOy(te:TE)(g:TG):TS:=λD σ H=>te σ H λx H1=>g x σ H1 D.nx
theorem aHq{tg:Expr}{g:TG}(he:PE X e te)(hg:PG X tg g)(hs:swapsWithSole [tg] e pos.line X.env=pure false:=by rfl)(hw:swappedStores [tg] e X.env=pure none:=by rfl)
  (h1:(Ay [tg] X.env).map (·.2)=[assign tg X.env]:=by rfl):PS X (.Assign [tg] e pos) (aOy te g):=by
 intro pins s σ H D I h;refine wpAny_Assign_stores (thn (he pins s σ H _ I h) λv s1 ⟨x,H1,I1,r1,q1⟩=> ?_) hs hw;rw[h1];exact thn (hg pins s1 σ H1 x v _ I1 r1 q1) λ_ s2 q=>q
theorem tS{i:Nat}{x:Str}{pos':Pos}(hN:X.N.Nodup)(hi:X.N[i]? =some x)(hx:Loc X.env.scope x)(he:PE X e te)(hs:Af e (some<|.Name x pos') pos.line X.env=pure false:=by rfl)(hf:X.fn x=true\/X.env.scope.names.lookup x=some .local:=by first|exact .inl rfl|exact .inr rfl|assumption):
  PS X (.Assign [.Name x pos'] e pos) (aOy te<|aDc i):=by
 intro pins s σ H D I h;refine wpAny_Assign_Name (thn (he pins s σ H _ I h) λv s1 ⟨y,H1,I1,r1,q1⟩=> ?_) hs;exact wJ I1 hN hi hx r1 (λs2 I2=>⟨_,H1,I2,q1⟩) hf
structure It where
 go:Nat->Hp->Prop
 yld:Nat->Hp->V->Hp->Prop
 stop:Nat->Hp->Prop
def uF(X:Cx)(pins:List (BJ×BM))(H:Hp)(b:BJ):Prop:=
 H b=none/\b≠X.env.locals/\b∉X.fs/\(b∈X.ex\/X.s₀.heap.objs.size<=b)/\(∀x c,X.env.cells.lookup x=some c->c≠b)/\∀p∈X.pn++pins,p.1≠b
theorem Inv.fpOk{b:BJ}(I:Inv X pins σ H s)(hb:s.heap.objs.size<=b)(hn:H' b=none):uF X pins H' b:=by
 refine⟨hn,gG<|aW I.lt hb,I.nofs hb,.inr<|cP I.sz hb,λx c e z=> ?_,λp hp z=> ?_⟩
 ·obtain⟨v,q⟩:=I.cell x c e;exact absurd (aW q.lt<|by rw[z];exact hb)<|cQ _
 ·exact absurd (aW (aM (I.pin p hp).1)<|by rw[z];exact hb)<|cQ _
structure aHh(P:AI)(w:AL)(K:aB)(tg:Expr)(J:It)(fp:List BJ)(it:BJ)(tn:Nat->BL->Prop):Prop where
 mem:it∈fp
 obj:∀i h,tn i h->∀b∈fp,∃o,h.get? b=some o/\∀v,o.data≠ .cell v
 keep:∀i h h',tn i h->(∀b∈fp,∀o,h.get? b=some o->h'.get? b=some o)->tn i h'
 item:∀ (X:Cx),X.prog=P->X.w=w->X.K=K->X.calm=true->∀ (i:Nat) (pins:List (BJ×BM)) (s:BI) (σ:St) (H:Hp) (E:BH->BI->Prop),Inv X pins σ H s->(∀b∈fp,uF X pins H b)->tn i s.heap->J.go i H->
  AG (AF P w) X.A (pyNext (.ref it)) (fun r s1=>∃u,r=some u∧
   AG (AF P w) X.A (letOwnedTupleGo tg (.ref it) u) (λ_ s2=>∃x H',Inv X pins σ H' s2/\RelV x u/\J.yld i H x H'/\tn (i+1) s2.heap/\∀b∈fp,H' b=none) E s1) E s
 done:∀ (X:Cx),X.prog=P->X.w=w->X.K=K->X.calm=true->∀ (i:Nat) (pins:List (BJ×BM)) (s:BI) (σ:St) (H:Hp) (E:BH->BI->Prop),Inv X pins σ H s->(∀b∈fp,uF X pins H b)->tn i s.heap->J.stop i H->
  AG (AF P w) X.A (pyNext<|.ref it) (λr s1=>r=none/\Inv X pins σ H s1) E s
 self:∀ (A:BK) (i:Nat) (s:BI) (Q:BH->BI->Prop) (E:BH->BI->Prop),tn i s.heap->Q (.ref it) s->AG (AF P w) A (pyIter<|.ref it) Q E s
noncomputable abbrev TI:=St->Hp->(It->Hp->Prop)->Prop
def PIE(X:Cx)(pins:List (BJ×BM))(σ:St)(tg:Expr)(R:It->Hp->Prop)(itv:BH)(s2:BI):Prop:=
 ∃ (it:BJ) (fp:List BJ) (tn:Nat->BL->Prop) (J:It) (H':Hp),itv=.ref it/\Inv X pins σ H' s2/\aHh X.prog X.w X.K tg J fp it tn/\tn 0 s2.heap/\(∀b∈fp,uF X pins H' b)/\R J H'
def PI(X:Cx)(tg iter:Expr)(wi:TI):Prop:=
 ∀ (pins:List (BJ×BM)) (s:BI) (σ:St) (H:Hp) (R:It->Hp->Prop),Inv X pins σ H s->wi σ H R->
  AG (AF X.prog X.w) X.A (eval iter X.env) (λv s1=>AG (AF X.prog X.w) X.A (pyIter v) (PIE X pins σ tg R) X.xe s1) X.xe s
theorem aIJ{M:Model}{A:BK}{tg:Expr}{it:BJ}{u:BH}{o:BM}{n:String}{vs:Array BH}{Q:Unit->BI->Prop}(ho:s.heap.get? it=some o)(hc:o.cls=.type n)(hd:o.data=.fields vs)
  (hn:["enumerate","zip","dict_itemiterator","dict_reverseitemiterator","odict_iterator","itertools.zip_longest","itertools.pairwise"].contains n=false) (hQ:Q () s):AG M A (letOwnedTupleGo tg (.ref it) u) Q E s:=by
 unfold letOwnedTupleGo
 cases tg<;>first
  |exact AB hQ
  | (cases u<;>first
    |exact AB hQ
    | (refine AA (wpAny_load ho ?_)
       rw[hc,hd];show AG M A (if(["enumerate","zip","dict_itemiterator","dict_reverseitemiterator","odict_iterator","itertools.zip_longest","itertools.pairwise"].contains n&&vs[0]? ==some (Al _))=true then _ else _) Q E s;rw[if_neg<|by intro h;rw[hn,iZ] at h;cases h]
       exact AB hQ))
noncomputable def Itl(K:aB)(a:BJ):It:=
 ⟨λi H=>∃xs x,SqL K H a xs/\xs[i]? =some x,λi H x H'=>H'=H/\∀xs,SqL K H a xs->xs[i]? =some x,λi H=>∃xs,SqL K H a xs/\xs.length<=i⟩
noncomputable def Itt(K:aB)(a:BJ):It:=
 ⟨λi H=>∃xs x,SqT K H a xs/\xs[i]? =some x,λi H x H'=>H'=H/\∀xs,SqT K H a xs->xs[i]? =some x,λi H=>∃xs,SqT K H a xs/\xs.length<=i⟩
noncomputable def Itr(lo:Int)(n:Nat):It:=⟨λi _=>i<n,λi H x H'=>H'=H/\x=.int (lo+i),λi _=>n<=i⟩
theorem aFg{K:aB}{tg:Expr}(a it:BJ):aHh P w K tg (Itl K a) [it] it (λi h=>h.IsListIter it a i) where
 mem:=by simp
 obj:=λi h st b hb=>by
  have e:b=it:=by simpa using hb
  subst e;obtain⟨o,e,c,d⟩:=st;exact⟨o,e,λv z=>by rw[d] at z;cases z⟩
 keep:=λi h h' st k=>st.at λo e=>k it (by simp) o e
 item:=by
  intro X hP hw hK hc i pins s σ H E I hf st hg;subst hP hw hK;obtain⟨xs,x,hq,hx⟩:=hg;obtain⟨its,rv,p,hz⟩:=I.list hq;obtain⟨u,hu,ru⟩:=rv.get hx;obtain⟨f0,f1,f2,f3,f4,f5⟩:=hf it (by simp);refine wpAny_pyNext_list_item st p.isList (x:=u) (by simpa using hu) λh' st' sb=> ?_
  have I1:Inv X pins σ H {s with heap:=h'}:=I.turned (t':=s.toks) (λb o hb e=>(sb.2 b hb).trans e) f0 f1 f3 f4 f5;obtain⟨o,e,c,d⟩:=id st';exact⟨u,rfl,aIJ (s:={s with heap:=h'}) e c d (by decide) ⟨x,H,I1,ru,⟨rfl,λys hy=>by rw[I.list_inj hy hq];exact hx⟩,st',λb hb=>(hf b hb).1⟩⟩
 done:=by intro X hP hw hK hc i pins s σ H E I hf st hg;subst hP hw hK;obtain⟨xs,hq,hx⟩:=hg;obtain⟨its,rv,p,hz⟩:=I.list hq;obtain⟨f0,f1,f2,f3,f4,f5⟩:=hf it (by simp);have hl:=rv.length;exact wpAny_pyNext_list_end (I.ok.hd hc) st p.isList (by simp;omega) λh' eb=>⟨rfl,I.turned (t':=s.toks) (λb o hb e=>eb b o hb e) f0 f1 f3 f4 f5⟩
 self:=λ_ _ _ _ _ st h=>wpAny_pyIter_listiter st h
theorem aCF{K:aB}{tg:Expr}(a it:BJ):aHh P w K tg (Itt K a) [it] it (λi h=>h.IsTupleIter it a i) where
 mem:=by simp
 obj:=λi h st b hb=>by
  have e:b=it:=by simpa using hb
  subst e;obtain⟨o,e,c,d⟩:=st;exact⟨o,e,λv z=>by rw[d] at z;cases z⟩
 keep:=λi h h' st k=>st.at λo e=>k it (by simp) o e
 item:=by
  intro X hP hw hK hc i pins s σ H E I hf st hg;subst hP hw hK;obtain⟨xs,x,hq,hx⟩:=hg;obtain⟨its,rv,p,hz⟩:=I.tuple hq;obtain⟨u,hu,ru⟩:=rv.get hx;obtain⟨f0,f1,f2,f3,f4,f5⟩:=hf it (by simp);refine wpAny_pyNext_tuple_item st (show s.heap.IsTuple a its.toArray from p) (x:=u) (by simpa using hu) λh' st' sb=> ?_
  have I1:Inv X pins σ H {s with heap:=h'}:=I.turned (t':=s.toks) (λb o hb e=>(sb.2 b hb).trans e) f0 f1 f3 f4 f5;obtain⟨o,e,c,d⟩:=id st';exact⟨u,rfl,aIJ (s:={s with heap:=h'}) e c d (by decide) ⟨x,H,I1,ru,⟨rfl,λys hy=>by rw[I.tuple_inj hy hq];exact hx⟩,st',λb hb=>(hf b hb).1⟩⟩
 done:=by intro X hP hw hK hc i pins s σ H E I hf st hg;subst hP hw hK;obtain⟨xs,hq,hx⟩:=hg;obtain⟨its,rv,p,hz⟩:=I.tuple hq;obtain⟨f0,f1,f2,f3,f4,f5⟩:=hf it (by simp);have hl:=rv.length;exact wpAny_pyNext_tuple_end (I.ok.hd hc) st (show s.heap.IsTuple a its.toArray from p) (by simp;omega) λh' eb=>⟨rfl,I.turned (t':=s.toks) (λb o hb e=>eb b o hb e) f0 f1 f3 f4 f5⟩
 self:=λ_ _ _ _ _ st h=>wpAny_pyIter_tupleiter st h
theorem aCQ{K:aB}{tg:Expr}(it:BJ)(lo:Int)(n:Nat):aHh P w K tg (Itr lo n) [it] it (λi h=>IsRangeIter h it (lo+(i:Nat)*1) ((n:Int)-(i:Nat)) 1) where
 mem:=by simp
 obj:=λi h st b hb=>by
  have e:b=it:=by simpa using hb
  subst e
  exact ⟨_,st,fun v z=>by
   have z':Data.fields _=Data.cell v:=z
   cases z'⟩
 keep:=λi h h' st k=>k it (by simp) _ st
 item:=by
  intro X hP hw hK hc i pins s σ H E I hf st hg;subst hP hw hK;obtain⟨f0,f1,f2,f3,f4,f5⟩:=hf it (by simp);have W:=Walks.range (prog:=X.prog) (w:=X.w) (I.ok.hd hc) it lo 1 n;refine W.item i s _ _ hg st λv h' tk hv st' kk=> ?_
  obtain⟨t,rfl⟩:=hv;have I1:Inv X pins σ H {s with heap:=h',toks:=tk}:=I.turned (λb o hb e=>kk b o (by simpa using hb) e) f0 f1 f3 f4 f5;refine⟨_,rfl,aIJ (s:={s with heap:=h',toks:=tk}) (n:="range_iterator") st' rfl rfl (by decide) ⟨.int<|lo+i,H,I1,⟨t, ?_⟩,⟨rfl,rfl⟩,st',λb hb=>(hf b hb).1⟩⟩;rw[Int.mul_one]
 done:=by intro X hP hw hK hc i pins s σ H E I hf st hg;subst hP hw hK;obtain⟨f0,f1,f2,f3,f4,f5⟩:=hf it (by simp);exact wpAny_pyNext_range_end (I.ok.hd hc) st (by have:n<=i:=hg;omega) λh' eb=>⟨rfl,I.turned (t':=s.toks) (λb o hb e=>eb b o hb e) f0 f1 f3 f4 f5⟩
 self:=λ_ _ _ _ _ st h=>wpAny_pyIter_rangeiter st h
variable {tg:Expr}
noncomputable def aNx(K:aB)(tl:TE):TI:=λσ H R=>tl σ H λx H1=>∃a,x=.ref a/\(∃xs,SqL K H1 a xs)/\R (Itl K a) H1
noncomputable def iTup(K:aB)(tl:TE):TI:=λσ H R=>tl σ H λx H1=>∃a,x=.ref a/\(∃xs,SqT K H1 a xs)/\R (Itt K a) H1
theorem aJr{l:Expr}{tl:TE}(hl:PE X l tl):PI X tg l (aNx X.K tl):=by
 intro pins s σ H R I h;refine thn (hl pins s σ H _ I h) λv s1 ⟨x,H1,I1,r1,q1⟩=> ?_
 obtain⟨a,e,⟨xs,hq⟩,q⟩:=q1;subst e;cases r1;obtain⟨its,rv,p,hz⟩:=I1.list hq;refine wpAny_pyIter_list p.isList ?_;refine⟨s1.heap.objs.size,[s1.heap.objs.size],_,_,H1,rfl,I1.kept (t':=s1.toks) λb o e=>aE _ e,aFg a _,⟨_,bE _ rfl,rfl,rfl⟩,λb hb=> ?_,q⟩;have e:b=s1.heap.objs.size:=by simpa using hb
 subst e;exact I1.fpOk (aG _) (I1.hok.fresh<|aG _)
theorem aLp{l:Expr}{tl:TE}(hl:PE X l tl):PI X tg l (iTup X.K tl):=by
 intro pins s σ H R I h;refine thn (hl pins s σ H _ I h) λv s1 ⟨x,H1,I1,r1,q1⟩=> ?_
 obtain⟨a,e,⟨xs,hq⟩,q⟩:=q1;subst e;cases r1;obtain⟨its,rv,p,hz⟩:=I1.tuple hq;refine wpAny_pyIter_tuple (show s1.heap.IsTuple a its.toArray from p) ?_;refine⟨s1.heap.objs.size,[s1.heap.objs.size],_,_,H1,rfl,I1.kept (t':=s1.toks) λb o e=>aE _ e,aCF a _,⟨_,bE _ rfl,rfl,rfl⟩,λb hb=> ?_,q⟩;have e:b=s1.heap.objs.size:=by simpa using hb
 subst e;exact I1.fpOk (aG _) (I1.hok.fresh<|aG _)
theorem aFQ{R:It->Hp->Prop}{lo hi:Int}{t u v:Tok}{tk:Nat}(I:Inv X pins σ H s)(h1: -(2^62)<=lo)(h2:lo<2^62)(h3: -(2^62)<=hi)(h4:hi<2^62)
  (q:R (Itr lo (hi-lo).toNat) H):AG (AF X.prog X.w) X.A (pyIter<|.ref s.heap.objs.size) (PIE X pins σ tg R) E {s with heap:=s.heap.push {cls:=.type "range",data:=.fields #[.int lo t,.int hi u,.int 1 v]},toks:=tk}:=by
 refine wpAny_pyIter_range (IsRange.new ..) (small_one h1 h2 h3 h4) ?_;have I1:Inv X pins σ H {s with heap:=s.heap.push {cls:=.type "range",data:=.fields #[.int lo t,.int hi u,.int 1 v]},toks:=tk}:=I.kept λb o e=>aE _ e
 refine ⟨(s.heap.push {cls:= .type "range",data:= .fields #[.int lo t, .int hi u, .int 1 v]}).objs.size,[(s.heap.push {cls:= .type "range",data:= .fields #[.int lo t, .int hi u, .int 1 v]}).objs.size],_,_,H,rfl,
  I1.kept (t':=tk) λb o e=>aE _ e,aCQ _ lo (hi-lo).toNat, ?_,λb hb=> ?_,q⟩
 ·have e1:lo+((0:Nat):Int)*1=lo:=by simp
  have e2:(((hi-lo).toNat:Nat):Int)-((0:Nat):Int)=Builtin.Range.rangeSize lo hi 1:=by rw[rangeSize_one];split<;>omega
  show IsRangeIter _ _ (lo+((0:Nat):Int)*1) ((((hi-lo).toNat:Nat):Int)-((0:Nat):Int)) 1;rw[e1,e2];exact bE _ rfl
 ·have e:b=(s.heap.push {cls:=.type "range",data:=.fields #[.int lo t,.int hi u,.int 1 v]}).objs.size:=by simpa using hb
  subst e;exact I1.fpOk (aG _) (I1.hok.fresh<|aG _)
noncomputable def aNm(ta:TA):TI:=λσ H R=>ta σ H λvs H1=>∃j:Int,vs=[.int j]/\ -(2^62)<=j/\j<2^62/\R (Itr 0 j.toNat) H1
theorem aEI{a:Expr}{ta:TA}{p:Pos}(hg:Gl X "range")(hm:X.mg "range"=none)(ha:PA X [a] ta)(hs:AD [a] X.env=[(false,eval a X.env)]:=by rfl):PI X tg (.Call (.Name "range" p) [a] [] pos) (aNm ta):=by
 intro pins s σ H R I h;refine Call_ (qG I hg hm boot_range<|PyProof.Rows.callWith_type1 (thn (ha pos pins s σ H _ I h) λus s1 ⟨vs,H1,I1,r1,q1⟩=> ?_) hs rfl);obtain⟨j,e,q1,q2,q⟩:=q1;subst e;cases r1 with
 |cons r rr=>cases rr;obtain⟨t,rfl⟩:=r;exact call_range_1 (aFQ I1 (by omega) (by omega) q1 q2<|by simpa using q)
noncomputable def tFor(wi:TI)(g:TG)(tb:TS):TS:=λD σ H=>wi σ H λJ H1=>∃W:Nat->Nat->St->Hp->Prop,(∃m,W 0 m σ H1)/\∀i m σ H,W i m σ H->
 (J.stop i H/\D.nx σ H)\/(J.go i H/\∃N:St->Hp->Prop,(∀σ' H',N σ' H'->∃m',m'<m/\W (i+1) m' σ' H')/\∀x H',J.yld i H x H'->g x σ H' λσ2 H2=>tb {D with nx:=N,ct:=N,bk:=D.nx} σ2 H2)
noncomputable def lK(fp:List BJ)(h:BL):List (BJ×BM):=fp.filterMap λb=>(h.get? b).map λo=>(b,o)
theorem iL{fp:List BJ}{b:BJ}{o:BM}(hb:b∈fp)(e:h.get? b=some o):(b,o)∈lK fp h:=iG.mpr ⟨b,hb,by rw[e];rfl⟩
theorem qR{fp:List BJ}{p:BJ×BM}(hp:p∈lK fp h):p.1∈fp/\h.get? p.1=some p.2:=by
 obtain⟨b,hb,e⟩:=iG.mp hp;cases q:h.get? b with
 |none=>rw[q] at e;cases e
 |some o=>rw[q] at e;have e':(b,o)=p:=bT.inj e;subst e';exact⟨hb,q⟩
theorem Inv.pinned{fp:List BJ}(I:Inv X pins σ H s)(hf:∀b∈fp,uF X pins H b)(ho:∀b∈fp,∃o,s.heap.get? b=some o/\∀v,o.data≠ .cell v):Inv X (pins++lK fp s.heap) σ H s:=
 I.pins_of λp hp=>(aJ.mp hp).elim (λz=>I.pin p<|aC _ z) λz=>by obtain⟨hb,e⟩:=qR z;obtain⟨f0,f1,f2,_⟩:=hf p.1 hb;obtain⟨o,e',d⟩:=ho p.1 hb;rw[e] at e';cases e';exact⟨e,f0,f1,f2,d⟩
theorem Inv.unpinned{pl:List (BJ×BM)}(I:Inv X (pins++pl) σ H s):Inv X pins σ H s:=I.pins_of λp hp=>I.pin p (aC _<|aU _ hp)
theorem aHQ{iter:Expr}{body:List BN}{wi:TI}{g:TG}{tb:TS}(hp:PassesOwn (AF X.prog X.w) X.A X.env X.xe)(hc:X.calm=true)(hi:PI X tg iter wi)(hg:PG X tg g)(hb:PSs X body tb)
  (hs:∀x,Ag iter X.env x=pure x:=by intro _;rfl):PS X (.For tg iter body [] pos) (tFor wi g tb):=by
 intro pins s σ H D I h;refine wpAny_For (thn (hi pins s σ H _ I h) λv s1 h1=>thn h1 λitv s2 h2=> ?_) hs;obtain⟨it,fp,tn,J,H2,e,I2,T,st2,f2,W,⟨m0,w0⟩,turn⟩:=h2;subst e
 have stat:∀ {H':Hp},(∀b∈fp,H' b=none)->∀b∈fp,uF X pins H' b:=λhn b hb=>⟨hn b hb,(f2 b hb).2⟩
 refine codeAny_forLoop_any (λn s'=>∃i σ' H',Inv X pins σ' H' s'/\tn i s'.heap/\(∀b∈fp,H' b=none)/\W i n σ' H') ?_ m0 ⟨0,σ,H2,I2,st2,λb hb=>(f2 b hb).1,w0⟩;rintro n s3 ⟨i,σ3,H3,I3,st3,fr3,w3⟩
 rcases turn i n σ3 H3 w3 with⟨stop,qn⟩|⟨go,N,hN,step⟩
 ·refine BF hp<|thn (T.done X rfl rfl rfl hc i pins s3 σ3 H3 X.xe I3 (stat fr3) st3 stop) λr s4 ⟨hr,I4⟩=> ?_;subst hr;exact wpAny_execs_nil ⟨σ3,H3,I4,qn⟩
 ·refine BF hp<|thn (T.item X rfl rfl rfl hc i pins s3 σ3 H3 X.xe I3 (stat fr3) st3 go) λr s4 ⟨u,hr,h4⟩=> ?_;subst hr;refine BF hp<|thn h4 λ_ s5 ⟨x,H5,I5,r5,y5,st5,fr5⟩=> ?_;have I5':=I5.pinned (stat fr5)<|T.obj _ _ st5;refine BF hp<|thn (hg _ s5 σ3 H5 x u _ I5' r5<|step x H5 y5) λ_ s6 ⟨σ6,H6,I6,q6⟩=> ?_;refine BF hp (thn (hb _ s6 σ6 H6 _ I6 q6) λf s7 q7=> ?_)
  have again:∀ {σ7:St}{H7:Hp},Inv X (pins++lK fp s5.heap) σ7 H7 s7->N σ7 H7->∃m,m<n/\∃i σ' H',Inv X pins σ' H' s7/\tn i s7.heap/\(∀b∈fp,H' b=none)/\W i m σ' H':=λ{σ7 H7} I7 n7=>by obtain⟨m',hm,w7⟩:=hN σ7 H7 n7;refine⟨m',hm,i+1,σ7,H7,I7.unpinned,T.keep _ _ _ st5 λb hb o e=>(I7.pin (b,o)<|aC _ (aC _<|iL hb e)).1,λb hb=> ?_,w7⟩;obtain⟨o,e,d⟩:=T.obj _ _ st5 b hb;exact(I7.pin (b,o)<|aC _ (aC _<|iL hb e)).2.1
  cases f with
  |next=>obtain⟨σ7,H7,I7,n7⟩:=q7;exact again I7 n7
  |cont=>obtain⟨σ7,H7,I7,n7⟩:=q7;exact again I7 n7
  |brk=>obtain⟨σ7,H7,I7,q7⟩:=q7;exact⟨σ7,H7,I7.unpinned,q7⟩
  |ret v=>obtain⟨x7,σ7,H7,I7,r7,q7⟩:=q7;exact⟨x7,σ7,H7,I7.unpinned,r7,q7⟩
noncomputable abbrev R2:=V->V->Hp->VK->Prop
def OpR(X:Cx)(f:BH->BH->Sem BH)(r:R2):Prop:=
 ∀ (pins:List (BJ×BM)) (s:BI) (σ:St) (H:Hp) (x y:V) (v u:BH) (Q:VK),Inv X pins σ H s->RelV x v->RelV y u->r x y H Q->
  AG (AF X.prog X.w) X.A (f v u) (EP X pins σ Q) X.xe s
def pV(X:Cx)(f:BH)(r:List V->Hp->VK->Prop):Prop:=
 ∀ (pins:List (BJ×BM)) (s:BI) (σ:St) (H:Hp) (xs:List V) (us:List BH) (Q:VK),Inv X pins σ H s->Vals xs us->r xs H Q->
  AG (AF X.prog X.w) X.A (call f us) (EP X pins σ Q) X.xe s
noncomputable def tOp(r:R2)(ta tb:TE):TE:=λσ H Q=>ta σ H λx H1=>tb σ H1 λy H2=>r x y H2 Q
noncomputable def rI(C:Int->Int->Prop)(g:Int->Int->V):R2:=λx y H Q=>∃i j,x=.int i/\y=.int j/\C i j/\Q (g i j) H
noncomputable def rI0(g:Int->Int->V):R2:=λx y H Q=>∃i j,x=.int i/\y=.int j/\Q (g i j) H
variable {a c:Expr}{tc:TE}
theorem aNd(ha:PE X a ta)(hb:PE X b tb){R:V->V->Hp->Prop}(I:Inv X pins σ H s)
  (h:ta σ H λx H1=>tb σ H1 λy H2=>R x y H2) {Q:BH->BI->Prop}{f:BH->BH->Sem BH}
  (hf:∀v u s2 x y H2,Inv X pins σ H2 s2->RelV x v->RelV y u->R x y H2->AG (AF X.prog X.w) X.A (f v u) Q X.xe s2):
  AG (AF X.prog X.w) X.A (eval a X.env) (λv s₁=>AG (AF X.prog X.w) X.A (eval b X.env) (λu s₂=>AG (AF X.prog X.w) X.A (f v u) Q X.xe s₂) X.xe s₁) X.xe s:=by
 refine thn (ha pins s σ H _ I h) λv s1 ⟨x,H1,I1,r1,q1⟩=> ?_
 refine thn (hb pins s1 σ H1 _ I1 q1) λu s2 ⟨y,H2,I2,r2,q2⟩=> ?_
 exact hf v u s2 x y H2 I2 r1 r2 q2
theorem aNN{op:Operator}{r:R2}(ho:OpR X (Am op) r)(ha:PE X a ta)(hb:PE X b tb):PE X (.BinOp a op b pos) (tOp r ta tb):=by intro pins s σ H Q I h;exact wpAny_BinOp<|aNd ha hb I h λv u s2 x y H2 I2 rx ry q=>ho pins s2 σ H2 x y v u Q I2 rx ry q
theorem opI{f:BH->BH->Sem BH}{C:Int->Int->Prop}{g:Int->Int->Int}
  (rule:∀ (i j:Int) (t u:Tok) (s:BI) (Q:BH->BI->Prop) (E:BH->BI->Prop),C i j->Q (.int (g i j) s.toks) {s with toks:=s.toks+1}->AG (AF X.prog X.w) X.A (f (.int i t)<|.int j u) Q E s):
  OpR X f (rI C λi j=>.int<|g i j):=by
 intro pins s σ H x y v u Q I rx ry h;obtain⟨i,j,rfl,rfl,hc,q⟩:=h;obtain⟨t,rfl⟩:=rx;obtain⟨t',rfl⟩:=ry;exact rule i j t t' s _ _ hc ⟨.int<|g i j,H,I.tok _,⟨_,rfl⟩,q⟩
theorem aOD{f:BH->BH->Sem BH}{g:Int->Int->Int}
  (rule:∀ (i j:Int) (t u:Tok) (s:BI) (Q:BH->BI->Prop) (E:BH->BI->Prop),Q (.int (g i j) s.toks) {s with toks:=s.toks+1}->AG (AF X.prog X.w) X.A (f (.int i t)<|.int j u) Q E s):
  OpR X f (rI0 λi j=>.int<|g i j):=by
 intro pins s σ H x y v u Q I rx ry h;obtain⟨i,j,rfl,rfl,q⟩:=h;obtain⟨t,rfl⟩:=rx;obtain⟨t',rfl⟩:=ry;exact rule i j t t' s _ _ ⟨.int<|g i j,H,I.tok _,⟨_,rfl⟩,q⟩
theorem aOK{f:BH->BH->Sem BH}{g:Int->Int->Bool}
  (rule:∀ (i j:Int) (t u:Tok) (s:BI) (Q:BH->BI->Prop) (E:BH->BI->Prop),Q (.bool<|g i j) s->AG (AF X.prog X.w) X.A (f (.int i t)<|.int j u) Q E s):
  OpR X f (rI0 λi j=>.bl<|g i j):=by
 intro pins s σ H x y v u Q I rx ry h;obtain⟨i,j,rfl,rfl,q⟩:=h;obtain⟨t,rfl⟩:=rx;obtain⟨t',rfl⟩:=ry;exact rule i j t t' s _ _ ⟨.bl<|g i j,H,I,rfl,q⟩
def CDiv(i j:Int):Prop:=0<j/\j<1073741824
theorem jD:OpR X (Am .Add) (rI0 λi j=>.int<|i+j):=aOD λ_ _ _ _ _ _ _ q=>add_int q
theorem aBy:OpR X (Am .Sub) (rI0 λi j=>.int<|i-j):=aOD λ_ _ _ _ _ _ _ q=>sub_int q
theorem aJi:OpR X (Am .FloorDiv) (rI CDiv λi j=>.int<|i / j):=opI λi j _ _ _ _ _ hc q=>by have h1:(0:Int)<j:=hc.1;have h2:j<1073741824:=hc.2;exact floordiv_int (by omega) (by rw[aAz i<|by omega];exact q)<|.inl (PyProof.noPylong_small<|by omega)
theorem eH:OpR X (Am .Mod) (rI (λ_ j=>0<j) λi j=>.int<|i%j):=opI λi j _ _ _ _ _ hc q=>by have h1:(0:Int)<j:=hc;exact mod_int' (by omega) (by rw[Int.fmod_eq_emod_of_nonneg i<|by omega];exact q)
noncomputable def aKw:V->V->Bool
 |.non,.non=>true | .non,.int _=>true | .int _,.non=>true | .non,.bl _=>true | .bl _,.non=>true | .non,.str _=>true | .str _,.non=>true
 |.int _,.int _=>true | .bl _,.bl _=>true | .str _,.str _=>true | .byt _,.byt _=>true
 |.int _,.str _=>true | .str _,.int _=>true | .bl _,.str _=>true | .str _,.bl _=>true
 |_,_=>false
noncomputable def rEq:R2:=λx y H Q=>aKw x y=true/\Q (.bl (decide<|x=y)) H
noncomputable def rNe:R2:=λx y H Q=>aKw x y=true/\Q (.bl<|!decide (x=y)) H
theorem sE{i j:Int}:decide (V.int i=V.int j)=(i==j):=by rw[eP];simp
theorem aDu{i j:Bool}:decide (V.bl i=V.bl j)=(i==j):=by rw[eP];simp
theorem aEg{i j:Str}:decide (V.str i=V.str j)=(i==j):=by rw[eP];simp
theorem aEs{i j:Array UInt8}:decide (V.byt i=V.byt j)=(i.toList==j.toList):=by rw[eP];cases i;cases j;simp
theorem eX{Q:VK}{k k':Bool}(I:Inv X pins σ H s)(q:Q (.bl k) H)(e:k=k'):EP X pins σ Q (.bool k') s:=by subst e;exact⟨.bl k,H,I,rfl,q⟩
theorem aFL:OpR X (Aa .Eq) rEq:=by
 intro pins s σ H x y v u Q I rx ry h;obtain⟨hs,q⟩:=h;cases x with
 |non=>
  cases rx;cases y with
  |non=>cases ry;exact PySem.EqNone.eq_none_none (eX I q<|by simp)
  |bl j=>cases ry;exact PySem.EqNone.eq_none_bool (eX I q<|by simp)
  |int j=>obtain⟨t',rfl⟩:=ry;exact PySem.EqNone.eq_none_int (eX I q<|by simp)
  |str j=>obtain⟨t',rfl⟩:=ry;exact PySem.EqNone.eq_none_str (eX I q<|by simp)
  |_=>exact absurd (show false=true from hs) bS
 |bl i=>
  cases rx;cases y with
  |non=>cases ry;exact PySem.EqNone.eq_bool_none (eX I q<|by simp)
  |bl j=>cases ry;exact eq_bool<|eX I q aDu
  |str j=>obtain⟨t',rfl⟩:=ry;exact PySem.EqMixed.eq_bool_str (eX I q<|by simp)
  |_=>exact absurd (show false=true from hs) bS
 |int i=>
  obtain⟨t,rfl⟩:=rx;cases y with
  |non=>cases ry;exact PySem.EqNone.eq_int_none (eX I q<|by simp)
  |int j=>obtain⟨t',rfl⟩:=ry;exact eq_int<|eX I q sE
  |str j=>obtain⟨t',rfl⟩:=ry;exact PySem.EqMixed.eq_int_str (eX I q<|by simp)
  |_=>exact absurd (show false=true from hs) bS
 |str i=>
  obtain⟨t,rfl⟩:=rx;cases y with
  |non=>cases ry;exact PySem.EqNone.eq_str_none (eX I q<|by simp)
  |bl j=>cases ry;exact PySem.EqMixed.eq_str_bool (eX I q<|by simp)
  |int j=>obtain⟨t',rfl⟩:=ry;exact PySem.EqMixed.eq_str_int (eX I q<|by simp)
  |str j=>obtain⟨t',rfl⟩:=ry;exact eq_str<|eX I q aEg
  |_=>exact absurd (show false=true from hs) bS
 |byt i=>
  obtain⟨t,rfl⟩:=rx;cases y with
  |byt j=>obtain⟨t',rfl⟩:=ry;exact PySem.W.eq_bytes<|eX I q aEs
  |_=>exact absurd (show false=true from hs) bS
 |_=>cases y<;>exact absurd (show false=true from hs) bS
theorem aOd:OpR X (Aa .NotEq) rNe:=by
 intro pins s σ H x y v u Q I rx ry h;obtain⟨hs,q⟩:=h;cases x with
 |non=>
  cases rx;cases y with
  |non=>cases ry;exact PySem.EqNone.ne_none_none (eX I q<|by simp)
  |bl j=>cases ry;exact PySem.EqNone.ne_none_bool (eX I q<|by simp)
  |int j=>obtain⟨t',rfl⟩:=ry;exact PySem.EqNone.ne_none_int (eX I q<|by simp)
  |str j=>obtain⟨t',rfl⟩:=ry;exact PySem.EqNone.ne_none_str (eX I q<|by simp)
  |_=>exact absurd (show false=true from hs) bS
 |bl i=>
  cases rx;cases y with
  |non=>cases ry;exact PySem.EqNone.ne_bool_none (eX I q<|by simp)
  |bl j=>cases ry;exact ne_bool (eX I q<|congrArg not aDu)
  |str j=>obtain⟨t',rfl⟩:=ry;exact PySem.EqMixed.ne_bool_str (eX I q<|by simp)
  |_=>exact absurd (show false=true from hs) bS
 |int i=>
  obtain⟨t,rfl⟩:=rx;cases y with
  |non=>cases ry;exact PySem.EqNone.ne_int_none (eX I q<|by simp)
  |int j=>obtain⟨t',rfl⟩:=ry;exact ne_int (eX I q<|congrArg not sE)
  |str j=>obtain⟨t',rfl⟩:=ry;exact PySem.EqMixed.ne_int_str (eX I q<|by simp)
  |_=>exact absurd (show false=true from hs) bS
 |str i=>
  obtain⟨t,rfl⟩:=rx;cases y with
  |non=>cases ry;exact PySem.EqNone.ne_str_none (eX I q<|by simp)
  |bl j=>cases ry;exact PySem.EqMixed.ne_str_bool (eX I q<|by simp)
  |int j=>obtain⟨t',rfl⟩:=ry;exact PySem.EqMixed.ne_str_int (eX I q<|by simp)
  |str j=>obtain⟨t',rfl⟩:=ry;exact ne_str (eX I q<|congrArg not aEg)
  |_=>exact absurd (show false=true from hs) bS
 |byt i=>
  obtain⟨t,rfl⟩:=rx;cases y with
  |byt j=>obtain⟨t',rfl⟩:=ry;exact PySem.W.ne_bytes (eX I q<|congrArg not aEs)
  |_=>exact absurd (show false=true from hs) bS
 |_=>cases y<;>exact absurd (show false=true from hs) bS
theorem aKS:OpR X (Aa .Lt) (rI0 λi j=>.bl (decide<|i<j)):=aOK λ_ _ _ _ _ _ _ q=>lt_int q
theorem aOf:OpR X (Aa .Gt) (rI0 λi j=>.bl (decide<|j<i)):=aOK λ_ _ _ _ _ _ _ q=>gt_int q
theorem aHL:OpR X (Aa .Is) (λx y H Q=>y=.non/\Q (.bl (decide<|x=.non)) H):=by
 intro pins s σ H x y v u Q I rx ry h;obtain⟨rfl,q⟩:=h;cases ry;refine is_none_gen<|eX I q ?_
 cases x<;>first
  |(cases rx;rfl)
  |(obtain⟨t,rfl⟩:=rx;rfl)
theorem aIV:OpR X (Aa .IsNot) (λx y H Q=>y=.non/\Q (.bl<|!decide (x=.non)) H):=by
 intro pins s σ H x y v u Q I rx ry h;obtain⟨rfl,q⟩:=h;cases ry;refine isnot_none_gen<|eX I q ?_
 cases x<;>first
  |(cases rx;rfl)
  |(obtain⟨t,rfl⟩:=rx;rfl)
theorem OpR.or{f:BH->BH->Sem BH}{r r':R2}(h:OpR X f r)(h':OpR X f r'):OpR X f (λx y H Q=>r x y H Q\/r' x y H Q):=by
 intro pins s σ H x y v u Q I rx ry q
 rcases q with q|q
 ·exact h pins s σ H x y v u Q I rx ry q
 ·exact h' pins s σ H x y v u Q I rx ry q
theorem kO(b:Expr){op:CmpOp}(h:op≠ .In:=by decide)(h2:op≠ .NotIn:=by decide):Ae op b=false:=by
 have e1:(op==CmpOp.In)=false:=by cases op<;>first|rfl|exact absurd rfl h
 have e2:(op==CmpOp.NotIn)=false:=by cases op<;>first|rfl|exact absurd rfl h2
 cases b<;>simp[Ae,e1,e2]
theorem aEi{op:CmpOp}{r:R2}(ho:OpR X (Aa op) r)(ha:PE X a ta)(hb:PE X b tb)(hm:Ae op b=false):PE X (.Compare a [op] [b] pos) (tOp r ta tb):=by intro pins s σ H Q I h;exact wpAny_Compare1 (aNd ha hb I h λv u s2 x y H2 I2 rx ry q=>ho pins s2 σ H2 x y v u Q I2 rx ry q) hm
noncomputable def aOa(t:TE):TT:=λσ H Q=>t σ H λx H'=>∃k,x=.bl k/\Q k H'
theorem aJd{op:CmpOp}{r:R2}(ho:OpR X (Aa op) r)(ha:PE X a ta)(hb:PE X b tb)(hm:Ae op b=false):PT X (.Compare a [op] [b] pos) (aOa<|tOp r ta tb):=by
 intro pins s σ H Q I h
 refine wpAny_isTrue_Compare1 (thn (ha pins s σ H _ I h) λv s1 ⟨x,H1,I1,r1,q1⟩=>thn (hb pins s1 σ H1 _ I1 q1) λu s2 ⟨y,H2,I2,r2,q2⟩=>thn (ho pins s2 σ H2 x y v u _ I2 r1 r2 q2) λc s3 ⟨z,H3,I3,r3,k,e,q3⟩=> ?_) hm
 subst e;cases r3;exact wpAny_truthy_bool ⟨H3,I3,q3⟩
theorem aBJ:(AN:Nat)<2^63:=by rw[AU];decide
theorem uM{x:V}{us:List BH}(r:Vals [x] us):∃u,us=[u]/\RelV x u:=by
 cases r with
 |cons r1 r2=>cases r2;exact⟨_,rfl,r1⟩
theorem aNW{x y:V}{us:List BH}(r:Vals [x,y] us):∃u w',us=[u,w']/\RelV x u/\RelV y w':=by
 cases r with
 |cons r1 r2=>
  cases r2 with
  |cons r3 r4=>cases r4;exact⟨_,_,rfl,r1,r3⟩
theorem aFj(hc:X.calm=true):pV X (.builtin "max") (λxs H Q=>∃i j,xs=[.int i,.int j]/\Q (.int (if j>i then j else i)) H):=by
 intro pins s σ H xs us Q I r h;obtain⟨i,j,rfl,q⟩:=h;obtain⟨u,w',rfl,⟨t,rfl⟩,⟨t',rfl⟩⟩:=aNW r;refine max_two_ints (I.ok.hd hc) λh' tk k=>⟨_,H,I.kept k, ?_,q⟩
 by_cases hj:j>i
 ·rw[if_pos hj,if_pos hj];exact⟨_,rfl⟩
 ·rw[if_neg hj,if_neg hj];exact⟨_,rfl⟩
structure ObjM(h:BL)(x dx C:BJ)(mA:Str->Option BH):Prop where
 obj:h.get? x=some (aHe C dx)
 ns:h.Ns1 dx mA
 ne:dx≠x
theorem RelO.some_of{v:V}{o:Option BH}(r:RelO (some v) o):∃u,o=some u/\RelV v u:=by
 cases o with
 |none=>exact(show False from r).elim
 |some u=>exact⟨u,rfl,r⟩
structure Cls(K:aB)(C:BJ):Prop where
 pg:PySem.W.plainGet K C Str.empty=true
 hd:PySem.W.hasDictIn K C=true
 po:PySem.W.plainOver K C=true
 sa:mR K (.ref C) "__setattr__"=some (some<|.builtin "object.__setattr__")
structure Con(K:aB)(C:BJ)(f:Str)(v:V)(u:BH):Prop where
 at_:mR K (.ref C) f=some (some u)
 rel:RelV v u
 get:aFy K u "__get__"=some none
 cp:PySem.W.copiedNames.contains f=false
structure Meth(K:aB)(C:BJ)(m:Str)(f:BJ):Prop where
 at_:mR K (.ref C) m=some (some<|.ref f)
 fn:aKv K (.ref f)=true
 kp:eJ K (.ref f)=true
variable {A:BK}{Q:BH->BI->Prop}{c:BH}{b:Bool}
inductive wB(K:aB)(H:Hp):V->BH->Prop where
 |non:wB K H .non (.type "NoneType")
 |bl (x:Bool):wB K H (.bl x) (.type "bool")
 |int (i:Int):wB K H (.int i) (.type "int")
 |str (x:Str):wB K H (.str x) (.type "str")
 |flt (x:UInt64):wB K H (.flt x) (.type "float")
 |lst {a:BJ}{xs:List V} (e:H a=some (.lst xs)):wB K H (.ref a) (.type "list")
 |frz {a:BJ}{o:BM}{xs:List V} (e:H a=some (.frz o<|.lst xs)):wB K H (.ref a) (.type "list")
 |tup {a:BJ}{xs:List V} (e:H a=some (.tup xs)):wB K H (.ref a) (.type "tuple")
 |dK {a:BJ}{kvs:List (Key×V)} (e:Rd H a (.dK kvs)):wB K H (.ref a) (.type "dict")
 |dT {a:BJ}{kvs:List (List Key×V)} (e:H a=some (.dT kvs)):wB K H (.ref a) (.type "dict")
 |ins {a C dx:BJ}{fs:List (Str×V)} (e:H a=some (.ins C dx fs)) (cl:Cls K C) (ha:mR K (.ref C) "__class__"=some (some<|.builtin "object.__class__"))
   (hn:aFy K (.builtin "object.__class__") "__get__"=some (some<|.builtin "getset_descriptor.__get__")) (htk:PySem.W.takesIn K (.builtin "object.__class__")=some true)
   (hm:PySem.W.mroIn K C (.type "object")=some true):wB K H (.ref a) (.ref C)
structure Room(k:Nat)(A:BK):Prop where
 hd:A.handled=none
 dp:A.depth+3*k+5<recursionLimit
 un:A.units+16*k+200<AR
 gd:A.guards=some []
theorem Room.mono{j k:Nat}(r:Room k A)(h:j<=k):Room j A:=⟨r.hd,by have:=r.dp;omega,by have:=r.un;omega,r.gd⟩
theorem Room.deeper{k:Nat}(r:Room (k+1) A)(env:Env):Room k (A.deeper env):=
 ⟨r.hd,by have:=r.dp;show A.depth+1+3*k+5<_;omega,by have:=r.un;show A.units+3+16*k+200<_;omega,r.gd⟩
theorem Room.depth{k:Nat}(r:Room k A):A.depth<recursionLimit:=by have:=r.dp;omega
noncomputable def aKl:TA:=λ_ H Q=>Q [] H
noncomputable def xI(ta:TE)(tr:TA):TA:=λσ H Q=>ta σ H λx H1=>tr σ H1 λxs H2=>Q (x::xs) H2
variable {es:List Expr}{t:TA}
theorem pa_nil:PA X [] aKl:=λ_ _ _ _ H Q I h=>Calls.spliced_nil ⟨[],H,I,.nil,h⟩
theorem lZ(ha:PE X e te)(hr:PA X es t)(hs:AD (e::es) X.env=(false,eval e X.env)::AD es X.env:=by rfl):PA X (e::es) (xI te t):=by intro pos pins s σ H Q I h;rw[hs];show AG _ _ (spliced ((false,eval e X.env)::Ak pos (AD es X.env))) _ _ s;refine Calls.spliced_cons<|thn (ha pins s σ H _ I h) λu s1 ⟨x,H1,I1,r1,q1⟩=> ?_;exact thn (hr pos pins s1 σ H1 _ I1 q1) λus s2 ⟨xs,H2,I2,r2,q2⟩=>⟨x::xs,H2,I2,.cons r1 r2,q2⟩
noncomputable def tTup(t:TA):TE:=λσ H Q=>t σ H λxs H1=>xs.length<=AN/\∀p,H1 p=none->Q (.ref p) (upd H1 p<|.tup xs)
noncomputable def tLst(t:TA):TE:=λσ H Q=>t σ H λxs H1=>xs.length<=AN/\∀p,H1 p=none->Q (.ref p) (upd H1 p<|.lst xs)
theorem aMm{x1}(h:PA X es t):PE X (.Tuple es x1 pos) (tTup t):=by intro pins s σ H Q I hq;refine wpAny_Tuple_spliced<|thn (h pos pins s σ H _ I hq) λus s1 ⟨xs,H1,I1,r,z,q⟩=>⟨by rw[<-r.length];exact z, ?_⟩;have hf:H1 s1.heap.objs.size=none:=I1.hok.fresh<|aG _;refine⟨.ref s1.heap.objs.size,upd H1 s1.heap.objs.size<|.tup xs,I1.laid (t':=s1.toks) (λb u e=>aE _ e) (aG _) ?_,rfl,q _ hf⟩;exact⟨z,us,r,IsTupD.new _ _⟩
theorem aLO(h:PA X es t):PE X (.List es pos) (tLst t):=by intro pins s σ H Q I hq;refine wpAny_List_spliced<|thn (h pos pins s σ H _ I hq) λus s1 ⟨xs,H1,I1,r,z,q⟩=>⟨by rw[<-r.length];exact z, ?_⟩;have hf:H1 s1.heap.objs.size=none:=I1.hok.fresh<|aG _;refine⟨.ref s1.heap.objs.size,upd H1 s1.heap.objs.size<|.lst xs,I1.laid (t':=s1.toks) (λb u e=>aE _ e) (aG _) ?_,rfl,q _ hf⟩;exact⟨z,us,0,r,bE _ rfl⟩
noncomputable abbrev Sp:=List V->Hp->VK->XK->Prop
noncomputable abbrev CXT:=List Env->Hp->BI->XK->BH->BI->Prop
structure aKD(P:AI)(w:AL)(K:aB)(mg:Str->Option BH)(base:BL)(A:BK)(outer:List Env)(s:BI)(H:Hp):Prop where
 frames:A.frames=some outer
 mod:Mod K mg base
 bs:∀b o,base.get? b=some o->s.heap.get? b=some o/\H b=none
 bsz:base.objs.size<=s.heap.objs.size
 funs:s.heap.FunFrames base outer
 frf:∀b∈frs outer,H b=none
 hok:HOk P w H s.heap
 bare:AllBare s.gens
def CE(outer:List Env)(P:AI)(w:AL)(H:Hp)(s:BI)(Q:VK)(u:BH)(s':BI):Prop:=
 ∃v H',s'.os=s.os/\AllBare s'.gens/\Un (frs outer) [] H H' s.heap s'.heap/\HOk P w H' s'.heap/\RelV v u/\Q v H'
def CR(CX:CXT)(outer:List Env)(P:AI)(w:AL)(H:Hp)(s:BI)(Q:VK)(E:XK)(r:Result)(s':BI):Prop:=
 match r with
 |.ok (.ret u)=>CE outer P w H s Q u s'
 |.ok _=>False
 |.error e=>CX outer H s E e s'
structure FnOk(P:AI)(w:AL)(K:aB)(mg:Str->Option BH)(base:BL)(CX:CXT)(k:Nat)(f:BJ)(fd:AV)(ps:List Str)(sp:Sp):Prop where
 len:∀vs H Q E,sp vs H Q E->vs.length=ps.length
 run:∀ (A:BK) (outer:List Env) (s:BI) (H:Hp) (args:Args) (us:List BH) (vs:List V) (Q:VK) (E:XK),Room k A->aKD P w K mg base A outer s H->BindsTo s fd args (ps.zip us)->Vals vs us->sp vs H Q E->
  codeAny (AF P w) A (.call (.ref f) args) (CR CX outer P w H s Q E) s
variable {s':BI}
theorem Inv.env0(I:Inv X pins σ H s):aKD X.prog X.w X.K X.mg X.base X.A X.stack s H:=
 ⟨I.ok.frames,I.ok.mod,I.bs,cP I.ok.bsz I.sz,I.stack,I.stkFree,I.hok,I.bare⟩
theorem Inv.after{Q:VK}{u:BH}(I:Inv X pins σ H s)(h:CE X.stack X.prog X.w H s Q u s'):EP X pins σ Q u s':=by obtain⟨v,H',os,bare,un,hok,r,q⟩:=h;obtain⟨hh,g,d,t,os'⟩:=s';obtain rfl:os'=s.os:=os;exact⟨v,H',I.call (h':=hh) (g':=g) (d':=d) (t':=t) (ch:=[]) un hok bare (λb z=>absurd z<|by simp),r,q⟩
noncomputable def aNz(sp:Sp)(dvs:List V)(E:XK)(t:TA):TE:=λσ H Q=>t σ H λvs H1=>sp (vs++dvs) H1 Q E
def Binds(K:aB)(fd:AV)(ps:List Str)(ds:List BH):Prop:=
 ∀ (s:BI) (us:List BH),K.In s.heap->(us++ds).length=ps.length->BindsTo s fd ⟨us,[]⟩ (ps.zip<|us++ds)
theorem Binds.all{K:aB}{fd:AV}{ps:List Str}(h:∀us:List BH,us.length=ps.length->bindArgs fd ⟨us,[]⟩=pure (ps.zip us)):Binds K fd ps []:=λs us _ hl=>by rw[eO] at hl ⊢;exact .of_eq<|h us hl
def aDj(CX:CXT)(X:Cx)(E:XK):Prop:=∀ (pins:List (BJ×BM)) (σ:St) (H:Hp) (s:BI) (e:BH) (s':BI),Inv X pins σ H s->CX X.stack H s E e s'->X.xe e s'
variable {CX:CXT}{k:Nat}{f C:BJ}{fd:AV}{ps:List Str}{sp:Sp}{dvs:List V}{ds:List BH}{E:XK}{x m:Str}{p apos:Pos}{o:Expr}
theorem aMi{Q:VK}{us:List BH}{vs:List V}(F:FnOk X.prog X.w X.K X.mg X.base CX k f fd ps sp)(hr:Room k X.A)(hb:Binds X.K fd ps ds)(hd:Vals dvs ds)(hx:aDj CX X E)
  (I:Inv X pins σ H s) (r:Vals vs us) (h:sp (vs++dvs) H Q E):AG (AF X.prog X.w) X.A (call (.ref f) us) (EP X pins σ Q) X.xe s:=by
 have r2:Vals (vs++dvs) (us++ds):=r.append hd;have hl:(us++ds).length=ps.length:=by rw[<-r2.length];exact F.len _ _ _ _ h
 refine wpAny_call<|BC (F.run X.A X.stack s H ⟨us,[]⟩ (us++ds) (vs++dvs) Q E hr I.env0 (hb s us I.kIn hl) r2 h) λr s' hq=> ?_;cases r with
 |error e=>exact hx pins σ H s e s' I hq
 |ok fl=>
  cases fl with
  |ret u=>exact I.after hq
  |next=>exact False.elim hq
  |brk=>exact False.elim hq
  |cont=>exact False.elim hq
theorem aJH(F:FnOk X.prog X.w X.K X.mg X.base CX k f fd ps sp)(hr:Room k X.A)(hg:Gl X x)(hm:X.mg x=some (.ref f))(hk:eJ X.K (.ref f)=true)(hb:Binds X.K fd ps ds)(hd:Vals dvs ds)(hx:aDj CX X E)
  (ha:PA X (e::es) t) (hdb:(x==("__debug__":Str))=false:=by decide) (he:AD (e::es) X.env=(false,eval e X.env)::AD es X.env:=by rfl) (hpl:(Ak pos<|AD es X.env).any (·.1)=false:=by rfl):
  PE X (.Call (.Name x p) (e::es) [] pos) (aNz sp dvs E t):=by
 intro pins s σ H Q I h;refine Ad<|aAG I hg hm ?_ hdb;refine aDa (h₀:=X.base) I.ok.mod.kin hk (thn (ha pos pins s σ H _ I h) λus s1 ⟨vs,H1,I1,r,q⟩=>⟨I1.kIn, ?_⟩) he hpl;exact aMi F hr hb hd hx I1 r q
structure Mk(K:aB)(C f:BJ):Prop where
 makes:PySem.W.makesIn K C=true
 init:mR K (.ref C) "__init__"=some (some<|.ref f)
 fn:aKv K (.ref f)=true
 kp:eJ K (.ref C)=true
section
variable {X:Cx}{CX:CXT}{k:Nat}{f C:BJ}{fd:AV}{ps ks:List Str}{sp:Sp}{E:XK}{x m:Str}{p pos apos kpos:Pos}{e o:Expr}{es:List Expr}{kws:List Keyword}{te ta:TE}{t tk:TA}{nm:Option Str}
structure aOV(K:aB)(fd:AV)(ps ks:List Str)(g:List BH->List BH->List BH)(gV:List V->List V->List V):Prop where
 to:∀ (s:BI) (us ws:List BH),K.In s.heap->(g us ws).length=ps.length->BindsTo s fd ⟨us,ks.zip ws⟩ (ps.zip<|g us ws)
 rel:∀ {vs:List V}{us:List BH}{zs:List V}{ws:List BH},Vals vs us->Vals zs ws->Vals (gV vs zs) (g us ws)
variable {g:List BH->List BH->List BH}{gV:List V->List V->List V}
end
structure nF(N P:List Str)(sc:Scope):Prop where
 kind:sc.kind=.function
 co:sc.isCoroutine=false
 gen:sc.isGenerator=false
 nd:N.Nodup
 pre:N.take P.length=P
 par:∀x∈P,sc.names.lookup x=some .local\/sc.names.lookup x=some .cell
 nofree:∀y∈sc.names,y.2≠ .free
theorem zZ{kindOf:Str->Option NameKind}{x:Str}:∀ {binds:List (Str×BH)}{m:Str->Option BH},(∀v,(x,v)∉binds)->bindL kindOf binds m x=m x
 |[],_,_=>rfl
 |(n,v)::r,m,h=>by
  unfold bindL;rw[zZ λw hw=>h w<|aO _ hw]
  split
  ·have:x≠n:=by rintro rfl;exact h v aK
   simp[this]
  ·rfl
theorem aAo{kindOf:Str->Option NameKind}{x:Str}:∀ {binds:List (Str×BH)}{m:Str->Option BH},(∀v,(x,v)∉binds)->bindC kindOf binds m x=m x
 |[],_,_=>rfl
 |(n,v)::r,m,h=>by
  unfold bindC;rw[aAo λw hw=>h w<|aO _ hw]
  split
  ·rfl
  ·have:x≠n:=by rintro rfl;exact h v aK
   simp[this]
theorem aAi{kindOf:Str->Option NameKind}{x:Str}{v:BH}:∀ {P:List Str}{vs:List BH}{i:Nat}{m:Str->Option BH},P.Nodup->P[i]? =some x->vs[i]? =some v->kindOf x=some .local->
  bindL kindOf (P.zip vs) m x=some v
 |[],_,_,_,_,h,_,_=>by simp at h
 |_::_,[],_,_,_,_,h,_=>by simp at h
 |p::P,w::vs,0,m,nd,h1,h2,hk=>by simp at h1 h2;subst h1;subst h2;show bindL kindOf ((p,w)::P.zip vs) m p=_;unfold bindL;rw[zZ λv hv=>(fB.mp nd).1 (yW hv).1,if_pos hk];simp
 |p::P,w::vs,i+1,m,nd,h1,h2,hk=>by show bindL kindOf ((p,w)::P.zip vs) m x=_;unfold bindL;exact aAi (i:=i) (fB.mp nd).2 (by simpa using h1) (by simpa using h2) hk
theorem aAn{kindOf:Str->Option NameKind}{x:Str}{v:BH}:∀ {P:List Str}{vs:List BH}{i:Nat}{m:Str->Option BH},P.Nodup->P[i]? =some x->vs[i]? =some v->kindOf x≠some .local->
  bindC kindOf (P.zip vs) m x=some v
 |[],_,_,_,_,h,_,_=>by simp at h
 |_::_,[],_,_,_,_,h,_=>by simp at h
 |p::P,w::vs,0,m,nd,h1,h2,hk=>by simp at h1 h2;subst h1;subst h2;show bindC kindOf ((p,w)::P.zip vs) m p=_;unfold bindC;rw[aAo λv hv=>(fB.mp nd).1 (yW hv).1,if_neg hk];simp
 |p::P,w::vs,i+1,m,nd,h1,h2,hk=>by show bindC kindOf ((p,w)::P.zip vs) m x=_;unfold bindC;exact aAn (i:=i) (fB.mp nd).2 (by simpa using h1) (by simpa using h2) hk
noncomputable def start(N:List Str)(vs:List V):St:=vs.map some++dM (N.length-vs.length) none
noncomputable def oM(CX:CXT)(P:AI)(w:AL)(K:aB)(mg:Str->Option BH)(base:BL)(N:List Str)(qual:Str)(scope:Scope)(f:BJ)(cd:BH)(A:BK)(outer:List Env)(s:BI)(H:Hp)(E:XK):Cx where
 prog:=P
 w:=w
 K:=K
 mg:=mg
 base:=base
 A:=A.deeper<|Aj qual scope s.heap.objs.size f cd
 N:=N
 s₀:=s
 H₀:=H
 env:=Aj qual scope s.heap.objs.size f cd
 outer:=outer
 stack:=Aj qual scope s.heap.objs.size f cd::outer
 ex:=[]
 calm:=true
 fn:=λ_=>true
 pn:=[]
 xe:=λe s'=>AG (AF P w) (A.deeper<|Aj qual scope s.heap.objs.size f cd) (leaving (Aj qual scope s.heap.objs.size f cd) e) (λ_ s''=>CX outer H s E e s'') (λe' s''=>CX outer H s E e' s'') s'
theorem aBW{sc:Scope}{n:Nat}(h:sc.names.lookup x=some .cell):∃c,(cellsFrom n sc.names []).lookup x=some c:=by have q:=aAC sc.names n []<|.inl h;exact Option.isSome_iff_exists.mp q
theorem aEJ{K:aB}{mg:Str->Option BH}{base:BL}{N:List Str}{qual:Str}{scope:Scope}{cd:BH}{outer:List Env}{s1:BI}{us:List BH}{vs:List V}
  (S:nF N ps scope) (hd:A.handled=none) (e0:aKD P w K mg base A outer s H) (hl:vs.length=ps.length) (r:Vals vs us)
  (x:InCallC s s.heap.objs.size (bindL (Aj qual scope s.heap.objs.size f cd).kindOf (ps.zip us) λ_=>none) (cellsFrom (s.heap.objs.size+1) scope.names []) (bindC (Aj qual scope s.heap.objs.size f cd).kindOf (ps.zip us) λ_=>none) s1):
  Inv (oM CX P w K mg base N qual scope f cd A outer s H E) [] (start N vs) H s1:=by
 have hpl:ps.length<=N.length:=by have:=congrArg yP S.pre;rw[cW] at this;omega
 obtain⟨h1,tk,rfl,hk⟩:=x.done;have noA:∀b:BJ,b∉(oM CX P w K mg base N qual scope f cd A outer s H E).ex:=λb z=>absurd (show b∈([]:List BJ) from z)<|by simp
 refine ⟨⟨e0.mod,S.kind,rfl,rfl,aG _,fun y z c h1 h2=> ?_,fun y hy=> ?_,fun y c _ h=> ?_,fun _=>hd,Around.frames_deeper e0.frames, .inr ⟨rfl,rfl⟩,fun b z=>absurd z (noA b),e0.bs,e0.bsz,fun b _ _=>noA b,fun b z=>absurd z (noA b),e0.funs,e0.frf⟩,
  rfl,e0.bare,Un.kept hk,⟨_,x.toInCall.ns,λi y v h1 h2 h3=> ?_⟩,λy c h=>⟨_,x.cell y c h⟩,e0.hok.fresh (aG _),λy c h=> ?_,λp hp=>absurd (show p∈([]:List (BJ×BM)) from hp) (by simp),e0.hok.kept hk, ?_⟩
 ·exact name_of_addr x.apart (PySem.mem_of_lookup h1)<|PySem.mem_of_lookup h2
 ·have hy:scope.names.lookup y=some .cell\/scope.names.lookup y=some .free:=hy
  rcases hy with hy|hy
  ·exact aBW hy
  ·exact absurd rfl (S.nofree _<|PySem.mem_of_lookup hy)
 ·exact cZ (x.above y c<|PySem.mem_of_lookup h)
 ·have hi:i<vs.length:=by
   unfold start at h2
   by_cases hi:i<vs.length
   ·exact hi
   ·rw[fI<|by simpa using hi] at h2;rw[List.getElem?_replicate] at h2
    split at h2<;>cases h2
  have ha:vs[i]? =some v:=by
   unfold start at h2;rw[fP (by simpa using hi),bL] at h2;cases e:vs[i]? with
   |none=>rw[e] at h2;cases h2
   |some a=>rw[e] at h2;cases h2;rfl
  obtain⟨u,hu,rv⟩:=r.get ha
  have hp:ps[i]? =some y:=by rw[<-S.pre,aBn<|by omega];exact h1
  have ndP:ps.Nodup:=by rw[<-S.pre];exact S.nd.sublist<|List.take_sublist _ _
  refine⟨u,rv, ?_⟩
  rcases S.par y (cU hp) with k|k
  ·exact .inl ⟨k,aAi ndP hp hu k⟩
  ·obtain⟨c,e⟩:=aBW (n:=s.heap.objs.size+1) k;refine .inr ⟨.inl k,c,e, ?_⟩;have q:=x.cell y c e;rw[aAn ndP hp hu<|by show scope.names.lookup y≠_;rw[k];decide] at q;exact q
 ·exact e0.hok.fresh<|cZ (x.above y c<|PySem.mem_of_lookup h)
 ·unfold start;show _=N.length;rw[bR,aA,qX];omega
theorem aLf{K:aB}{mg:Str->Option BH}{base:BL}{name qual:Str}{params:Arguments}{body:List BN}{scope:Scope}{dV kV doc pm cdv ct oc:BH}{an od:Option BJ}
  {osl:Array (Option BH)}{N ps:List Str}{sp:Sp} (lk:K.lookup f=some ⟨oc,od,.func<|eQ name qual params body scope dV kV doc pm an cdv ct,osl⟩) (hcd:iP K cdv qual=true) (S:nF N ps scope)
  (len:∀vs H Q E,sp vs H Q E->vs.length=ps.length)
  (hbody:∀ (A:BK) (outer:List Env) (s:BI) (H:Hp) (vs:List V) (Q:VK) (E:XK),Room k (A.deeper (Aj qual scope s.heap.objs.size f cdv))→sp vs H Q E→
   ∃t,PSs (oM CX P w K mg base N qual scope f cdv A outer s H E) body t/\t {nx:=λ_ H'=>Q .non H',rt:=Q} (start N vs) H):
  FnOk P w K mg base CX (k+1) f (eQ name qual params body scope dV kV doc pm an cdv ct) ps sp:=by
 refine⟨len,λA outer s H args us vs Q E hr e0 hb r hsp=> ?_⟩;have hl:=len _ _ _ _ hsp;have KX:K.In s.heap:=e0.mod.kin.keeps λb o e=>(e0.bs b o e).1
 have lim:s.heap.NoLimit:=e0.mod.nolimit.keeps λb o e=>(e0.bs b o e).1
 have hkind:∀y∈ps.zip us,scope.names.lookup y.1=some .local\/(scope.names.lookup y.1=some .cell/\((cellsFrom (s.heap.objs.size+1) scope.names []).lookup y.1).isSome=true):=λ⟨n,v⟩ hy=>by
  rcases S.par n (yW hy).1 with q|q
  ·exact .inl q
  ·exact .inr ⟨q,aAC _ _ _<|.inl q⟩
 refine codeAny_call_function hr.depth (KX _ _ lk) rfl S.co S.gen rfl (PySem.W.codeRec_of KX hcd)<|hb _ _ _ _ ?_;refine wpAny_newFunctionEnv_cells S.kind hkind λenv he s1 x=> ?_
 subst he;refine⟨lim.keeps x.toInCall.keep,codeAny_func ?_⟩;obtain⟨t,ht,hq⟩:=hbody A outer s H vs Q E (hr.deeper _) hsp;have I:Inv (oM CX P w K mg base N qual scope f cdv A outer s H E) [] (start N vs) H s1:=aEJ S hr.hd e0 hl r x;refine AW (ht [] s1 (start N vs) H _ I hq) (λfl s' hs=> ?_) λe s' hs=>hs
 have fin:∀ {σ':St}{H':Hp}{v:V}{u:BH},Inv (oM CX P w K mg base N qual scope f cdv A outer s H E) [] σ' H' s'->RelV v u->Q v H'->CE outer P w H s Q u s':=
  λ{σ' H' v u} J rv q=>⟨v,H',J.os,J.bare,J.base,J.hok,rv,q⟩
 cases fl with
 |ret u=>obtain⟨v,σ',H',J,rv,q⟩:=hs;exact fin J rv q
 |next=>obtain⟨σ',H',J,q⟩:=hs;exact fin (v:=V.non) (u:=Value.none) J rfl q
 |brk=>obtain⟨_,_,_,q⟩:=hs;exact False.elim q
 |cont=>obtain⟨_,_,_,q⟩:=hs;exact False.elim q
section
variable {X:Cx}{x:Str}{p pos:Pos}{e:Expr}{es:List Expr}{t:TA}{id T:String}{r:List V->Hp->VK->Prop}
noncomputable def tCB(r:List V->Hp->VK->Prop)(t:TA):TE:=λσ H Q=>t σ H λvs H1=>r vs H1 Q
theorem aGB(hc:pV X (.builtin id) r)(hg:Gl X x)(hm:X.mg x=none)(hv:Ax x=some (.builtin id))(ha:PA X (e::es) t)(hn:x≠"__name__":=by decide)(hdb:(x==("__debug__":Str))=false:=by decide)
  (he:AD (e::es) X.env=(false,eval e X.env)::AD es X.env:=by rfl) (hpl:(Ak pos<|AD es X.env).any (·.1)=false:=by rfl):PE X (.Call (.Name x p) (e::es) [] pos) (tCB r t):=by
 intro pins s σ H Q I h;refine Ad<|qG I hg hm hv ?_ hn hdb;exact PyProof.Rows.callWith_builtin1 (thn (ha pos pins s σ H _ I h) λus s1 ⟨vs,H1,I1,r1,q1⟩=>hc pins s1 σ H1 vs us Q I1 r1 q1) he hpl
theorem zX(hc:pV X (.type T) r)(hg:Gl X x)(hm:X.mg x=none)(hv:Ax x=some (.type T))(ha:PA X (e::es) t)(hn:x≠"__name__":=by decide)(hdb:(x==("__debug__":Str))=false:=by decide)
  (he:AD (e::es) X.env=(false,eval e X.env)::AD es X.env:=by rfl) (hpl:(Ak pos<|AD es X.env).any (·.1)=false:=by rfl):PE X (.Call (.Name x p) (e::es) [] pos) (tCB r t):=by
 intro pins s σ H Q I h;refine Ad<|qG I hg hm hv ?_ hn hdb;exact PyProof.Rows.callWith_type1 (thn (ha pos pins s σ H _ I h) λus s1 ⟨vs,H1,I1,r1,q1⟩=>hc pins s1 σ H1 vs us Q I1 r1 q1) he hpl
end
end L2
namespace HT
open PySem PyProof.Rows
noncomputable def lexLt:List Int->List Int->Bool
 |[],[]=>false
 |[],_::_=>true
 |_::_,[]=>false
 |x::xs,y::ys=>if x=y then lexLt xs ys else decide (x<y)
section
open PySem.SeqAt
open PySem.AutoSeq1 (wpAny_loadPart')
open PySem.MeetsSeq PySem.MeetsSeq2 PySem.MeetsSeq3
end
variable {prog:AI}{w:AL}{A:BK}{E:BH->BI->Prop}{s:BI}
theorem cat_tup{t b:BJ}{vs ws:List BH}{Q:BH->BI->Prop}(ht:IsTup s.heap t vs.toArray)(hb:IsTup s.heap b ws.toArray)(hv:vs≠[])
  (h1:ws=[]->Q (.ref t) s) (h2:ws≠[]->Q (.ref s.heap.objs.size) {s with heap:=s.heap.push {cls:=.type "tuple",data:=.seq (vs++ws).toArray}})
  (hsz:vs.length+ws.length<=AN):AG (AF prog w) A (Am .Add (.ref t)<|.ref b) Q E s:=by
 obtain⟨⟨cls,dd,data,sl⟩,ho,hc,n,hd⟩:=id ht;obtain⟨⟨cls2,dd2,data2,sl2⟩,ho2,hc2,n2,hd2⟩:=id hb;simp only at hc hd hc2 hd2;subst hc hd hc2 hd2;have e:vs.toArray++ws.toArray=(vs++ws).toArray:=by simp
 by_cases hw:ws=[]
 ·exact concat_meets ⟨_,ho,rfl⟩ ⟨_,ho2,rfl⟩ noFill_tuple_add seq_tuple_add oX oE (nT _ _)
   (tuple_addW1 t b vs.toArray ws.toArray n n2 dd dd2 sl sl2 (by simpa using hv)<|by simp[hw]) ⟨ho,ho2,h1 hw⟩
 ·refine concat_meets ⟨_,ho,rfl⟩ ⟨_,ho2,rfl⟩ noFill_tuple_add seq_tuple_add oX oE (nT _ _)
   (tuple_addW2 t b vs.toArray ws.toArray n n2 dd dd2 sl sl2 (by simpa using hv) (by simpa using hw)<|by rw[aQ,aQ];exact hsz) ⟨ho,ho2, ?_⟩
  rw[e];exact h2 hw
noncomputable def sIx(n d:Nat):Option Int->Nat
 |none=>d
 |some v=>if v<0 then(v+(n:Int)).toNat else min v.toNat n
theorem sIx_none(n d:Nat):sIx n d none=d:=rfl
theorem sIx_nat(n d k:Nat):sIx n d (some (k:Int))=min k n:=by show(if(k:Int)<0 then((k:Int)+(n:Int)).toNat else min (k:Int).toNat n)=min k n;rw[if_neg<|by omega,dG]
end HT
namespace L2
open PySem PySem.Spec PyProof.Rows
noncomputable abbrev TO:=St->Hp->(Option Int->Hp->Prop)->Prop
def PO(X:Cx)(e:Option Expr)(t:TO):Prop:=
 ∀ (pins:List (BJ×BM)) (s:BI) (σ:St) (H:Hp) (Q:Option Int->Hp->Prop),Inv X pins σ H s->t σ H Q->
  AG (AF X.prog X.w) X.A (evalPart e X.env) (λu s'=>∃o H',Inv X pins σ H' s'/\IsPart u o/\Q o H') X.xe s
noncomputable def aJT:TO:=λ_ H Q=>Q none H
noncomputable def aNM(t:TE):TO:=λσ H Q=>t σ H λx H1=>∃i,x=.int i/\Q (some i) H1
variable {X:Cx}{e:Expr}{te:TE}{lo hi:Option Expr}{tl th:TO}{pos p2:Pos}
theorem aJE:PO X none aJT:=by intro pins s σ H Q I h;rw[evalPart_none];exact AB ⟨none,H,I,.none,h⟩
theorem aIQ(h:PE X e te):PO X (some e) (aNM te):=by
 intro pins s σ H Q I hw;rw[evalPart_some];refine thn (h pins s σ H _ I hw) λu s1 ⟨x,H1,I1,r1,q1⟩=> ?_
 obtain⟨i,rfl,q⟩:=q1;obtain⟨t,rfl⟩:=r1;exact⟨some i,H1,I1,.int i t,q⟩
def SlR(X:Cx)(r:V->Option Int->Option Int->Hp->VK->Prop):Prop:=
 ∀ (pins:List (BJ×BM)) (s:BI) (σ:St) (H:Hp) (x:V) (v vl vu:BH) (lo hi:Option Int) (sl:BJ) (Q:VK),Inv X pins σ H s->RelV x v->s.heap.IsSliceOf sl vl vu .none->IsPart vl lo->IsPart vu hi->r x lo hi H Q->
  ∃T id,typeLookup (.type T) "__getitem__"=pure (some<|.builtin id)/\s.TypeIs v T/\AG (AF X.prog X.w) X.A (getItem v<|.ref sl) (EP X pins σ Q) X.xe s
noncomputable def tSl(r:V->Option Int->Option Int->Hp->VK->Prop)(te:TE)(tl th:TO):TE:=λσ H Q=>te σ H λx H1=>tl σ H1 λl H2=>th σ H2 λu H3=>r x l u H3 Q
theorem aBS{r:V->Option Int->Option Int->Hp->VK->Prop}(hr:SlR X r)(he:PE X e te)(hl:PO X lo tl)(hu:PO X hi th):PE X (.Subscript e (.Slice lo hi none p2) pos) (tSl r te tl th):=by
 intro pins s σ H Q I h;refine Subscript_<|thn (he pins s σ H _ I h) λv s1 ⟨x,H1,I1,r1,q1⟩=> ?_;refine wpAny_Slice<|thn (hl pins s1 σ H1 _ I1 q1) λvl s2 ⟨l,H2,I2,pl,q2⟩=>thn (hu pins s2 σ H2 _ I2 q2) λvu s3 ⟨u,H3,I3,pu,q3⟩=> ?_;rw[evalPart_none];refine AB ?_;have I4:Inv X pins σ H3 {s3 with heap:=s3.heap.push {cls:=.type "slice",data:=.fields #[vl,vu,.none]}}:=I3.kept (t':=s3.toks) λb ob q=>aE _ q
 obtain⟨T,id,hT,ht,hg⟩:=hr pins {s3 with heap:=s3.heap.push {cls:=.type "slice",data:=.fields #[vl,vu,.none]}} σ H3 x v vl vu l u s3.heap.objs.size Q I4 r1 (Heap.IsSliceOf.new ..) pl pu q3;show AG (AF X.prog X.w) X.A (subscriptTail e (.Slice lo hi none p2) v<|.ref s3.heap.objs.size) (EP X pins σ Q) X.xe {s3 with heap:=s3.heap.push {cls:=.type "slice",data:=.fields #[vl,vu,.none]}};exact tail_any (ops:=[.ref s3.heap.objs.size,v]) ht hT hg (by with_unfolding_all rfl)
noncomputable def aHk(xs:List V)(lo hi:Option Int):List V:=(xs.drop<|HT.sIx xs.length 0 lo).take<|HT.sIx xs.length xs.length hi-HT.sIx xs.length 0 lo
theorem aBe(xs:List V)(lo hi:Option Int):(aHk xs lo hi).length<=xs.length:=by unfold aHk;rw[cW,pB];omega
noncomputable def aNF(K:aB):R2:=λx y H Q=>∃a b xs ys,x=.ref a/\y=.ref b/\SqT K H a xs/\SqT K H b ys/\xs≠[]/\xs.length+ys.length<=AN/\
 (ys=[]->Q (.ref a) H)/\(ys≠[]->∀p,H p=none->Q (.ref p) (upd H p (.tup<|xs++ys)))
theorem Vals.nil_iff{xs:List V}{us:List BH}(r:Vals xs us):us=[]↔xs=[]:=by
 cases r with
 |nil=>simp
 |cons _ _=>simp
theorem aIW:OpR X (Am .Add) (aNF X.K):=by intro pins s σ H x y v u Q I rx ry h;obtain⟨a,b,xs,ys,rfl,rfl,ha,hb,hx,hz,q1,q2⟩:=h;cases rx;cases ry;obtain⟨its,r1,p1,_⟩:=I.tuple ha;obtain⟨its2,r2,p2,_⟩:=I.tuple hb;refine HT.cat_tup p1 p2 (λz=>hx<|r1.nil_iff.mp z) (λz=>⟨.ref a,H,I,rfl,q1<|r2.nil_iff.mp z⟩) (λz=> ?_) (by rw[<-r1.length,<-r2.length];exact hz);refine⟨.ref s.heap.objs.size,_,I.laid (t':=s.toks) (o:=.tup<|xs++ys) (λb ob q=>aE _ q) (aG _) ?_,rfl,q2 (λw=>z<|r2.nil_iff.mpr w) _ (I.hok.fresh<|aG _)⟩;exact⟨by rw[bR];exact hz,_,r1.append r2,IsTupD.new _ _⟩
noncomputable def ixN(n:Nat)(i:Int):Option Nat:=if 0<=i then(if i<n then some i.toNat else none) else if -(n:Int)<=i then some (i+n).toNat else none
noncomputable def atI{α:Type}(xs:List α)(i:Int):Option α:=(ixN xs.length i).bind λj=>xs[j]?
theorem aDX{n:Nat}{i:Int}{j:Nat}(h:ixN n i=some j):seqIndex? i n=some j/\j<n/\ -(n:Int)<=i/\i<n:=by
 unfold ixN at h
 by_cases h0:0<=i
 ·rw[if_pos h0] at h
  by_cases h1:i<n
  ·rw[if_pos h1] at h;have e:i.toNat=j:=bT.inj h;exact⟨by rw[seqIndex_of h0 h1,e],by omega,by omega,h1⟩
  ·rw[if_neg h1] at h;cases h
 ·rw[if_neg h0] at h
  by_cases h1: -(n:Int)<=i
  ·rw[if_pos h1] at h;have e:(i+n).toNat=j:=bT.inj h;exact⟨by rw[seqIndex_neg (by omega) h1,e],by omega,h1,by omega⟩
  ·rw[if_neg h1] at h;cases h
theorem aEu{α:Type}{xs:List α}{i:Int}{v:α}(h:atI xs i=some v):∃j,seqIndex? i xs.length=some j/\xs[j]? =some v/\j<xs.length/\ -(xs.length:Int)<=i/\i<xs.length:=by
 unfold atI at h;cases e:ixN xs.length i with
 |none=>rw[e] at h;cases h
 |some j=>rw[e] at h;obtain⟨h1,h2,h3,h4⟩:=aDX e;exact⟨j,h1,h,h2,h3,h4⟩
theorem aAN{α:Type}{xs:List α}{j:Nat}{v:α}(h:xs[j]? =some v):atI xs (j:Int)=some v:=by
 have hj:j<xs.length:=(aZ.mp h).1
 have e:ixN xs.length (j:Int)=some j:=by unfold ixN;rw[if_pos<|by omega,if_pos<|by omega];simp
 unfold atI;rw[e];exact h
def qN(b:Expr):Prop:=∀o i,subscripted b false o i=operate [o,i] (getItem o i)
def IxR(X:Cx)(r:R2):Prop:=
 ∀ (value slice:Expr) (pins:List (BJ×BM)) (s:BI) (σ:St) (H:Hp) (x y:V) (v u:BH) (Q:VK),Inv X pins σ H s->RelV x v->RelV y u->r x y H Q->
  subscripted slice false v u=operate [v,u] (getItem v u)->AG (AF X.prog X.w) X.A (subscriptTail value slice v u) (EP X pins σ Q) X.xe s
def MtR(X:Cx)(id:String)(r:V->List V->Hp->VK->Prop):Prop:=
 ∀ (pins:List (BJ×BM)) (s:BI) (σ:St) (H:Hp) (x:V) (xs:List V) (v:BH) (us:List BH) (Q:VK),Inv X pins σ H s->RelV x v->Vals xs us->r x xs H Q->
  AG (AF X.prog X.w) X.A (call (.builtin id) (v::us)) (EP X pins σ Q) X.xe s
section
variable {X:Cx}{a b:Expr}{ta tb:TE}{pos:Pos}
theorem aII{r:R2}(hr:IxR X r)(ha:PE X a ta)(hb:PE X b tb)(hs:qN b):PE X (.Subscript a b pos) (tOp r ta tb):=by intro pins s σ H Q I h;exact Subscript_ (aNd ha hb I h λv u s2 x y H2 I2 rx ry q=>hr a b pins s2 σ H2 x y v u Q I2 rx ry q<|hs _ _)
noncomputable def rIxL(K:aB):R2:=λx y H Q=>∃p xs i v,x=.ref p/\y=.int i/\SqL K H p xs/\atI xs i=some v/\Q v H
noncomputable def rIxT(K:aB):R2:=λx y H Q=>∃p xs i v,x=.ref p/\y=.int i/\SqT K H p xs/\atI xs i=some v/\Q v H
theorem aEo:IxR X (rIxL X.K):=by
 intro value slice pins s σ H x y v u Q I rx ry h hs;obtain⟨p,xs,i,z,rfl,rfl,hq,he,q⟩:=h;cases rx;obtain⟨t,rfl⟩:=ry;obtain⟨its,r,pl,hz⟩:=I.list hq;obtain⟨j,h1,h2,h3,h4,h5⟩:=aEu he;obtain⟨w,ew,rw'⟩:=r.get h2;have hl:=r.length;have hn:=aBJ;have fin:EP X pins σ Q w s:=⟨z,H,I,rw',q⟩
 by_cases h0:0<=i
 ·have hj:i.toNat=j:=by rw[seqIndex_of h0 h5] at h1;exact bT.inj h1
  exact item_listR pl.isList h0 (by omega) (by rw[hj];simpa using ew) fin hs
 ·have hj:(i+(its.toArray.size:Int)).toNat=j:=by rw[seqIndex_neg (by omega) h4] at h1;rw[aQ,<-hl];exact bT.inj h1
  exact subscriptTail_builtinR (x:=w) pl.isList.typeIs slot_list_getitem.lookup
   (wpAny_getItem_list_neg (Q:=λr s'=>r=w/\EP X pins σ Q r s') pl.isList (by omega) (by rw[aQ]<;>omega) (by omega) (by rw[hj];simpa using ew) ⟨rfl,fin⟩) hs
theorem aLw:IxR X (rIxT X.K):=by
 intro value slice pins s σ H x y v u Q I rx ry h hs;obtain⟨p,xs,i,z,rfl,rfl,hq,he,q⟩:=h;cases rx;obtain⟨t,rfl⟩:=ry;obtain⟨its,r,pl,hz⟩:=I.tuple hq;obtain⟨j,h1,h2,h3,h4,h5⟩:=aEu he;obtain⟨w,ew,rw'⟩:=r.get h2;have hl:=r.length;have hn:=aBJ;have fin:EP X pins σ Q w s:=⟨z,H,I,rw',q⟩
 exact subscriptTail_builtinR (x:=w) pl.typeIs slot_tuple_getitem.lookup
  (getItem_tuple (j:=j) (Q:=λr s'=>r=w/\EP X pins σ Q r s') pl (by omega) (by omega) (by rw[aQ,<-hl];exact h1) (by simpa using ew) ⟨rfl,fin⟩) hs
theorem aCG(its:List BH)(n j:Nat)(u:BH):Obj.mapSeq (·.setIfInBounds j u) {cls:=.type "list",data:=.seq its.toArray n}={cls:=.type "list",data:=.seq (its.set j u).toArray n}:=by simp[Obj.mapSeq]
theorem Inv.lst{pins:List (BJ×BM)}{σ:St}{H:Hp}{s:BI}{p:BJ}{xs:List V}(I:Inv X pins σ H s)(h:H p=some (.lst xs)):
  ∃ (its:List BH) (n:Nat),Vals xs its/\s.heap.get? p=some {cls:=.type "list",data:=.seq its.toArray n}/\xs.length<=AN:=by
 obtain⟨z,its,n,r,e⟩:=I.hok p _ h;exact⟨its,n,r,e,z⟩
theorem Inv.lstUpd{pins:List (BJ×BM)}{σ:St}{H:Hp}{s:BI}{p:BJ}{xs ys:List V}{its its':List BH}{n n':Nat}{f:BM->BM}(I:Inv X pins σ H s)(h:H p=some (.lst xs))
  (ho:s.heap.get? p=some {cls:=.type "list",data:=.seq its.toArray n}) (hf:f {cls:=.type "list",data:=.seq its.toArray n}={cls:=.type "list",data:=.seq its'.toArray n'}) (r:Vals ys its') (hz:ys.length<=AN) (t:Nat):
  Inv X pins σ (upd H p<|.lst ys) {s with heap:=s.heap.update p f,toks:=t}:=by
 have e:(s.heap.update p f).get? p=some {cls:=.type "list",data:=.seq its'.toArray n'}:=by rw[cY f ho (by rw[hf]<;>rfl),hf]
 refine I.write (x:=p) (e:=p) (by rw[h];trivial) (.inl rfl) (λb u hb q=>(eV _ _<|Ne.symm hb).trans q) ⟨_,e⟩ ?_;exact⟨hz,its',n',r,e⟩
def aNC:V->V->V->Hp->(Hp->Prop)->Prop:=λo i v H Q=>∃p xs k j,o=.ref p/\i=.int k/\H p=some (.lst xs)/\ixN xs.length k=some j/\Q (upd H p (.lst<|xs.set j v))
theorem aGm:aOC X aNC:=by
 intro pins s σ H o i v ov iv u Q I ro ri rv h;obtain⟨p,xs,k,j,rfl,rfl,hp,hj,q⟩:=h;cases ro;obtain⟨t,rfl⟩:=ri;obtain⟨its,n,r,ho,hz⟩:=I.lst hp;obtain⟨h1,h2,h3,h4⟩:=aDX hj;have hl:=r.length;have hn:=aBJ
 have I':Inv X pins σ (upd H p (.lst<|xs.set j v)) {s with heap:=s.heap.update p (Obj.mapSeq (·.setIfInBounds j u))}:=
  I.lstUpd hp ho (aCG its n j u) (r.set rv j) (by rw[gU];exact hz) s.toks
 by_cases h0:0<=k
 ·have hk:k.toNat=j:=by rw[seqIndex_of h0 h4] at h1;exact bT.inj h1
  exact PySem.W.ki_setAt ho h0 (by omega) (by rw[aQ,<-hl];exact h4) (by rw[hk];exact⟨_,I',q⟩)
 ·have hk:(k+(its.toArray.size:Int)).toNat=j:=by rw[seqIndex_neg (by omega) h3] at h1;rw[aQ,<-hl];exact bT.inj h1
  exact PySem.W.ki_setBack ho (by omega) (by rw[aQ,<-hl];exact h3) (by omega) (by rw[hk];exact⟨_,I',q⟩)
theorem aAv(lo hi:Option Int)(n:Nat):(sliceBounds lo hi none n).1=((HT.sIx n 0 lo:Nat):Int)/\(sliceBounds lo hi none n).2.1=((HT.sIx n n hi:Nat):Int)/\(sliceBounds lo hi none n).2.2=1:=by
 refine⟨?_, ?_,rfl⟩
 ·cases lo with
  |none=>simp[sliceBounds,HT.sIx]
  |some i=>
   simp only[sliceBounds,HT.sIx,aHb,show(1:Int)>0 by decide,if_true]
   by_cases h:i<0
   ·simp only[h,if_true]<;>omega
   ·simp only[h,if_false]<;>omega
 ·cases hi with
  |none=>simp[sliceBounds,HT.sIx]
  |some i=>
   simp only[sliceBounds,HT.sIx,aHb,show(1:Int)>0 by decide,if_true]
   by_cases h:i<0
   ·simp only[h,if_true]<;>omega
   ·simp only[h,if_false]<;>omega
theorem zH(its:List BH)(lo hi:Option Int):slicePick its.toArray lo hi none=((its.drop<|HT.sIx its.length 0 lo).take<|HT.sIx its.length its.length hi-HT.sIx its.length 0 lo).toArray:=by obtain⟨h1,h2,h3⟩:=aAv lo hi its.toArray.size;unfold slicePick;rw[h1,h2,h3];simp only[sliceRange_one,pick_run,aQ]<;>rfl
def rSlL(K:aB):V->Option Int->Option Int->Hp->VK->Prop:=λx lo hi H Q=>∃a xs,x=.ref a/\SqL K H a xs/\∀p,H p=none->Q (.ref p) (upd H p (.lst<|aHk xs lo hi))
theorem aEj:SlR X (rSlL X.K):=by intro pins s σ H x v vl vu lo hi sl Q I rx hs pl pu h;obtain⟨a,xs,rfl,hx,q⟩:=h;cases rx;obtain⟨its,r,ht,hz⟩:=I.list hx;have hlen:=r.length;refine⟨"list",_,slot_list_getitem.lookup,ht.isList.typeIs, ?_⟩;refine wpAny_getItem_list_slice ht.isList hs pl pu .none (by simp) ?_ (by rw[aQ]<;>omega);rw[zH,<-hlen];refine⟨.ref s.heap.objs.size,_,I.laid (t':=s.toks) (o:=.lst<|aHk xs lo hi) (λb ob q=>aE _ q) (aG _) ?_,rfl,q _ (I.hok.fresh<|aG _)⟩;exact⟨cP (aBe xs lo hi) hz,_,0,(r.drop<|HT.sIx xs.length 0 lo).take<|HT.sIx xs.length xs.length hi-HT.sIx xs.length 0 lo,bE _ rfl⟩
noncomputable def pZ:V->Bool
 |.non=>true
 |.bl _=>true
 |.int _=>true
 |.str _=>true
 |_=>false
noncomputable def eqV:V->V->Bool
 |.non,.non=>true
 |.bl a,.bl b=>a==b
 |.bl a,.int b=>(if a then 1 else 0)==b
 |.int a,.bl b=>a==(if b then 1 else 0)
 |.int a,.int b=>a==b
 |.str a,.str b=>a==b
 |_,_=>false
theorem tW{A:BK}{s:BI}{y x:V}{u v:BH}(ry:RelV y u)(rx:RelV x v)(fy:pZ y=true)(fx:pZ x=true):SeqAt.EqAt A s u v (eqV y x):=by
 cases y with
 |non=>
  cases ry;cases x with
  |non=>cases rx;exact SeqAt.EqAt.same _
  |bl b=>cases rx;exact SeqAt.EqAt.none_bool b
  |int b=>obtain⟨t,rfl⟩:=rx;exact SeqAt.EqAt.none_int b t
  |str b=>obtain⟨t,rfl⟩:=rx;exact SeqAt.EqAt.none_str b t
  |_=>exact absurd (show false=true from fx) bS
 |bl a=>
  cases ry;cases x with
  |non=>cases rx;exact SeqAt.EqAt.bool_none a
  |bl b=>cases rx;exact SeqAt.EqAt.bool_bool a b
  |int b=>obtain⟨t,rfl⟩:=rx;exact SeqAt.EqAt.bool_int a b t
  |str b=>obtain⟨t,rfl⟩:=rx;exact SeqAt.EqAt.bool_str a b t
  |_=>exact absurd (show false=true from fx) bS
 |int a=>
  obtain⟨t',rfl⟩:=ry;cases x with
  |non=>cases rx;exact SeqAt.EqAt.int_none a t'
  |bl b=>cases rx;exact SeqAt.EqAt.int_bool a t' b
  |int b=>obtain⟨t,rfl⟩:=rx;exact SeqAt.EqAt.int_int a t' b t
  |str b=>obtain⟨t,rfl⟩:=rx;exact SeqAt.EqAt.int_str a t' b t
  |_=>exact absurd (show false=true from fx) bS
 |str a=>
  obtain⟨t',rfl⟩:=ry;cases x with
  |non=>cases rx;exact SeqAt.EqAt.str_none a t'
  |bl b=>cases rx;exact SeqAt.EqAt.str_bool a t' b
  |int b=>obtain⟨t,rfl⟩:=rx;exact SeqAt.EqAt.str_int a t' b t
  |str b=>obtain⟨t,rfl⟩:=rx;exact SeqAt.EqAt.str_str a t' b t
  |_=>exact absurd (show false=true from fx) bS
 |_=>exact absurd (show false=true from fy) bS
noncomputable def eqU(x:V)(u:BH):Bool:=match u with
 |.none=>eqV .non x
 |.bool b=>eqV (.bl b) x
 |.int i _=>eqV (.int i) x
 |.str z _=>eqV (.str z) x
 |_=>false
theorem aHW{x y:V}{u:BH}(r:RelV y u)(f:pZ y=true):eqU x u=eqV y x:=by
 cases y with
 |non=>cases r;rfl
 |bl b=>cases r;rfl
 |int i=>obtain⟨t,rfl⟩:=r;rfl
 |str z=>obtain⟨t,rfl⟩:=r;rfl
 |_=>exact absurd (show false=true from f) bS
theorem aAK{x:V}:∀ {xs:List V}{us:List BH},Vals xs us->xs.all pZ=true->us.any (eqU x)=xs.any λy=>eqV y x
 |_,_,.nil,_=>rfl
 |y::xs,u::us,.cons r t,f=>by rw[aMU,bH] at f;rw[lQ,lQ,aHW r f.1,aAK t f.2]
theorem wC{A:BK}{s:BI}{x:V}{v:BH}(rx:RelV x v)(fx:pZ x=true):∀ {xs:List V}{us:List BH},Vals xs us->xs.all pZ=true->∀u∈us,SeqAt.EqAt A s u v (eqU x u)
 |_,_,.nil,_=>λu hu=>by cases hu
 |y::xs,u::us,.cons r t,f=>λu' hu=>by
  rw[aMU,bH] at f
  rcases aV.mp hu with rfl|hu
  ·rw[aHW r f.1];exact tW r rx f.1 fx
  ·exact wC rx fx t f.2 u' hu
noncomputable def inV(x:V)(xs:List V):Bool:=xs.any λy=>eqV y x
noncomputable def rIn(K:aB)(neg:Bool):R2:=λx y H Q=>∃p xs,y=.ref p/\(SqL K H p xs\/SqT K H p xs)/\pZ x=true/\xs.all pZ=true/\Q (.bl (if neg then !inV x xs else inV x xs)) H
theorem aER:OpR X (Aa .In) (rIn X.K false):=by
 intro pins s σ H x y v u Q I rx ry h;obtain⟨p,xs,rfl,hq,fx,fs,q⟩:=h;cases ry
 rcases hq with hq|hq
 ·obtain⟨its,r,pl,hz⟩:=I.list hq;refine SeqAt.in_listAt (eqU x) pl.isList (λw hw=>wC rx fx r fs w<|by simpa using hw) ⟨.bl _,H,I,rfl, ?_⟩;rw[show its.toArray.any (eqU x)=its.any (eqU x) by simp,aAK r fs];exact q
 ·obtain⟨its,r,pl,hz⟩:=I.tuple hq;refine SeqAt.in_tupleAt (eqU x) pl (λw hw=>wC rx fx r fs w<|by simpa using hw) ⟨.bl _,H,I,rfl, ?_⟩;rw[show its.toArray.any (eqU x)=its.any (eqU x) by simp,aAK r fs];exact q
theorem sD:pV X (.builtin "len") (λxs H Q=>∃p ys,xs=[.ref p]/\(SqL X.K H p ys\/SqT X.K H p ys)/\Q (.int ys.length) H):=by
 intro pins s σ H xs us Q I r h;obtain⟨p,ys,rfl,hq,q⟩:=h;obtain⟨u,rfl,rx⟩:=uM r;cases rx;have hn:=aBJ
 rcases hq with hq|hq
 ·obtain⟨its,r',pl,hz⟩:=I.list hq;have hlen:=r'.length;exact Calls.call_len_list pl.isList (by simp only[aQ]<;>omega) ⟨.int ys.length,H,I.tok _,⟨s.toks+1,by rw[aQ,hlen]⟩,q⟩
 ·obtain⟨its,r',pl,hz⟩:=I.tuple hq;have hlen:=r'.length;exact len_tuple pl (by simp only[aQ]<;>omega) ⟨.int ys.length,H,I.tok _,⟨s.toks+1,by rw[aQ,hlen]⟩,q⟩
theorem sT:pV X (.type "list") (λxs H Q=>∃p ys,xs=[.ref p]/\(SqL X.K H p ys\/SqT X.K H p ys)/\∀l,H l=none->Q (.ref l) (upd H l<|.lst ys)):=by
 intro pins s σ H xs us Q I r h;obtain⟨p,ys,rfl,hq,q⟩:=h;obtain⟨u,rfl,rx⟩:=uM r;cases rx
 have fin:∀ (its:List BH),Vals ys its->ys.length<=AN->∀ (h':BL) (c':Nat),(∀b o',s.heap.get? b=some o'->h'.get? b=some o')->
   h'.get? s.heap.objs.size=some {cls:=.type "list",dict:=none,data:=.seq its.toArray c',slots:= #[]}->EP X pins σ Q (.ref s.heap.objs.size) {s with heap:=h'}:=λits r' hz h' c' kp e=>
  ⟨.ref s.heap.objs.size,_,I.laid (t':=s.toks) kp (aG _) (show ObjOk X.prog X.w _ h' _ (.lst ys) from⟨hz,its,c',r',e⟩),rfl,q _ (I.hok.fresh<|aG _)⟩
 rcases hq with hq|hq
 ·obtain⟨its,r',pl,hz⟩:=I.list hq;have hlen:=r'.length;obtain⟨o,ho,hc,n,hd⟩:=pl.isList;exact call_list_seq p (.inl rfl) ho hc hd (λh' c' kp e=>fin its r' hz h' c' kp e) (by simp only[aQ]<;>omega)
 ·obtain⟨its,r',pl,hz⟩:=I.tuple hq;have hlen:=r'.length;obtain⟨o,ho,hc,n,hd⟩:=pl;exact call_list_seq p (.inr rfl) ho hc hd (λh' c' kp e=>fin its r' hz h' c' kp e) (by simp only[aQ]<;>omega)
theorem rF:pV X (.type "tuple") (λxs H Q=>∃p ys,xs=[.ref p]/\((SqL X.K H p ys/\∀l,H l=none->Q (.ref l) (upd H l<|.tup ys))\/(SqT X.K H p ys/\Q (.ref p) H))):=by
 intro pins s σ H xs us Q I r h;obtain⟨p,ys,rfl,h⟩:=h;obtain⟨u,rfl,rx⟩:=uM r;cases rx
 rcases h with⟨hq,q⟩|⟨hq,q⟩
 ·obtain⟨its,r',pl,hz⟩:=I.list hq;have hlen:=r'.length;refine call_tuple_list pl.isList (λh' kp=> ?_) (by simp only[aQ]<;>omega);have I1:Inv X pins σ H {s with heap:=h'}:=I.kept (t':=s.toks) kp
  have I2:Inv X pins σ (upd H h'.objs.size<|.tup ys) {s with heap:=h'.push {cls:=.type "tuple",data:=.seq its.toArray}}:=
   I1.laid (t':=s.toks) (λb o e=>aE _ e) (aG _) (show ObjOk X.prog X.w _ _ _ (.tup ys) from⟨hz,its,r',IsTupD.new _ _⟩)
  exact⟨.ref h'.objs.size,_,I2,rfl,q _ (I1.hok.fresh<|aG _)⟩
 ·obtain⟨its,r',pl,hz⟩:=I.tuple hq;exact call_tuple_same pl ⟨.ref p,H,I,rfl,q⟩
def tyV(K:aB)(T:String)(x:V)(H:Hp):Prop:=match x with
 |.str _=>T="str"
 |.int _=>T="int"
 |.ref p=>(T="list"/\∃xs,SqL K H p xs)\/(T="tuple"/\∃o,K.lookup p=some o/\o.cls=.type "tuple"/\o.dict=none)\/
   (T="dict"/\((∃kvs,H p=some (.dK kvs))\/∃kvs,H p=some (.dT kvs)))\/(T="set"/\∃S n,H p=some (.set S n))
 |_=>False
theorem aMA{pins:List (BJ×BM)}{σ:St}{H:Hp}{s:BI}{T:String}{x:V}{v:BH}(I:Inv X pins σ H s)(r:RelV x v)(ty:tyV X.K T x H):
  s.TypeIs v T/\∀a,v=.ref a->∃ob,s.heap.get? a=some ob/\ob.dict=none:=by
 cases x with
 |str z=>obtain⟨t,rfl⟩:=r;cases(show T="str" from ty);exact⟨typeIs_str s z t,λ_ e=>nomatch e⟩
 |int i=>obtain⟨t,rfl⟩:=r;cases(show T="int" from ty);exact⟨typeIs_int s i t,λ_ e=>nomatch e⟩
 |ref p=>
  cases r
  rcases ty with⟨rfl,xs,hq⟩|⟨rfl,o,hk,hc,hd⟩|⟨rfl,hk⟩|⟨rfl,S,n,hk⟩
  ·obtain⟨its,_,pl,_⟩:=I.list hq;refine⟨pl.isList.typeIs,λa e=> ?_⟩;cases e;obtain⟨o,n,e,c,hd,_⟩:=pl;exact⟨o,e,hd⟩
  ·refine⟨⟨o,I.kIn p o hk,hc⟩,λa e=> ?_⟩;cases e;exact⟨o,I.kIn _ o hk,hd⟩
  ·have z:∃o,s.heap.get? p=some o/\o.ExactDict:=by
    rcases hk with⟨kvs,hk⟩|⟨kvs,hk⟩
    ·obtain⟨_,_,_,_,o,_,_,e,ex,_⟩:=I.hok p _ hk;exact⟨o,e,ex⟩
    ·obtain⟨_,_,_,_,o,_,_,e,ex,_⟩:=I.hok p _ hk;exact⟨o,e,ex⟩
   obtain⟨o,e,ex⟩:=z;refine⟨⟨o,e,ex.1⟩,λa e2=> ?_⟩;cases e2;exact⟨o,e,ex.2.1⟩
  ·obtain⟨o,_,_,_,e,ex,_⟩:=I.hok p _ hk;refine⟨⟨o,e,ex.1⟩,λa e2=> ?_⟩;cases e2;exact⟨o,e,ex.2.1⟩
 |_=>exact False.elim ty
noncomputable def tBM(K:aB)(T:String)(r:V->List V->Hp->VK->Prop)(to:TE)(t:TA):TE:=λσ H Q=>to σ H λx H1=>tyV K T x H1/\t σ H1 λxs H2=>r x xs H2 Q
variable {o e:Expr}{es:List Expr}{to:TE}{t:TA}{name:Str}{apos cpos:Pos}{T id:String}{r:V->List V->Hp->VK->Prop}
theorem aFO(pa:PlainAttrs T)(slot:Slot T name id)(hty:typeOf (.builtin id)=pure (.type "method_descriptor"))(hm:MtR X id r)(ho:PE X o to)(ha:PA X (e::es) t)
  (hbase:attributeBase o name X.env (eval o X.env)=eval o X.env:=by rfl)
  (hfew:((Ak cpos (AD (e::es) X.env)).all (fun x=> !x.1) && (backToKw cpos (keywordEach [] X.env)).all (fun x=>x.1.isSome)
  &&decide ((e::es).length+([]:List Keyword).length+(if([]:List Keyword).isEmpty then 0 else 1)<30))=true:=by rfl)
  (hline:(apos.endLine==cpos.line)=true:=by rfl) (hs:AD (e::es) X.env=(false,eval e X.env)::AD es X.env:=by rfl) (hplain:(Ak cpos<|AD es X.env).any (·.1)=false:=by rfl):
  PE X (.Call (.Attribute o name apos) (e::es) [] cpos) (tBM X.K T r to t):=by
 intro pins s σ H Q I h;refine wpAny_Call_method_late hbase hfew hline rfl<|thn (ho pins s σ H _ I h) λv s1 ⟨x,H1,I1,r1,ty,q1⟩=> ?_;obtain⟨h1,h2⟩:=aMA I1 r1 ty;refine⟨T,id,pa,slot,hty,h1,h2, ?_⟩;have hA:=ha cpos pins s1 σ H1 _ I1 q1;rw[hs] at hA ⊢;refine Calls.callWith_builtin (by show(false||(Ak cpos<|AD es X.env).any (·.1))=false;rw[hplain]<;>rfl)<|Calls.evalArgs_plain ?_;exact thn hA λus s2 ⟨vs,H2,I2,r2,q2⟩=>hm pins s2 σ H2 x vs v us Q I2 r1 r2 q2
/- xs.append(e),list.index on a module's tuple .. are MtR facts of 06m -/
end
def MtM(X:Cx)(id:String)(r:V->List V->Hp->VK->Prop):Prop:=
 ∀ (pins:List (BJ×BM)) (s:BI) (σ:St) (H:Hp) (x:V) (xs:List V) (v:BH) (us:List BH) (Q:VK),Inv X pins σ H s->RelV x v->Vals xs us->r x xs H Q->
  AG (AF X.prog X.w) X.A (call (.builtin id) (v::us)) (EP X pins σ Q) X.xe s
theorem Vals.one:∀ {x:V}{us:List BH},Vals [x] us->∃u,us=[u]/\RelV x u
 |_,_,.cons r .nil=>⟨_,rfl,r⟩
variable {pins:List (BJ×BM)}{σ:St}{H:Hp}{s:BI}{l b:BJ}{xs ys zs:List V}
theorem Inv.lset{its its':List BH}{n:Nat}{f:Array BH->Array BH}{t':Nat}(I:Inv X pins σ H s)(hH:H l=some (.lst xs))
  (e:s.heap.get? l=some {cls:=.type "list",data:=.seq its.toArray n}) (hf:f its.toArray=its'.toArray) (hv:Vals ys its') (hz:ys.length<=AN):
  Inv X pins σ (upd H l<|.lst ys) {s with heap:=s.heap.update l<|Obj.mapSeq f,toks:=t'}:=by
 have q:=PySem.IsL.update e f;rw[hf] at q;refine I.write (x:=l) (e:=l) (by rw[hH];exact trivial) (.inl rfl) (λb' u hb hu=>(eV s.heap (Obj.mapSeq f)<|Ne.symm hb).trans hu) ⟨_,q⟩ ?_;exact⟨hz,its',_,hv,q⟩
theorem Inv.lnew{its:List BH}{t':Nat}(I:Inv X pins σ H s)(hv:Vals ys its)(hz:ys.length<=AN):
  Inv X pins σ (upd H s.heap.objs.size<|.lst ys) {s with heap:=s.heap.push {cls:=.type "list",data:=.seq its.toArray},toks:=t'}:=
 I.laid (λ_ _ q=>aE _ q) (aG _) ⟨hz,its,0,hv,bE _ rfl⟩
theorem Inv.fresh(I:Inv X pins σ H s):H s.heap.objs.size=none:=I.hok.fresh<|aG _
theorem Inv.lstM(I:Inv X pins σ H s)(hH:H l=some (.lst xs)):xs.length<=AN/\∃ (its:List BH) (n:Nat),Vals xs its/\xs.length=its.length/\s.heap.get? l=some {cls:=.type "list",data:=.seq its.toArray n}:=by obtain⟨z,its,n,r,e⟩:=I.hok l _ hH;exact⟨z,its,n,r,r.length,e⟩
theorem aGe{n:Nat}(h:n<=AN):Builtin.List.listTooLong n=false:=by unfold Builtin.List.listTooLong;exact decide_eq_false<|by omega
def aEk:V->List V->Hp->VK->Prop:=λx vs H Q=>∃l xs y,x=.ref l/\vs=[y]/\H l=some (.lst xs)/\xs.length<AN/\Q .non (upd H l (.lst<|xs++[y]))
theorem aFc:MtM X "list.append" aEk:=by intro pins s σ H x vs v us Q I rx rv h;obtain⟨l,xs,y,rfl,rfl,hH,hz,q⟩:=h;cases rx;obtain⟨u,rfl,ru⟩:=rv.one;obtain⟨z,its,n,r,hl,e⟩:=I.lstM hH;refine call_meets F.slot_list_append ⟨_,e,rfl⟩ F.entry_list_append (F.args_list_append_2 _ _) (PySem.list_append l its.toArray n u<|by rw[aQ];omega) ⟨e, ?_⟩;refine⟨.non,_,I.lset (its':=its++[u]) hH e (by simp) (r.append<|.cons ru .nil) ?_,rfl,q⟩;rw[bR,List.length_singleton];omega
def aDD:V->List V->Hp->VK->Prop:=λx vs H Q=>∃l b xs zs,x=.ref l/\vs=[.ref b]/\H l=some (.lst xs)/\H b=some (.lst zs)/\xs.length+zs.length<=AN/\Q .non (upd H l (.lst<|xs++zs))
theorem aEG:MtM X "list.extend" aDD:=by
 intro pins s σ H x vs v us Q I rx rv h;obtain⟨l,b,xs,zs,rfl,rfl,hH,hB,hz,q⟩:=h;cases rx;obtain⟨u,rfl,ru⟩:=rv.one;cases ru;obtain⟨z,its,n,r,hl,e⟩:=I.lstM hH;obtain⟨z2,its2,n2,r2,hl2,e2⟩:=I.lstM hB;have hsz:its.toArray.size+its2.toArray.size<=AN:=by rw[aQ,aQ];omega
 have hlong:¬ (!its.toArray.isEmpty&&Builtin.List.listTooLong (its.toArray.size+its2.toArray.size))=true:=by rw[aGe hsz,rK];exact bS
 refine call_meets F.slot_list_extend ⟨_,e,rfl⟩ F.entry_list_extend (F.args_list_extend_2 _ _)
  (AutoSeq1.list_extend_list_list_0 l its.toArray n b its2.toArray n2 hlong (by rw[aQ];omega)<|by omega) ⟨e,e2, ?_⟩
 refine⟨.non,_,I.lset (its':=its++its2) hH e (by simp) (r.append r2) ?_,rfl,q⟩;rw[bR];omega
noncomputable def rCat:R2:=λx y H Q=>∃l b xs zs,x=.ref l/\y=.ref b/\H l=some (.lst xs)/\H b=some (.lst zs)/\xs.length+zs.length<=AN/\∀p,H p=none->Q (.ref p) (upd H p (.lst<|xs++zs))
theorem aLE:OpR X (Am .Add) rCat:=by
 intro pins s σ H x y v u Q I rx ry h;obtain⟨l,b,xs,zs,rfl,rfl,hH,hB,hz,q⟩:=h;cases rx;cases ry;obtain⟨z,its,n,r,hl,e⟩:=I.lstM hH;obtain⟨z2,its2,n2,r2,hl2,e2⟩:=I.lstM hB;refine PySem.P.add_list e e2 ?_ (by rw[aQ,aQ];omega);have ea:its.toArray++its2.toArray=(its++its2).toArray:=by simp
 rw[ea];exact⟨.ref _,_,I.lnew (t':=s.toks) (r.append r2) (by rw[bR];omega),rfl,q _ I.fresh⟩
section
variable {prog:AI}{w:AL}{A:BK}{E:BH->BI->Prop}{s:BI}
set_option maxRecDepth 100000 in
end
section
variable {κ:Type}[DecidableEq κ]
noncomputable def lP(kvs:List (κ×V))(k:κ):Option V:=(kvs.find? λkv=>decide<|kv.1=k).map (·.2)
noncomputable def rD(kvs:List (κ×V))(k:κ)(v:V):List (κ×V):=
 if(kvs.any λkv=>decide<|kv.1=k)=true then kvs.map (λkv=>if kv.1=k then(kv.1,v) else kv) else kvs++[(k,v)]
theorem pW{p:κ×V}{r:List (κ×V)}{k:κ}(e:p.1=k):lP (p::r) k=some p.2:=by simp[lP,iJ,e]
theorem nX{p:κ×V}{r:List (κ×V)}{k:κ}(e:¬ p.1=k):lP (p::r) k=lP r k:=by simp[lP,iJ,e]
theorem yK(k:κ):∀kvs:List (κ×V),(kvs.any λkv=>decide<|kv.1=k)=(lP kvs k).isSome
 |[]=>rfl
 |p::r=>by
  rw[lQ]
  by_cases e:p.1=k
  ·simp only[pW e,decide_eq_true e,aCZ,rX]
  ·rw[nX e,decide_eq_false e,aMW];exact yK k r
theorem aBd(kvs:List (κ×V))(k:κ)(v:V):(rD kvs k v).length<=kvs.length+1:=by
 unfold rD
 split
 ·rw[aA];omega
 ·rw[bR,cM,gW];omega
theorem aCo{kvs:List (κ×V)}{k:κ}(v:V)(h:lP kvs k=none):rD kvs k v=kvs++[(k,v)]:=by unfold rD;rw[yK,h];exact if_neg<|by decide
theorem RelO.isSome_eq{o:Option V}{u:Option BH}(r:RelO o u):o.isSome=u.isSome:=by
 cases o with
 |none=>cases u with
  |none=>rfl
  |some _=>exact(show False from r).elim
 |some _=>cases u with
  |none=>exact(show False from r).elim
  |some _=>rfl
theorem KV.val{kvs:List (κ×V)}{vs:List (κ×BH)}(r:KV kvs vs)(k:κ):RelO (lP kvs k) (valueAt vs k):=by
 unfold KV at r
 induction r with
 |nil=>exact True.intro
 |@cons p q ps qs h t ih=>
  obtain⟨h1,h2⟩:=h
  by_cases e:p.1=k
  ·have e':q.1=k:=h1.symm.trans e;have b:valueAt (q::qs) k=some q.2:=by simp[valueAt,iJ,e']
   rw[pW e,b];exact h2
  ·have e':¬ q.1=k:=λz=>e (h1.trans z)
   have b:valueAt (q::qs) k=valueAt qs k:=by simp[valueAt,iJ,e']
   rw[nX e,b];exact ih
theorem KV.any{kvs:List (κ×V)}{vs:List (κ×BH)}(r:KV kvs vs)(k:κ):(kvs.any λkv=>decide<|kv.1=k)=vs.any λkv=>decide (kv.1=k):=by
 unfold KV at r
 induction r with
 |nil=>rfl
 |cons h t ih=>rw[lQ,lQ,ih,h.1]
theorem KV.repl{kvs:List (κ×V)}{vs:List (κ×BH)}(r:KV kvs vs)(k:κ){y:V}{u:BH}(ry:RelV y u):
  KV (kvs.map λkv=>if kv.1=k then(kv.1,y) else kv) (vs.map λkv=>if kv.1=k then(kv.1,u) else kv):=by
 unfold KV at r ⊢
 induction r with
 |nil=>exact .nil
 |@cons p q ps qs h t ih=>
  rw[aR,aR];refine .cons ?_ ih;obtain⟨h1,h2⟩:=h
  by_cases e:p.1=k
  ·rw[if_pos e,if_pos<|h1.symm.trans e];exact⟨h1,ry⟩
  ·rw[if_neg e,if_neg (λz=>e<|h1.trans z)];exact⟨h1,h2⟩
theorem KV.put{kvs:List (κ×V)}{vs:List (κ×BH)}(r:KV kvs vs)(k:κ){y:V}{u:BH}(ry:RelV y u):KV (rD kvs k y) (stored vs k u):=by
 unfold rD stored;rw[r.any k]
 by_cases e:(vs.any λkv=>decide<|kv.1=k)=true
 ·rw[if_pos e,if_pos e];exact r.repl k ry
 ·rw[if_neg e,if_neg e];exact Paired.snoc r ⟨rfl,ry⟩
end
theorem aIG{P:AI}{w:AL}{k:Key}{u:BH}(r:RelV (kV k) u):(eC P w).is k u=true:=by
 cases k with
 |inl i=>obtain⟨t,e⟩:=(show ∃t,u=Value.int i t from r);subst e;exact aBk P w i t
 |inr x=>obtain⟨t,e⟩:=(show ∃t,u=Value.str x t from r);subst e;exact aBh P w x t
theorem aAe{P:AI}{w:AL}:∀ {ks:List Key}{us:List BH},Vals (ks.map kV) us->ItemsAre (eC P w) ks us
 |[],_,r=>by rw[dD] at r;cases r;exact .nil
 |k::ks,_,r=>by
  rw[aR] at r;cases r with
  |cons h t=>exact .cons (aIG h)<|aAe t
abbrev KT(H:Hp):List (List Key×V)->List (List Key×BJ×BH)->Prop:=Paired λp q=>p.1=q.1/\H q.2.1=some (.tup<|p.1.map kV)/\RelV p.2 q.2.2
theorem KT.val{kvs:List (List Key×V)}{xs:List (List Key×BJ×BH)}(r:KT H kvs xs)(k:List Key):RelO (lP kvs k) ((atKey xs k).map (·.2)):=by
 induction r with
 |nil=>exact True.intro
 |@cons p q ps qs h t ih=>
  obtain⟨h1,_,h2⟩:=h
  by_cases e:p.1=k
  ·have e':q.1=k:=h1.symm.trans e;have b:atKey (q::qs) k=some q.2:=by simp[atKey,iJ,e']
   rw[pW e,b];exact h2
  ·have e':¬ q.1=k:=λz=>e (h1.trans z)
   have b:atKey (q::qs) k=atKey qs k:=by simp[atKey,iJ,e']
   rw[nX e,b];exact ih
theorem KT.repl{kvs:List (List Key×V)}{xs:List (List Key×BJ×BH)}(r:KT H kvs xs)(k:List Key){y:V}{u:BH}(ry:RelV y u):
  KT H (kvs.map λkv=>if kv.1=k then(kv.1,y) else kv) (xs.map<|putAt k u):=by
 induction r with
 |nil=>exact .nil
 |@cons p q ps qs h t ih=>
  rw[aR,aR];refine .cons ?_ ih;obtain⟨h1,h2,h3⟩:=h;unfold putAt
  by_cases e:p.1=k
  ·rw[if_pos e,if_pos<|h1.symm.trans e];exact⟨h1,h2,ry⟩
  ·rw[if_neg e,if_neg (λz=>e<|h1.trans z)];exact⟨h1,h2,h3⟩
theorem KT.put{kvs:List (List Key×V)}{xs:List (List Key×BJ×BH)}(r:KT H kvs xs)(k:List Key){y:V}{u:BH}(hb:H b=some (.tup<|k.map kV))(ry:RelV y u):
  KT H (rD kvs k y) (storedH xs k b u):=by
 have e:(kvs.any λkv=>decide<|kv.1=k)=(atKey xs k).isSome:=by rw[yK,(r.val k).isSome_eq,Option.isSome_map]
 unfold rD storedH;rw[e]
 by_cases q:(atKey xs k).isSome=true
 ·rw[if_pos q,if_pos q];exact r.repl k ry
 ·rw[if_neg q,if_neg q];exact Paired.snoc r ⟨rfl,hb,ry⟩
theorem KT.keeps{H':Hp}{kvs:List (List Key×V)}{xs:List (List Key×BJ×BH)}(r:KT H kvs xs)(ht:∀b ys,H b=some (.tup ys)->H' b=some (.tup ys)):KT H' kvs xs:=
 Paired.mapP r λ_ _ z=>⟨z.1,ht _ _ z.2.1,z.2.2⟩
variable {P:AI}{w:AL}{h:BL}{a:BJ}
theorem aKK{u:HO}(ok:HOk P w H h)(e:Rd H a u):ObjOk P w H h a u:=e.ok ok
theorem aIM{kvs:List (Key×V)}(ok:HOk P w H h)(e:Rd H a (.dK kvs)):kvs.length<=AN/\(a==Aw)=false/\∃vs,KV kvs vs/\h.DictOf (eC P w) a vs:=
 show ObjOk P w H h a (.dK kvs) from aKK ok e
theorem aNV{kvs:List (Key×V)}(ok:HOk P w H h)(e:H a=some (.dK kvs)):kvs.length<=AN/\(a==Aw)=false/\∃vs,KV kvs vs/\h.DictOf (eC P w) a vs:=aIM ok<|.inl e
theorem mO{ks:List Key}(ok:HOk P w H h)(e:H a=some (.tup<|ks.map kV)):(Ao<|eC P w).is h ks a:=by obtain⟨_,its,r,o,h1,h2,⟨n,h3⟩,_⟩:=(show ObjOk P w H h a (.tup<|ks.map kV) from ok a _ e);exact⟨o,its.toArray,n,h1,h2,h3,by simpa using aAe r⟩
theorem aKM{kvs:List (List Key×V)}(ok:HOk P w H h)(e:Rd H a (.dT kvs)):kvs.length<=AN/\(a==Aw)=false/\
  ∃xs,KT H kvs xs/\h.DictOfH (Ao<|eC P w) a xs:=by
 obtain⟨z,y,xs,r,o,es,ep,h1,h2,h3,h4,h5⟩:=(show ObjOk P w H h a (.dT kvs) from aKK ok e);refine⟨z,y,xs,r,o,es,ep,h1,h2,h3,h4,λx hx=> ?_,h5⟩
 have all:∀ {l:List (List Key×V)}{m:List (List Key×BJ×BH)},KT H l m->∀x∈m,(Ao<|eC P w).is h x.1 x.2.1:=by
  intro l m q
  induction q with
  |nil=>intro x hx;exact nomatch hx
  |@cons p q ps qs hq t ih=>
   intro x hx
   rcases aV.mp hx with e|hx
   ·subst e;exact mO ok (by rw[<-hq.1];exact hq.2.1)
   ·exact ih x hx
 exact all r x hx
def DGet(H:Hp)(a:BJ)(y:V)(r:Option V):Prop:=
 (∃kvs k,Rd H a (.dK kvs)/\y=kV k/\r=lP kvs k)\/∃kvs k b,Rd H a (.dT kvs)/\y=.ref b/\H b=some (.tup<|k.map kV)/\r=lP kvs k
theorem DGet.k{H:Hp}{a:BJ}{kvs:List (Key×V)}{k:Key}(e:H a=some (.dK kvs)):DGet H a (kV k) (lP kvs k):=.inl ⟨kvs,k,.inl e,rfl,rfl⟩
variable {y v:V}{u r:BH}{o:Option V}{A:BK}{E:BH->BI->Prop}
theorem Inv.big(I:Inv X pins σ H s):Aw<s.heap.objs.size:=by have h:AQ<s.heap.objs.size:=(I.mod.glob.keeps I.bk).lt;exact qJ (by decide) h
theorem aEQ{Q:BH->BI->Prop}(hu:A.units+1<AR)(I:Inv X pins σ H s)(g:DGet H a y (some v))(ry:RelV y u)(h:∀w' s',Inv X pins σ H s'->RelV v w'->Q w' s'):
  AG (AF X.prog X.w) A (getItem (.ref a) u) Q E s:=by
 rcases g with⟨kvs,k,e,ey,l⟩|⟨kvs,k,b,e,ey,eb,l⟩
 ·subst ey;obtain⟨z,hd,vs,rel,dd⟩:=aIM I.hok e;obtain⟨w',hw,rw'⟩:=RelO.some_of (v:=v) (o:=valueAt vs k) (by rw[l];exact rel.val k);exact wpAny_getItem_of (aIG ry) dd.mapOf hw<|h w' _ (I.tok _) rw'
 ·subst ey;cases(show u=Value.ref b from ry);obtain⟨z,hd,xs,rel,dd⟩:=aKM I.hok e;obtain⟨w',hw,rw'⟩:=RelO.some_of (v:=v) (o:=(atKey xs k).map (·.2)) (by rw[l];exact rel.val k);obtain⟨p,hp,hp2⟩:=cS.mp hw;refine wpAny_getItem_heap (BG hu) (mO I.hok eb) dd hp ?_;rw[hp2];exact h w' _ (I.tok _) rw'
theorem aAV{h':BL}{t':Nat}{ob:HO}(I:Inv X pins σ H s)(mu:Mut (H a))(hs:Heap.SameBut a s.heap h')(he:∃q,h'.get? a=some q)(new:ObjOk X.prog X.w (upd H a ob) h' a ob):
  Inv X pins σ (upd H a ob) {s with heap:=h',toks:=t'}:=
 I.write (x:=a) (e:=a) mu (.inl rfl) (λb q hb z=>(hs.2 b hb).trans z) he new
theorem aLV{H':Hp}{h':BL}{kvs:List (Key×V)}{vs:List (Key×BH)}(z:kvs.length<=AN)(hd:(a==Aw)=false)(rel:KV kvs vs)(dd:h'.DictOf (eC P w) a vs):
  ObjOk P w H' h' a (.dK kvs):=⟨z,hd,vs,rel,dd⟩
def aNf(i:Expr):Prop:=∀ov iv,subscripted i false ov iv=operate [ov,iv] (getItem ov iv)
theorem aJB{prog:AI}{env:Env}{value slice:Expr}{T id:String}{Q:BH->BI->Prop}
  (hl:typeLookup (.type T) "__getitem__"=pure (some<|.builtin id)) (hs:aNf slice)
  (h:AG (AF prog w) A (eval value env) (λo s₁=>AG (AF prog w) A (eval slice env) (λi s₂=>s₂.TypeIs o T/\AG (AF prog w) A (getItem o i) Q E s₂) E s₁) E s):
  AG (AF prog w) A (eval (.Subscript value slice pos) env) Q E s:=by
 refine Subscript_<|AW h (λo s₁ h₁=>AW h₁ (λi s₂ h₂=> ?_) λ_ _ x=>x) λ_ _ x=>x;obtain⟨hT,h₂⟩:=h₂;unfold subscriptTail;refine AA ?_;rw[getitemInPython_of_ne hT.not_modules];refine AA<|wpAny_specialOf hT hl ?_
 have fin:AG (AF prog w) A (subscripted slice false o i) (λr s₃=>AG (AF prog w) A (letTemporaryGo value o r>>=λ_=>pure r) Q E s₃) E s₂:=by rw[hs o i];exact wpAny_operating<|AW h₂ (λr s₃ h₃=>AA (wpAny_letTemporaryGo<|AB h₃)) λ_ _ x=>x
 first
  |exact AB (AA fin)
  |exact AA (AB<|AA fin)
  |exact AA fin
theorem aBi(I:Inv X pins σ H s)(g:DGet H a y o):s.TypeIs (.ref a) "dict":=by
 rcases g with⟨kvs,k,e,_,_⟩|⟨kvs,k,b,e,_,_,_⟩
 ·obtain⟨_,_,vs,_,dd⟩:=aIM I.hok e;exact dd.typeIs
 ·obtain⟨_,_,xs,_,dd⟩:=aKM I.hok e;exact dd.typeIs
noncomputable def aND(td ty:TE):TE:=λσ H Q=>td σ H λx H1=>ty σ H1 λy H2=>∃a v,x=.ref a/\DGet H2 a y (some v)/\Q v H2
variable {o i value:Expr}{pos' tpos:Pos}{td ty tv:TE}
theorem aIX(hu:X.A.units+1<AR)(ho:PE X o td)(hi:PE X i ty)(hs:aNf i):PE X (.Subscript o i pos) (aND td ty):=by intro pins s σ H Q I h;refine aJB PySem.F.slot_dict_getitem.lookup hs<|thn (ho pins s σ H _ I h) λu s1 ⟨x,H1,I1,rx,q1⟩=>thn (hi pins s1 σ H1 _ I1 q1) λiv s2 ⟨y,H2,I2,ry,a,v,ex,g,q2⟩=> ?_;subst ex;obtain rfl:u=Value.ref a:=rx;exact⟨aBi I2 g,aEQ hu I2 g ry λw' s3 I3 rw'=>⟨v,H2,I3,rw',q2⟩⟩
theorem aGC(h:BL)(hb:Aw<h.objs.size):ObjOk P w H (h.push {cls:=.type "dict",data:=.dict #[]}) h.objs.size (.dK []):=
 ⟨bI _,beq_eq_false_iff_ne.mpr (Ne.symm<|bQ hb),[],.nil,Heap.DictOf.new h⟩
noncomputable def aDv:List (TE×TE)->St->Hp->(List (V×V)->Hp->Prop)->Prop
 |[],_,H,Q=>Q [] H
 |(tk,tv)::r,σ,H,Q=>tk σ H λx H1=>tv σ H1 λy H2=>aDv r σ H2 λps H3=>Q ((x,y)::ps) H3
abbrev VV:List (V×V)->List (BH×BH)->Prop:=Paired λp q=>RelV p.1 q.1/\RelV p.2 q.2
def PPs(X:Cx)(pos:Pos)(keys:List (Option Expr))(values:List Expr)(trs:List (TE×TE)):Prop:=
 ∀ (pins:List (BJ×BM)) (s:BI) (σ:St) (H:Hp) (Q:List (V×V)->Hp->Prop),Inv X pins σ H s->aDv trs σ H Q->
  AG (AF X.prog X.w) X.A (evalPairs<|pairTrees keys values X.env pos) (λvs s'=>∃ps H',Inv X pins σ H' s'/\VV ps vs/\Q ps H') X.xe s
theorem aKa:PPs X pos [] [] []:=λpins s σ H Q I h=>pairTrees_nil_walk ⟨[],H,I,.nil,h⟩
theorem xO{k v:Expr}{ks:List (Option Expr)}{vs:List Expr}{tk:TE}{trs:List (TE×TE)}(hk:PE X k tk)(hv:PE X v tv)(hr:PPs X pos ks vs trs):
  PPs X pos (some k::ks) (v::vs) ((tk,tv)::trs):=λpins s σ H Q I h=>
 pairTrees_cons_walk (thn (hk pins s σ H _ I h) λu s1 ⟨x,H1,I1,rx,q1⟩=>thn (hv pins s1 σ H1 _ I1 q1) λw2 s2 ⟨y,H2,I2,ry,q2⟩=>thn (hr pins s2 σ H2 _ I2 q2) λws s3 ⟨ps,H3,I3,rel,q3⟩=>⟨(x,y)::ps,H3,I3,.cons ⟨rx,ry⟩ rel,q3⟩)
noncomputable def lJ(kvs more:List (Key×V)):List (Key×V):=more.foldl (λacc kv=>rD acc kv.1 kv.2) kvs
theorem KV.merge:∀ {more:List (Key×V)}{rs:List (Key×BH)}{kvs:List (Key×V)}{vs:List (Key×BH)},KV more rs->KV kvs vs->KV (lJ kvs more) (merged vs rs):=by
 intro more rs kvs vs r;unfold KV at r
 induction r generalizing kvs vs with
 |nil=>intro q;exact q
 |@cons p q ps qs h t ih=>
  intro r0
  have e:KV (rD kvs p.1 p.2) (stored vs q.1 q.2):=by have:=r0.put p.1 h.2;rw[<-h.1];exact this
  exact ih e
theorem rG:∀ (more kvs:List (Key×V)),(lJ kvs more).length<=kvs.length+more.length
 |[],kvs=>by show kvs.length<=kvs.length+0;omega
 |p::r,kvs=>by have h1:=rG r<|rD kvs p.1 p.2;have h2:=aBd kvs p.1 p.2;show(lJ (rD kvs p.1 p.2) r).length<=_;rw[cM];omega
theorem wN{P:AI}{w:AL}:∀ {kvs:List (Key×V)}{ws:List (BH×BH)},VV (kvs.map λkv=>(kV kv.1,kv.2)) ws->∃rs,Carries (eC P w) ws rs/\KV kvs rs
 |[],_,r=>by rw[dD] at r;cases r;exact⟨[],True.intro,.nil⟩
 |p::kvs,_,r=>by
  rw[aR] at r;cases r with
  |@cons a b as bs h t=>obtain⟨rs,c,q⟩:=wN (P:=P) (w:=w) t;obtain⟨b1,b2⟩:=b;exact⟨(p.1,b2)::rs,⟨aIG h.1,rfl,c⟩,.cons ⟨rfl,h.2⟩ q⟩
noncomputable def aNI(trs:List (TE×TE)):TE:=λσ H Q=>∀p,H p=none->aDv trs σ (upd H p<|.dK []) λps H2=>H2 p=some (.dK [])/\∃kvs:List (Key×V),ps=kvs.map (λkv=>(kV kv.1,kv.2))/\kvs.length<=15/\Q (.ref p) (upd H2 p (.dK<|lJ [] kvs))
theorem aIR{keys:List (Option Expr)}{values:List Expr}{trs:List (TE×TE)}(h:PPs X pos keys values trs)(hall:keys.all (·.isSome)=true)(hl:keys.length=values.length)(h0:keys≠[])
  (h15:keys.length<=15):PE X (.Dict keys values pos) (aNI trs):=by
 intro pins s σ H Q I q;have hn:=I.hok.fresh<|aG s.heap.objs.size;have I1:=I.laid (a:=s.heap.objs.size) (o:=.dK []) (h':=s.heap.push {cls:=.type "dict",data:=.dict #[]}) (t':=s.toks) (λ_ _ q=>aE _ q) (aG _)<|aGC s.heap I.big;refine wpAny_Dict_walk (knd:=eC X.prog X.w) hall hl h0 h15<|thn (h pins _ σ _ _ I1<|q _ hn) λws s2 ⟨ps,H2,I2,rel,e,kvs,ep,lk,q2⟩=> ?_;subst ep;obtain⟨rs,c,rk⟩:=wN (P:=X.prog) (w:=X.w) rel;obtain⟨z,hd,vs0,r0,dd⟩:=aNV I2.hok e;cases r0;refine⟨rs,c,dd,λh' dd' hs=>⟨.ref s.heap.objs.size,_, ?_,rfl,q2⟩⟩
 have hz:(lJ [] kvs).length<=AN:=by have h1:=rG kvs [];rw[gW] at h1;rw[AU];omega
 have he:∃q,h'.get? s.heap.objs.size=some q:=let ⟨q,_,_,hq,_⟩:=dd';⟨q,hq⟩
 exact aAV I2 (by rw[e];exact True.intro) hs he<|aLV hz hd (rk.merge .nil) dd'
structure M1(X:Cx)(o:Expr)(m:Str)(apos:Pos)(e:Expr)(cpos:Pos):Prop where
 base:attributeBase o m X.env (eval o X.env)=eval o X.env
 few:((Ak cpos (AD [e] X.env)).all (fun x=> !x.1) && (backToKw cpos (keywordEach [] X.env)).all (fun x=>x.1.isSome)
 &&decide (([e]:List Expr).length+([]:List Keyword).length+(if([]:List Keyword).isEmpty then 0 else 1)<30))=true
 line:(apos.endLine==cpos.line)=true
 trees:Ak cpos (AD [e] X.env)=[(false,eval e X.env)]
structure M2(X:Cx)(o:Expr)(m:Str)(apos:Pos)(e f:Expr)(cpos:Pos):Prop where
 base:attributeBase o m X.env (eval o X.env)=eval o X.env
 few:((Ak cpos (AD [e,f] X.env)).all (fun x=> !x.1) && (backToKw cpos (keywordEach [] X.env)).all (fun x=>x.1.isSome)
 &&decide (([e,f]:List Expr).length+([]:List Keyword).length+(if([]:List Keyword).isEmpty then 0 else 1)<30))=true
 line:(apos.endLine==cpos.line)=true
 trees:Ak cpos (AD [e,f] X.env)=[(false,eval e X.env),(false,eval f X.env)]
end L2
namespace Att
open PySem PySem.W PySem.Calls PyProof.Rows
theorem uR{P:Params}{h:BL}:∀ (ns:List Int) (vs:List BH),WellAll P h vs (ns.map WData.int)->IntsAre vs ns:=by
 intro ns
 induction ns with
 |nil=>intro vs w;rw[dD] at w;cases w;exact .nil
 |cons n ns ih=>
  intro vs w;rw[aR] at w;cases w with
  |cons a b=>cases a;exact .cons _ _<|ih _ b
theorem aFo{l:OpenLaw}{n:Nat}(hn:l.most=some n){P:Params}{h:BL}{args:List WData}{vals:List BH}
  (hpre:l.row.toRowW.claim.pre args=true) (hwl:WellAll P h vals args):
  ∃a vs ns,vals=[Value.ref a]/\args=[WData.list<|ns.map WData.int]/\h.get? a=some {cls:=.type "list",data:=.seq vs.toArray}/\IntsAre vs ns/\ns.length<=n:=by
 have hsh:WShape.hasAll [] args [.list .int]=true:=(pre_splitW hpre).1;have hc:l.pre.holds [] {args:=args}=true:=(pre_splitW hpre).2;obtain⟨d,r,rfl,h1,h2⟩:=hasAllW_cons hsh;obtain rfl:=hasAllW_nil h2;obtain⟨xs,rfl,h3⟩:=hasW_list h1;obtain⟨ns,rfl⟩:=items_int h3
 have hlen:ns.length<=n:=by
  unfold OpenLaw.pre at hc
  have h4:(WTm.not<|.lt (.lit<|.int (n:Int)) (.len<|.arg 0)).holds [] {args:=[.list<|ns.map .int]}=true:=by have h4:=(holds_andW hc).1;rw[hn] at h4;exact h4
  have h5:=condW_of h4 (w_not<|w_lt w_lit (w_len_list<|w_arg rfl));rw[aA] at h5;refine pN λq=> ?_
  have q':(n:Int)<((ns.length:Nat):Int):=by omega
  first
   |(rw[decide_eq_true q'] at h5;exact absurd h5<|by decide)
   |(simp at h5;omega)
 cases hwl with
 |cons w1 w2=>
  cases w2;cases w1 with
  |list ho hall=>exact⟨_,_,ns,rfl,rfl,ho,uR ns _ hall,hlen⟩
theorem aEB(l:OpenLaw)(args:List WData):l.row.toRowW.claim.post args (.bool true) args=true:=
 postW_of (r:=l.row.toRowW) (X:=(true==true))
  (show WShape.has [] (.bool true) .bool=true by first|rfl|decide|simp[WShape.has,WShape.arms,WShape.armsAll])
  (show(WTm.eq .res (.lit<|.bool true)).value [] {args:=args,res:=some<|.bool true,after:=args}=some (.bool<|true==true) from w_eq_bool (w_res rfl) w_lit) rfl
theorem attach_call{l:OpenLaw}{n:Nat}{q:AI}{loose:List Str}{XP:(Str->Option BH)->BL->Prop}{YP:AL->BL->Prop}{d:DefRec}
  (hn:l.most=some n) (hdf:d.params.defaults=[])
  (call:∀ (w:AL) (s₀ s₁:BI) (mg mb:Str→Option BH) (fa:BJ) (o:BM) (pm cd doc:BH) (a:BJ) (vs:List BH) (ns:List Int),
   Ground q loose [] XP w s₀ mg mb s₁.heap->YP w s₁.heap->
   s₁.heap.get? fa=some o->o.data=.func (docDef d.name d.params d.body d.scope pm cd doc)->s₁.heap.CodeRec cd d.name->mg d.name=some (.ref fa)->
   s₁.heap.get? a=some {cls:=.type "list",data:=.seq vs.toArray}->IntsAre vs ns->ns.length<=n->s₁.gens= #[]->
   codeAny (AF l.prog w) callerA (.call (.ref fa) ⟨[.ref a],[]⟩) (λr s'=>r=.ok (.ret (.bool true))/\OldK s₁.heap s'.heap/\s'.os=s₁.os/\AllBare s'.gens) s₁):
  WalkO q loose XP YP l.row.toRowW d [] (λf vs=>PySem.call f vs):=by
 intro w s₀ s₁ mg mb G Y fa o pm cd doc dV kV ho hd hcd hD hmg hg args vals as hpre hlay hrd hwl hlo;obtain rfl:dV=.none:=Dflts.none hD hdf;obtain rfl:kV=.none:=Dflts.noKw hD;obtain⟨a,vs,ns,rfl,rfl,hobj,hints,hlen⟩:=aFo hn hpre hwl;refine enter_call<|BC (call w s₀ s₁ mg mb fa o pm cd doc a vs ns G Y ho (fd_plain hd) hcd hmg hobj hints hlen hg) λr s' hq=> ?_;obtain⟨rfl,h2,h3,h4⟩:=hq;exact⟨.inl ⟨.bool true,.bool true,[],rfl,λ_=>rfl,.bool true,aEB l _,λ_=>⟨List.Pairwise.nil,λ_ hm=>(nomatch hm)⟩⟩,h2,h3,h4⟩
end Att
namespace L2
open PySem PySem.Spec PyProof.Rows
theorem aAk:∀ {vs:List BH}{ns:List Int},IntsAre vs ns->Vals (ns.map V.int) vs
 |_,_,.nil=>.nil
 |_,_,.cons n t h=>.cons ⟨t,rfl⟩<|aAk h
def aMP(H:Hp):Prop:=∀b,H b=none\/∃o xs,H b=some (.frz o<|.lst xs)
theorem aFV{P:AI}{w:AL}{K:aB}{mg mb:Str->Option BH}{CX:CXT}{k:Nat}{fa a:BJ}{fd:AV}{x:Str}{sp:Sp}{s₁:BI}{vs:List BH}{ns:List Int}
  (KX:K.In s₁.heap) (hns:s₁.heap.Ns AQ mg) (hb:s₁.heap.Ns builtinsNs mb) (hbb:∀x:Str,x≠"__name__"->mb x=Ax x) (hlim:s₁.heap.NoLimit) (hg:s₁.gens= #[])
  (ha:s₁.heap.get? a=some {cls:=.type "list",data:=.seq vs.toArray}) (hi:IntsAre vs ns) (hl:ns.length<=AN) (hr:Room k callerA)
  (F:∀base:BL,K.In base->base.Ns AQ mg->FnOk P w K mg base CX k fa fd [x] sp) (hbind:∀ (s:BI) (u:BH),BindsTo s fd ⟨[u],[]⟩ [(x,u)])
  (hsp:∀H:Hp,aMP H->SqL K H a (ns.map V.int)->sp [.ref a] H (λv _=>v=.bl true) λ_ _ _=>False)
  (hCX:∀H e s',CX [] H s₁ (λ_ _ _=>False) e s'->False):
  codeAny (AF P w) callerA (.call (.ref fa) ⟨[.ref a],[]⟩) (λr s'=>r=.ok (.ret<|.bool true)/\OldK s₁.heap s'.heap/\s'.os=s₁.os/\AllBare s'.gens) s₁:=by
 have rv:=aAk hi;have lenV:=hi.length
 have core:∀H:Hp,aMP H->SqL K H a (ns.map V.int)->HOk P w H s₁.heap->(∀b,H b≠none->b=a)->(H a≠none->K.lookup a=none)->
   codeAny (AF P w) callerA (.call (.ref fa) ⟨[.ref a],[]⟩) (λr s'=>r=.ok (.ret<|.bool true)/\OldK s₁.heap s'.heap/\s'.os=s₁.os/\AllBare s'.gens) s₁:=by
  intro H hO hS hok hA hK;have base_of:∀ {b:BJ}{o:BM},s₁.heap.get? b=some o->H b=none->(aFG s₁.heap H).get? b=some o:=λe n=>aGR e n
  have noA:∀ {b:BJ}{o:BM}{es:Array DictEntry}{ep:Nat},s₁.heap.get? b=some o->o.data=.dict es ep->H b=none:=λ{b o es ep} e d=>by
   cases q:H b with
   |none=>rfl
   |some u=>have e':b=a:=hA b (by rw[q];simp);subst e';rw[ha] at e;cases e;have d':Data.seq vs.toArray _=Data.dict es ep:=d;cases d'
  have nsK:∀ {b:BJ}{m:Str->Option BH},s₁.heap.Ns b m->(aFG s₁.heap H).Ns b m:=λ{b m} ⟨o,es,ep,e,d,r⟩=>⟨o,es,ep,base_of e<|noA e d,d,r⟩
  have hKb:K.In (aFG s₁.heap H):=fun b o e=>base_of (KX b o e) (by
   cases q:H b with
   |none=>rfl
   |some u=>
    have e':b=a:=hA b (by rw[q];simp);subst e'
    rw[hK (by rw[q];simp)] at e;cases e)
  have hM:Mod K mg (aFG s₁.heap H):=⟨hKb,nsK hns,⟨mb,nsK hb,hbb⟩,let ⟨mc,h1,h2⟩:=hlim;⟨mc,nsK h1,h2⟩⟩;have e0:aKD P w K mg (aFG s₁.heap H) callerA [] s₁ H:=⟨rfl,hM,λb o e=>aJQ e,aFu<|aFl _ _,trivial,λb hb=>absurd (show b∈([]:List BJ) from hb)<|by simp,hok,.of_eq hg⟩;refine BC ((F _ hKb<|nsK hns).run callerA [] s₁ H ⟨[.ref a],[]⟩ [.ref a] [.ref a] _ _ hr e0 (hbind s₁<|.ref a) (.cons rfl .nil)<|hsp H hO hS) λr s' h=> ?_
  cases r with
  |error e=>exact(hCX H e s' h).elim
  |ok fl=>
   cases fl with
   |next=>exact False.elim h
   |brk=>exact False.elim h
   |cont=>exact False.elim h
   |ret u=>
    obtain⟨v,H',os,bare,un,hok',r',q⟩:=h;have q':v=.bl true:=q;subst q';obtain rfl:u=Value.bool true:=r';refine⟨rfl,OldK.of_keep λb o e=> ?_,os,bare⟩;cases q:H b with
    |none=>exact un.keep b o e q (by intro z;exact absurd (show b∈([]:List BJ) from z)<|by simp)<|by simp
    |some u=>
     rcases hO b with z|⟨ob,xs,z⟩
     ·rw[q] at z;cases z
     ·have z2:=un.frzs b ob _ z;obtain⟨e1,_⟩:=hok b _ z;obtain⟨e2,_⟩:=hok' b _ z2;rw[e] at e1;cases e1;exact e2
 cases hk:K.lookup a with
 |some o=>
  have e:=KX a o hk;rw[ha] at e;cases e;refine core (λ_=>none) (λ_=>.inl rfl) (.inr ⟨_,vs.toArray,_,hk,rfl,rfl,rfl,by rw[aQ,lenV];exact hl,by simpa using rv⟩) (λb u z=>by have z':(none:Option HO)=some u:=z;cases z') (λb z=>absurd rfl z) λz=>absurd rfl z
 |none=>
  refine core (λb=>if b=a then some (.frz {cls:=.type "list",data:=.seq vs.toArray} (.lst<|ns.map V.int)) else none) (λb=> ?_) (.inl<|.inr ⟨{cls:=.type "list",data:=.seq vs.toArray},if_pos rfl⟩) (λb u z=> ?_) (λb z=> ?_) λ_=>hk
  ·by_cases hb:b=a
   ·exact .inr ⟨_,_,if_pos hb⟩
   ·exact .inl<|if_neg hb
  ·by_cases hb:b=a
   ·have z':=(if_pos hb).symm.trans z;cases z';subst hb;exact⟨ha,by rw[aA];exact hl,vs,_,rv,ha⟩
   ·have z':=(if_neg hb).symm.trans z;cases z'
  ·by_cases hb:b=a
   ·exact hb
   ·exact absurd (if_neg hb) z
noncomputable abbrev KOf{K:aB}{h:BL}(_:K.In h):aB:=K
theorem walk_of{l:PySem.W.OpenLaw}{n k:Nat}{q:AI}{loose:List Str}{XP:(Str->Option BH)->BL->Prop}{YP:AL->BL->Prop}{d:DefRec}{K:Params->aB}{CX:AL->CXT}{sp:AL->Sp}{x:Str}
  (hn:l.most=some n) (hn2:n<=AN) (hdf:d.params.defaults=[]) (hr:Room k callerA)
  (hY:∀ (w:AL) (h:BL),YP w h->(K w.params).In h)
  (F:∀ (w:AL) (mg:Str→Option BH) (fa:BJ) (h:BL),(K w.params).In h→h.Ns AQ mg→mg d.name=some (.ref fa)→
   ∃fd:AV,(∀ (s:BI) (u:BH),BindsTo s fd ⟨[u],[]⟩ [(x,u)])/\
    ∀base:BL,(K w.params).In base->base.Ns AQ mg->FnOk l.prog w (K w.params) mg base (CX w) k fa fd [x] (sp w))
  (hsp:∀ (w:AL) (H:Hp) (a:BJ) (ns:List Int),ns.length<=n->aMP H->SqL (K w.params) H a (ns.map V.int)->sp w [.ref a] H (λv _=>v=.bl true) λ_ _ _=>False)
  (hCX:∀ (w:AL) (H:Hp) (s:BI) (e:BH) (s':BI),CX w [] H s (λ_ _ _=>False) e s'->False):
  PySem.W.WalkO q loose XP YP l.row.toRowW d [] (λf vs=>PySem.call f vs):=by
 refine Att.attach_call hn hdf λw s₀ s₁ mg mb fa o pm cd doc a vs ns G Y ho hd hcd hmg hobj hints hlen hg=> ?_
 have KX:=hY w _ Y;obtain⟨fd,hb,hF⟩:=F w mg fa _ KX G.T.g hmg;exact aFV KX G.T.g G.T.b G.T.builtins G.T.nolimit hg hobj hints (cP hlen hn2) hr hF hb (λH hO hS=>hsp w H a ns hlen hO hS) λH e s'=>hCX w H s₁ e s'
noncomputable def iS(s:BN):Arguments:=match s with
 |.FunctionDef _ a _ _ _ _ _ _ _ _=>a
 |_=>{posonlyargs:=[],args:=[],vararg:=none,kwonlyargs:=[],kw_defaults:=[],kwarg:=none,defaults:=[]}
noncomputable def fV(s:BN):List BN:=match s with
 |.FunctionDef _ _ b _ _ _ _ _ _ _=>b
 |_=>[]
noncomputable def bJ(s:BN):Scope:=match s with
 |.FunctionDef _ _ _ _ _ _ sc _ _ _=>sc
 |_=>{kind:=.function,names:=[],isGenerator:=false,isCoroutine:=false}
noncomputable abbrev CX0:CXT:=λ_ _ _ _ _ _=>False
noncomputable abbrev E0:XK:=λ_ _ _=>False
theorem aOj{X:Cx}:aDj CX0 X E0:=λ_ _ _ _ _ _ _ h=>h.elim
structure Fun(K:aB)(x qual:Str)(st:BN)(f:BJ)(fd:AV):Prop where
 ex:∃ (oc:BH) (od:Option BJ) (kV doc pm:BH) (an:Option BJ) (cdv ct:BH) (osl:Array (Option BH)),
  fd=eQ x qual (iS st) (fV st) (bJ st) .none kV doc pm an cdv ct/\K.lookup f=some ⟨oc,od,.func fd,osl⟩/\iP K cdv qual=true
 kp:eJ K (.ref f)=true
variable {P:AI}{w:AL}{K:aB}{mg:Str->Option BH}{base:BL}
theorem Fun.ok{x qual:Str}{st:BN}{f:BJ}{fd:AV}{N ps:List Str}{k:Nat}{sp:Sp}(F:Fun K x qual st f fd)(S:nF N ps (bJ st))(len:∀vs H Q E,sp vs H Q E->vs.length=ps.length)
  (hbody:∀ (cdv:BH) (A:BK) (outer:List Env) (s:BI) (H:Hp) (vs:List V) (Q:VK) (E:XK),Room k (A.deeper (Aj qual (bJ st) s.heap.objs.size f cdv))→sp vs H Q E→
   ∃t,PSs (oM CX0 P w K mg base N qual (bJ st) f cdv A outer s H E).nox (fV st) t/\t {nx:=λ_ H'=>Q .non H',rt:=Q} (start N vs) H):FnOk P w K mg base CX0 (k+1) f fd ps sp:=by
 obtain⟨oc,od,kV,doc,pm,an,cdv,ct,osl,rfl,lk,hcd⟩:=F.ex;refine aLf lk hcd S len λA outer s H vs Q E hr hsp=> ?_
 obtain⟨t,h,q⟩:=hbody cdv A outer s H vs Q E hr hsp;exact⟨t,h.nox,q⟩
theorem Fun.binds{x qual:Str}{st:BN}{f:BJ}{fd:AV}{ps:List Str}(F:Fun K x qual st f fd)
  (h:∀ (kV doc pm:BH) (an:Option BJ) (cdv ct:BH) (us:List BH),us.length=ps.length->bindArgs (eQ x qual (iS st) (fV st) (bJ st) .none kV doc pm an cdv ct) ⟨us,[]⟩=pure (ps.zip us)):Binds K fd ps []:=by
 obtain⟨oc,od,kV,doc,pm,an,cdv,ct,osl,rfl,lk,hcd⟩:=F.ex;exact .all<|h kV doc pm an cdv ct
theorem aHU{x qual:Str}{st:BN}{f:BJ}{oc:BH}{od an:Option BJ}{osl:Array (Option BH)}{kV doc pm cdv ct:BH}(l:K.lookup f=some ⟨oc,od,.func<|eQ x qual (iS st) (fV st) (bJ st) .none kV doc pm an cdv ct,osl⟩)
  (c:iP K cdv qual=true) (k:eJ K (.ref f)=true):Fun K x qual st f (eQ x qual (iS st) (fV st) (bJ st) .none kV doc pm an cdv ct):=⟨⟨oc,od,kV,doc,pm,an,cdv,ct,osl,rfl,l,c⟩,k⟩
theorem gO{n:Nat}(h:n<=1000):n<AN:=cB h<|by decide
variable {X:Cx}
theorem pv(i:Nat){x:Str}{pos:Pos}(hN:X.N[i]? =some x:=by rfl)(hv:Vis X.env.scope x:=by first|exact Or.inl rfl|exact Or.inr (Or.inl rfl)|exact Or.inr (Or.inr rfl))(hd:(x==("__debug__":Str))=false:=by decide)
  (hcd:(x==("__classdict__":Str))=false:=by decide):PE X (.Name x pos) (qY i):=aLF hN hv hd hcd
theorem aIv{A B:Prop}(h:B):if false=true then A else B:=by rw[if_neg bS];exact h
theorem aIz{A B:Prop}(h:A):if true=true then A else B:=by rw[if_pos rfl];exact h
def Same(H H':Hp):Prop:=∀b o,H b=some o->H' b=some o
theorem Same.refl(H:Hp):Same H H:=λ_ _ h=>h
theorem Same.trans{H H1 H2:Hp}(a:Same H H1)(b:Same H1 H2):Same H H2:=λc o h=>b c o<|a c o h
theorem Same.free{H H':Hp}(e:Same H H'){l:BJ}(h:H' l=aMV):H l=aMV:=by
 cases q:H l with
 |none=>rfl
 |some o=>rw[e l o q] at h;cases h
theorem Same.seq{H H':Hp}{a:BJ}{xs:List V}(e:Same H H')(h:SqL K H a xs):SqL K H' a xs:=by
 rcases h with(h|⟨o,h⟩)|h
 ·exact .inl (.inl<|e _ _ h)
 ·exact .inl<|.inr ⟨o,e _ _ h⟩
 ·exact .inr h
noncomputable def wE(X:Cx)(e:Expr):TE:=λσ H Q=>∀ (pins:List (BJ×BM)) (s:BI),Inv X pins σ H s->AG (AF X.prog X.w) X.A (eval e X.env) (EP X pins σ Q) X.xe s
noncomputable def wT(X:Cx)(e:Expr):TT:=λσ H Q=>∀ (pins:List (BJ×BM)) (s:BI),Inv X pins σ H s->AG (AF X.prog X.w) X.A (isTrue e X.env<|eval e X.env) (TP X pins σ Q) X.xe s
noncomputable def wW(X:Cx)(e:Expr):TT:=λσ H Q=>∀ (whole:Sem BH) (pins:List (BJ×BM)) (s:BI),Inv X pins σ H s->AG (AF X.prog X.w) X.A (isTrue e X.env whole) (TP X pins σ Q) X.xe s
noncomputable def wA(X:Cx)(es:List Expr):TA:=λσ H Q=>∀ (pos:Pos) (pins:List (BJ×BM)) (s:BI),Inv X pins σ H s->AG (AF X.prog X.w) X.A (spliced (Ak pos<|AD es X.env)) (AP X pins σ Q) X.xe s
noncomputable def wS(X:Cx)(st:BN):TS:=λD σ H=>∀ (pins:List (BJ×BM)) (s:BI),Inv X pins σ H s->AG (AF X.prog X.w) X.A (exec st X.env) (SP X pins D) X.xe s
noncomputable def wSs(X:Cx)(sts:List BN):TS:=λD σ H=>∀ (pins:List (BJ×BM)) (s:BI),Inv X pins σ H s->AG (AF X.prog X.w) X.A (execs sts X.env) (SP X pins D) X.xe s
noncomputable def wG(X:Cx)(tg:Expr):TG:=λv σ H Q=>∀ (pins:List (BJ×BM)) (s:BI) (u:BH),Inv X pins σ H s->RelV v u->
  AG (AF X.prog X.w) X.A (assign tg X.env u) (λ_ s'=>∃σ' H',Inv X pins σ' H' s'/\Q σ' H') X.xe s
noncomputable def wI(X:Cx)(tg iter:Expr):TI:=λσ H R=>∀ (pins:List (BJ×BM)) (s:BI),Inv X pins σ H s->
  AG (AF X.prog X.w) X.A (eval iter X.env) (λv s1=>AG (AF X.prog X.w) X.A (pyIter v) (PIE X pins σ tg R) X.xe s1) X.xe s
variable {e:Expr}{es:List Expr}{st:BN}{sts:List BN}{tg iter:Expr}{σ:St}{H:Hp}
theorem gI:PE X e (wE X e):=λpins s _ _ _ I h=>h pins s I
theorem aKj:PT X e (wT X e):=λpins s _ _ _ I h=>h pins s I
theorem aNb:PW X e (wW X e):=λw pins s _ _ _ I h=>h w pins s I
theorem aFE:PA X es (wA X es):=λpos pins s _ _ _ I h=>h pos pins s I
theorem aOT:PS X st (wS X st):=λpins s _ _ _ I h=>h pins s I
theorem wX:PSs X sts (wSs X sts):=λpins s _ _ _ I h=>h pins s I
theorem aNj:PG X tg (wG X tg):=λpins s _ _ _ u _ I r h=>h pins s u I r
theorem aOs:PI X tg iter (wI X tg iter):=λpins s _ _ _ I h=>h pins s I
theorem PE.to{t:TE}{Q:VK}(h:PE X e t)(q:t σ H Q):wE X e σ H Q:=λpins s I=>h pins s σ H Q I q
theorem PT.to{t:TT}{Q:Bool->Hp->Prop}(h:PT X e t)(q:t σ H Q):wT X e σ H Q:=λpins s I=>h pins s σ H Q I q
theorem PW.to{t:TT}{Q:Bool->Hp->Prop}(h:PW X e t)(q:t σ H Q):wW X e σ H Q:=λw pins s I=>h w pins s σ H Q I q
theorem PA.to{t:TA}{Q:List V->Hp->Prop}(h:PA X es t)(q:t σ H Q):wA X es σ H Q:=λpos pins s I=>h pos pins s σ H Q I q
theorem PS.to{t:TS}{D:xP}(h:PS X st t)(q:t D σ H):wS X st D σ H:=λpins s I=>h pins s σ H D I q
theorem PSs.to{t:TS}{D:xP}(h:PSs X sts t)(q:t D σ H):wSs X sts D σ H:=λpins s I=>h pins s σ H D I q
theorem wE.imp{Q Q':VK}(h:wE X e σ H Q)(k:∀v H',Q v H'->Q' v H'):wE X e σ H Q':=λpins s I=>thn (h pins s I) λu s' ⟨v,H',I',r,q⟩=>⟨v,H',I',r,k v H' q⟩
theorem wT.imp{Q Q':Bool->Hp->Prop}(h:wT X e σ H Q)(k:∀v H',Q v H'->Q' v H'):wT X e σ H Q':=λpins s I=>thn (h pins s I) λu s' ⟨H',I',q⟩=>⟨H',I',k u H' q⟩
theorem wW.imp{Q Q':Bool->Hp->Prop}(h:wW X e σ H Q)(k:∀v H',Q v H'->Q' v H'):wW X e σ H Q':=λw pins s I=>thn (h w pins s I) λu s' ⟨H',I',q⟩=>⟨H',I',k u H' q⟩
theorem wA.imp{Q Q':List V->Hp->Prop}(h:wA X es σ H Q)(k:∀v H',Q v H'->Q' v H'):wA X es σ H Q':=λpos pins s I=>thn (h pos pins s I) λu s' ⟨v,H',I',r,q⟩=>⟨v,H',I',r,k v H' q⟩
theorem SP.imp{pins:List (BJ×BM)}{D D':xP}{f:Flow}{s:BI}(h:SP X pins D f s)(k1:∀σ H,D.nx σ H->D'.nx σ H)(k2:∀v H,D.rt v H->D'.rt v H)(k3:∀σ H,D.bk σ H->D'.bk σ H)(k4:∀σ H,D.ct σ H->D'.ct σ H):SP X pins D' f s:=by
 cases f with
 |next=>obtain⟨σ',H',I,q⟩:=h;exact⟨σ',H',I,k1 _ _ q⟩
 |brk=>obtain⟨σ',H',I,q⟩:=h;exact⟨σ',H',I,k3 _ _ q⟩
 |cont=>obtain⟨σ',H',I,q⟩:=h;exact⟨σ',H',I,k4 _ _ q⟩
 |ret u=>obtain⟨v,σ',H',I,r,q⟩:=h;exact⟨v,σ',H',I,r,k2 _ _ q⟩
theorem wSs.imp{D D':xP}(h:wSs X sts D σ H)(k1:∀σ H,D.nx σ H->D'.nx σ H)(k2:∀v H,D.rt v H->D'.rt v H)(k3:∀σ H,D.bk σ H->D'.bk σ H)(k4:∀σ H,D.ct σ H->D'.ct σ H):wSs X sts D' σ H:=
 λpins s I=>thn (h pins s I) λf s' q=>q.imp k1 k2 k3 k4
theorem wG.imp{v:V}{Q Q':St->Hp->Prop}(h:wG X tg v σ H Q)(k:∀σ' H',Q σ' H'->Q' σ' H'):wG X tg v σ H Q':=λpins s u I r=>thn (h pins s u I r) λ_ s' ⟨σ',H',I',q⟩=>⟨σ',H',I',k _ _ q⟩
variable {pins:List (BJ×BM)}{F:Hp}{s:BI}
theorem HOk.track{h:BL}{a:BJ}{o:HO}(ok:HOk P w H h)(hn:H a=none)(new:ObjOk P w (upd H a o) h a o):HOk P w (upd H a o) h:=λb u e=>by
 by_cases hb:b=a
 ·subst hb;rw[cD] at e;cases e;exact new
 ·rw[bU hb] at e;exact(ok b u e).stay (λ_ _ _ q=>q) (λc q=>by rw[bU<|cA q hn];exact q) λc xs q=>by rw[bU<|cA q hn];exact q
theorem Inv.track{a:BJ}{o:HO}(I:Inv X pins σ H s)(hn:H a=none)(h0:X.s₀.heap.objs.size<=a)(hL:a≠X.env.locals)(hc:∀x c,X.env.cells.lookup x=some c->c≠a)
  (hp:∀p∈X.pn++pins,p.1≠a) (new:ObjOk X.prog X.w (upd H a o) s.heap a o):Inv X pins σ (upd H a o) s:=by
 refine⟨I.ok,I.os,I.bare,⟨I.base.keep,I.base.slot,λb u e n hx=> ?_,I.base.there,λb xs e=> ?_,λb u xs e=> ?_,λb ps e=> ?_⟩,I.loc,I.cell, ?_,λx c e=> ?_,λp hp'=> ?_,I.hok.track hn new,I.len⟩
 ·rw[bU (bQ<|aW (aM e) h0)];exact I.base.free b u e n hx
 ·have q:=I.base.tups b xs e;rw[bU<|cA q hn];exact q
 ·have q:=I.base.frzs b u xs e;rw[bU<|cA q hn];exact q
 ·obtain⟨m,q⟩:=I.base.tbls b ps e;exact⟨m,by rw[bU<|cA q hn];exact q⟩
 ·rw[bU<|Ne.symm hL];exact I.free
 ·rw[bU<|hc x c e];exact I.freeC x c e
 ·obtain⟨e,n,r⟩:=I.pin p hp';exact⟨e,by rw[bU<|hp p hp'];exact n,r⟩
noncomputable def aNi:HO->Prop
 |.lst _=>True
 |.tup _=>True
 |.dK _=>True
 |.frz _ (.lst _)=>True
 |.frz _ (.dK _)=>True
 |.ext _=>True
 |_=>False
def Smp(H:Hp):Prop:=∀b o,H b=some o->aNi o
theorem ObjOk.smp{h:BL}{a:BJ}{o:HO}(z:aNi o)(x:ObjOk P w H h a o):ObjOk P w F h a o:=by
 cases o with
 |lst xs=>exact x
 |tup xs=>exact x
 |dK kvs=>exact x
 |frz ob u=>cases u with
  |lst xs=>exact x
  |dK kvs=>exact x
  |_=>exact absurd z λq=>q
 |ext φ=>exact x
 |_=>exact absurd z λq=>q
theorem Smp.sub(h:Smp H)(s:Same F H):Smp F:=λb o e=>h b o<|s b o e
theorem Inv.less(I:Inv X pins σ H s)(hF:Same F H)(h0:Same X.B₀ F)(hs:Smp F):Inv X pins σ F s:=by
 refine⟨I.ok,I.os,I.bare,⟨I.base.keep,I.base.slot,λb u e n hx=>hF.free<|I.base.free b u e n hx,I.base.there,λb xs e=>h0 _ _<|X.hB _ _ e trivial,λb u xs e=>h0 _ _<|X.hB _ _ e trivial,λb ps e=>⟨#[], ?_⟩⟩,I.loc,I.cell,hF.free I.free,λx c e=>hF.free<|I.freeC x c e,λp hp=> ?_,λb o e=>(I.hok b o<|hF b o e).smp<|hs b o e,I.len⟩
 ·have q:=h0 _ _<|X.hB _ _ e trivial;rw[q];simp
 ·obtain⟨e,n,r⟩:=I.pin p hp;exact⟨e,hF.free n,r⟩
noncomputable def clo(cells:List (Str×BJ)):List (Str×NameKind)->List (Str×BJ)->List (Str×BJ)
 |[],cs=>cs
 |(n,k)::r,cs=>clo cells r (if(k==NameKind.free)=true then(n,(cells.lookup n).getD 0)::cs else cs)
theorem rN{env:Env}:∀ (names:List (Str×NameKind)) (cs:List (Str×BJ)),(∀y∈names,y.2=.free->∃c,env.cells.lookup y.1=some c)->
  (forIn names cs (λ(x:Str×NameKind) (r:List (Str×BJ))=>if(x.2==NameKind.free)=true then(do let c <-cellOf env x.1;pure (ForInStep.yield ((x.1,c)::r))) else pure (ForInStep.yield r)):Sem (List<|Str×BJ))=pure (clo env.cells names cs)
 |[],cs,_=>rfl
 |(n,k)::r,cs,h=>by
  rw[jS]
  by_cases hk:(k==NameKind.free)=true
  ·obtain⟨c,hc⟩:=h (n,k) aK (by simpa using hk)
   have e:cellOf env n=pure c:=by unfold cellOf;have hc':env.cells.lookup n=some c:=hc;rw[hc']
   simp only[hk,if_true,e,pure_bind,clo];have hc':env.cells.lookup n=some c:=hc;rw[hc'];exact rN r _ λy hy=>h y<|aO _ hy
  ·simp only[hk,aF,if_false,pure_bind,clo];exact rN r _ λy hy=>h y<|aO _ hy
theorem oR{env:Env}{scope:Scope}(h:∀y∈scope.names,y.2=.free->∃c,env.cells.lookup y.1=some c):closureFor scope env=pure (clo env.cells scope.names []):=by simp only[closureFor];have e:=rN (env:=env) scope.names [] h;simp only[bind_pure] ;exact e
theorem aCh(cells:List (Str×BJ)):∀ (names:List (Str×NameKind)) (cs:List (Str×BJ)) (x:Str) (c:BJ),(clo cells names cs).lookup x=some c->cs.lookup x=some c\/((x,NameKind.free)∈names/\c=(cells.lookup x).getD 0)
 |[],cs,x,c,h=>.inl h
 |(n,k)::r,cs,x,c,h=>by
  rcases aCh cells r _ x c h with q|⟨q1,q2⟩
  ·by_cases hk:(k==NameKind.free)=true
   ·rw[if_pos hk,eR] at q;have ek:k=.free:=by simpa using hk
    by_cases hx:(x==n)=true
    ·simp only[hx] at q;have e:x=n:=by simpa using hx
     subst e;exact .inr ⟨by rw[ek];exact aK,(bT.inj q).symm⟩
    ·have hx':(x==n)=false:=by simpa using hx
     simp only[hx'] at q;exact .inl q
   ·rw[if_neg hk] at q;exact .inl q
  ·exact .inr ⟨aO _ q1,q2⟩
theorem aDF(cells:List (Str×BJ)):∀ (names:List (Str×NameKind)) (cs:List (Str×BJ)) (x:Str),(x,NameKind.free)∈names\/(∃c,cs.lookup x=some c)->∃c,(clo cells names cs).lookup x=some c
 |[],cs,x,h=>h.elim (λz=>nomatch z) λz=>z
 |(n,k)::r,cs,x,h=>by
  refine aDF cells r _ x ?_
  by_cases hk:(k==NameKind.free)=true
  ·rw[if_pos hk]
   by_cases hx:(x==n)=true
   ·exact .inr ⟨(cells.lookup n).getD 0,by rw[eR];simp only[hx]⟩
   ·have hx':(x==n)=false:=by simpa using hx
    rcases h with q|⟨c,q⟩
    ·rcases aV.mp q with z|z
     ·cases z;exact absurd (by simp) hx
     ·exact .inl z
    ·exact .inr ⟨c,by rw[eR];simp only[hx'];exact q⟩
  ·rw[if_neg hk]
   rcases h with q|q
   ·rcases aV.mp q with z|z
    ·cases z;exact absurd rfl hk
    ·exact .inl z
   ·exact .inr q
theorem sN{env:Env}:∀ {names:List (Str × NameKind)} {x:Str},((names.map fun (n,k)=>if (k==NameKind.free && env.scope.kind== .function && env.kindOf n==some .cell) then (n,NameKind.cell) else (n,k)).lookup x=some .cell∨
   (names.map λ(n,k)=>if(k==NameKind.free&&env.scope.kind==.function&&env.kindOf n==some .cell) then(n,NameKind.cell) else(n,k)).lookup x=some .free)->names.lookup x=some .cell\/names.lookup x=some .free
 |[],x,h=>by simp at h
 |(n,k)::r,x,h=>by
  have ih:= @sN env r x;rw[aR] at h;rw[eR]
  by_cases hc:(k==NameKind.free&&env.scope.kind==.function&&env.kindOf n==some .cell)=true
  ·simp only[hc,if_true,eR] at h;cases hx:x==n with
   |true=>
    have hk:k=.free:=by have:=hc;simp only[bH,beq_iff_eq] at this;exact this.1.1
    exact .inr (by rw[hk])
   |false=>simp only[hx] at h ⊢;exact ih h
  ·have hc':(k==NameKind.free&&env.scope.kind==.function&&env.kindOf n==some .cell)=false:=by simpa using hc
   simp only[hc',aF,if_false,eR] at h;cases hx:x==n with
   |true=>simp only[hx] at h ⊢;exact h
   |false=>simp only[hx] at h ⊢;exact ih h
theorem aES{prog:AI}{A:BK}{R:Result->BI->Prop}{elt target:Expr}{ifs:List Expr}{scope:Scope}{pos:Pos}{it acc:BH}{env:Env}(Ξ:BH->BI->Prop)(hΞ:∀e s,Ξ e s->notedBy (AF prog w) A env (λe s'=>R (.error e) s') e s)(J:Nat->BI->Prop)
  (turn:∀n s,J n s→AG (AF prog w) A (pyNext it) (fun r s₁=>match r with
   |none=>R (.ok .next) s₁
   | some v=>AG (AF prog w) A (letOwnedTupleGo target it v) (fun _ s₂=>AG (AF prog w) A (assign target env v) (fun _ s₃=>
     AG (AF prog w) A (forIn ifs true fun c r=>if r=true then do let ok ← isTrue c env (eval c env); pure (ForInStep.yield ok) else pure (ForInStep.yield r)) (fun ok s₄=>
      if ok=true then AG (AF prog w) A (eval elt env) (λx s₅=>AG (AF prog w) A (call (.builtin "list.append") [acc,x]) (λ_ s₆=>∃m,m<n/\J m s₆) Ξ s₅) Ξ s₄
      else ∃m,m<n/\J m s₄) Ξ s₃) Ξ s₂) Ξ s₁) Ξ s)
  (n:Nat) (h:J n s):codeAny (AF prog w) A (.compLoop (.ListComp elt [⟨target,iter,ifs,0⟩] scope pos) 0 it acc env) R s:=by
 refine codeAny_loop rfl J (λn s hI=> ?_) n h;show AG _ A ((compTurn (.ListComp elt [⟨target,iter,ifs,0⟩] scope pos) 0 it acc env).onRaise λx=>do noteFrame x env;theTreesLotGoes x) _ _ s;refine wpAny_noted ?_;rw[compTurn_list];refine AA<|wpAny_standAt (AA<|AW (turn n s hI) (λr s₁ h₁=> ?_) λe s z=>hΞ e s z);cases r with
 |none=>exact AB h₁
 |some v=>
  refine AA<|AW h₁ (λ_ s₂ h₂=> ?_) λe s z=>hΞ e s z;refine AA<|AW h₂ (λ_ s₃ h₃=> ?_) λe s z=>hΞ e s z;refine AA<|AW h₃ (λok s₄ h₄=> ?_) λe s z=>hΞ e s z;cases ok with
  |false=>exact AB ⟨rfl,h₄⟩
  |true=>exact AA (AA<|AW h₄ (λx s₅ h₅=>AA<|AW h₅ (λ_ s₆ h₆=>AB<|AB ⟨rfl,h₆⟩) λe s z=>hΞ e s z) λe s z=>hΞ e s z)
noncomputable def aKm(X:Cx)(ifs:List Expr):TT:=λσ H Q=>∀ (pins:List (BJ×BM)) (s:BI),Inv X pins σ H s->
 AG (AF X.prog X.w) X.A (forIn ifs true λc r=>if r=true then do let ok <-isTrue c X.env (eval c X.env);pure (ForInStep.yield ok) else pure (ForInStep.yield r)) (TP X pins σ Q) X.xe s
theorem sJ{Q:Bool->Hp->Prop}(h:Q true H):aKm X [] σ H Q:=λ_ _ I=>wpAny_tests_nil ⟨H,I,h⟩
theorem xT{c:Expr}{Q:Bool->Hp->Prop}(h:wT X c σ H Q):aKm X [c] σ H Q:=λpins s I=>wpAny_tests_one<|h pins s I
noncomputable def cxB(X:Cx)(N:List Str)(scope:Scope)(cl:List (Str×BJ))(C:BJ)(ex:List BJ)(s:BI)(H:Hp):Cx:=
 {prog:=X.prog,w:=X.w,K:=X.K,mg:=X.mg,base:=X.base,A:=X.A,N:=N,s₀:=s,H₀:=H,env:=compEnvC scope cl C X.env,outer:=X.stack,stack:=X.stack,ex:=ex,fn:=λ_=>false,calm:=true,pn:=[],xe:=λ_ _=>False}
noncomputable def kH(X:Cx)(N:List Str)(scope:Scope)(cl:List (Str×BJ))(C:BJ)(ex:List BJ)(s:BI)(H:Hp)(ξ:BH->BI->Prop):Cx:={cxB X N scope cl C ex s H with xe:=ξ}
noncomputable def uA(cap:List (Option Nat))(σ:St):St:=cap.map λo=>o.bind λk=>(σ[k]?).join
noncomputable def mE(scope sc:Scope):Bool:=scope.names.all λy=>(!(y.2==NameKind.free)||sc.names.lookup y.1==some NameKind.cell)&&!(y.2==NameKind.cell)&&(!(y.2==NameKind.local)||scope.names.lookup y.1==some NameKind.local)
noncomputable def lC(N M:List Str)(scope sc:Scope)(cap:List (Option Nat)):Bool:=cap.length==N.length&&(cap.zip N).all λy=>match y.1 with
 |none=>true
 |some k=>M[k]? ==some y.2&&sc.names.lookup y.2==some NameKind.cell&&scope.names.lookup y.2==some NameKind.free
theorem jB{env:Env}(hf:env.scope.kind=.function):∀ {names:List (Str×NameKind)}{x:Str},names.lookup x=some .free->env.kindOf x=some .cell->
  (names.map λ(n,k)=>if(k==NameKind.free&&env.scope.kind==.function&&env.kindOf n==some .cell) then(n,NameKind.cell) else(n,k)).lookup x=some .cell
 |[],x,h,_=>by simp at h
 |(n,k)::r,x,h,hc=>by
  rw[aR];cases hx:x==n with
  |true=>
   have e:x=n:=by simpa using hx
   subst e;rw[eR] at h;simp only[beq_self_eq_true] at h;have ek:k=.free:=bT.inj h;subst ek;have hb:(NameKind.free==NameKind.free&&env.scope.kind==.function&&env.kindOf x==some .cell)=true:=by rw[hf,hc];rfl
   show List.lookup x ((if(NameKind.free==NameKind.free&&env.scope.kind==.function&&env.kindOf x==some .cell)=true then(x,NameKind.cell) else(x,NameKind.free))::_)=_;rw[if_pos hb,eR];simp only[beq_self_eq_true]
  |false=>
   rw[eR] at h;simp only[hx] at h;have ih:=jB hf (names:=r) h hc
   by_cases hb:(k==NameKind.free&&env.scope.kind==.function&&env.kindOf n==some .cell)=true
   ·simp only[hb,if_true,eR,hx];exact ih
   ·have hb':(k==NameKind.free&&env.scope.kind==.function&&env.kindOf n==some .cell)=false:=by simpa using hb
    simp only[hb',aF,if_false,eR,hx];exact ih
theorem Inv.low(I:Inv X pins σ H s):∀b∈frs X.stack,b<s.heap.objs.size:=λb hb=>by obtain⟨_,o,ho,_⟩:=I.stack.mem hb;exact aM ho
theorem aAf{elt:Expr}{ifs:List Expr}{scope:Scope}{pos:Pos}{N:List Str}{cap:List (Option Nat)}{g:TG}{tt:TT}{te:TE}{J:It}{fp:List BJ}{it:BJ}{tn:Nat->BL->Prop}{E:BH->BI->Prop}{sc:Scope}(ξ:List (Str×BJ)->BJ->BH->BI->Prop)(ξ':List (Str×BJ)->BJ->BH->Hp->BI->Prop)
  (hc:X.calm=true) (hsc:X.env.scope=sc) (hcn:mE scope sc=true) (hcap:lC N X.N scope sc cap=true) (hk:scope.kind=.function)
  (I:Inv X pins σ H s) (T:aHh X.prog X.w X.K tg J fp it tn) (st:tn 0 s.heap) (hfp:∀b∈fp,uF X pins H b)
  (hg:∀cl C,PG (kH X N scope cl C fp s H<|ξ cl C) tg g) (ht:∀cl C pi s2 σ2 H2 Q,Inv (kH X N scope cl C fp s H<|ξ cl C) pi σ2 H2 s2->tt σ2 H2 Q->AG (AF X.prog X.w) X.A (forIn ifs true λc r=>if r=true then do let ok <-isTrue c (compEnvC scope cl C X.env) (eval c<|compEnvC scope cl C X.env);pure (ForInStep.yield ok) else pure (ForInStep.yield r)) (TP (kH X N scope cl C fp s H<|ξ cl C) pi σ2 Q) (ξ cl C) s2)
  (he:∀cl C,PE (kH X N scope cl C fp s H<|ξ cl C) elt te) (W:Nat->Nat->List V->St->Hp->Prop) (m0:Nat) (w0:W 0 m0 [] (uA cap σ) H)
  (RR:BH->BJ->Result->BI->Prop)
  (hξ:∀cl C e s',ξ cl C e s'->∃pi σb H',Inv (kH X N scope cl C fp s H<|ξ cl C) pi σb H' s'/\ξ' cl C e H' s')
  (hx:∀cl D C e H' s',ξ' cl C e H' s'->H' C=none->X.s₀.heap.objs.size<=C->C≠X.env.locals->(∀x c,X.env.cells.lookup x=some c->c≠C)->(∀p∈X.pn++pins,p.1≠C)->C∉frs X.stack->(∃m,s'.heap.Ns C m)->Inv X pins σ H' s'->notedBy (AF X.prog X.w) X.A (compEnvC scope cl C X.env) (λe s''=>RR (.ref D) C (.error e) s'') e s')
  (turn:∀i m ys σb H2,W i m ys σb H2→
   (J.stop i H2/\∀D C s',H2 D=none->H2 C=none->D≠C->X.s₀.heap.objs.size<=C->C≠X.env.locals->(∀x c,X.env.cells.lookup x=some c->c≠C)->(∀p∈X.pn++pins,p.1≠C)->C∉frs X.stack->(∃m,s'.heap.Ns C m)->Inv X pins σ (upd H2 D<|.lst ys) s'->RR (.ref D) C (.ok .next) s')\/
   (J.go i H2∧ys.length<AN∧∃Nx:List V→St→Hp→Prop,(∀ys' σ' H',Nx ys' σ' H'→∃m',m'<m∧W (i+1) m' ys' σ' H')∧
    ∀x H',J.yld i H2 x H'->g x σb H' λσ2 H3=>tt σ2 H3 λb H4=>if b=true then te σ2 H4 λv H5=>Nx (ys++[v]) σ2 H5 else Nx ys σ2 H4)):
  AG (AF X.prog X.w) X.A (newList []) (fun acc s₃=>AG (AF X.prog X.w) X.A (newFunctionEnv scope X.env.globals (clo X.env.cells scope.names []) [] X.env.qual none .none (some X.env)) (fun cenv s₄=>
   codeAny (AF X.prog X.w) X.A (.compStart (.ListComp elt [⟨tg,iter,ifs,0⟩] scope pos) 0 (.ref it) acc {cenv with scope:=relabel scope X.env}) (RR acc cenv.locals) s₄) E s₃) E s:=by
 have nm:∀y∈scope.names,(y.2=NameKind.free->sc.names.lookup y.1=some NameKind.cell)/\y.2≠NameKind.cell/\(y.2=NameKind.local->scope.names.lookup y.1=some NameKind.local):=λy hy=>by have q:=bN.mp hcn y hy;simp only[bH,jT,iO,beq_eq_false_iff_ne,ne_eq,beq_iff_eq] at q;exact⟨λe=>q.1.1.resolve_left λz=>z e,q.1.2,λe=>q.2.resolve_left λz=>z e⟩
 have fre:∀y∈scope.names,y.2=.free->∃c,X.env.cells.lookup y.1=some c:=λy hy e=>I.ok.has y.1 (.inl<|by show X.env.scope.names.lookup y.1=_;rw[hsc];exact(nm y hy).1 e)
 generalize hcl:clo X.env.cells scope.names []=cl
 have csub:∀x c,cl.lookup x=some c->X.env.cells.lookup x=some c:=λx c e=>by
  rw[<-hcl] at e
  rcases aCh _ _ _ _ _ e with z|⟨z1,z2⟩
  ·simp at z
  ·obtain⟨c',q⟩:=fre _ z1 rfl;rw[q] at z2;rw[q,z2];rfl
 have chas:∀x,((relabel scope X.env).names.lookup x=some .cell\/(relabel scope X.env).names.lookup x=some .free)->∃c,cl.lookup x=some c:=λx e=>by
  rcases sN e with z|z
  ·exact absurd rfl (nm _<|PySem.mem_of_lookup z).2.1
  ·rw[<-hcl];exact aDF _ _ _ _ (.inl<|PySem.mem_of_lookup z)
 have cexi:∀x c,cl.lookup x=some c->c<s.heap.objs.size:=λx c e=>by obtain⟨v,o,ho,_⟩:=I.cell x c<|csub x c e;exact aM ho
 have cexX:∀x c,X.env.cells.lookup x=some c->c<s.heap.objs.size:=λx c e=>by obtain⟨v,o,ho,_⟩:=I.cell x c e;exact aM ho
 have pexX:∀p∈X.pn++pins,p.1<s.heap.objs.size:=λp hp=>aM (I.pin p hp).1
 have flow:∀b∈fp,b<s.heap.objs.size:=λb hb=>by obtain⟨o,ho,_⟩:=T.obj 0 _ st b hb;exact aM ho
 have fstk:∀b∈fp,b∉frs X.stack:=λb hb z=>by
  obtain⟨_,f1,f2,_⟩:=hfp b hb
  rcases aV.mp (I.stkSub b z) with q|q
  ·exact f1 q
  ·exact f2 q
 have hkr:(relabel scope X.env).kind=.function:=hk;refine Ah<|wpAny_newFunctionEnv (λy hy=>(nm y hy).2.1) (by intro y hy;simp at hy) (λh₁ hns₁ hsb₁=> ?_) hk;dsimp only at hns₁ hsb₁ ⊢;generalize hH2:s.heap.push {cls:=.type "list",dict:=none,data:=.seq ([]:List BH).toArray}=G2 at hns₁ hsb₁ ⊢;have hC:G2.objs.size=s.heap.objs.size+1:=by rw[<-hH2,kF]
 have hDC:s.heap.objs.size≠G2.objs.size:=by rw[hC];exact bQ<|pO _
 have hCle:s.heap.objs.size<=G2.objs.size:=by rw[hC];exact aGZ _
 have neC:∀b,b<s.heap.objs.size->b≠G2.objs.size:=λb hb=>by rw[hC];exact bQ<|aKf hb
 have old:∀b o,s.heap.get? b=some o->h₁.get? b=some o:=λb o e=>hsb₁.extBut b o (neC b<|aM e) (aE _<|hH2▸aE _ e)
 have hacc:h₁.get? s.heap.objs.size=some {cls:=.type "list",dict:=none,data:=.seq ([]:List BH).toArray}:=hsb₁.extBut _ _ hDC (aE _<|hH2▸bE _ rfl);have env_eq:({newEnv scope G2.objs.size X.env.globals cl X.env.qual none .none (some X.env) 0 with scope:=relabel scope X.env}:Env)=compEnvC scope cl G2.objs.size X.env:=rfl;generalize hDD:s.heap.objs.size=D at *;generalize hCC:G2.objs.size=C at *
 have okX:(kH X N scope cl C fp s H<|ξ cl C).Ok:=by
  refine⟨I.mod,hkr,I.ok.glob,I.ok.blt, ?_,λx y c a b=>I.ok.inj x y c (csub x c a)<|csub y c b,chas,(λx c z=>nomatch z),λ_=>I.ok.hd hc,I.ok.frames,.inl rfl,λb hb=>⟨neC b<|flow b hb,λx c e=>(hfp b hb).2.2.2.2.1 x c<|csub x c e⟩,I.bs, ?_,λb o e hb=> ?_,fstk,I.stack,I.stkFree⟩
  ·show s.heap.objs.size<=C;rw[hDD];exact hCle
  ·exact cP I.ok.bsz I.sz
  ·rcases(hfp b hb).2.2.2.1 with z|z
   ·exact I.ok.noex b o e z
   ·exact absurd (aW (aM e)<|cP I.ok.bsz z)<|cQ _
 have capE:∀ (i:Nat) (x:Str) (v:V),N[i]? =some x->(uA cap σ)[i]? =some (some v)->∃k:Nat,X.N[k]? =some x/\σ[k]? =some (some v)/\sc.names.lookup x=some .cell/\scope.names.lookup x=some .free:=λi x v e1 e2=>by
  unfold lC at hcap;rw[bH] at hcap;unfold uA at e2;rw[bL] at e2;cases q:cap[i]? with
  |none=>rw[q] at e2;cases e2
  |some o=>
   rw[q] at e2;have e2:(o.bind λk=>(σ[k]?).join)=some v:=bT.inj e2;cases o with
   |none=>cases e2
   |some k=>
    have e2:(σ[k]?).join=some v:=e2
    have mz:(some k,x)∈cap.zip N:=by refine cU (i:=i) ?_;rw[aAy];exact⟨q,e1⟩
    have z:=bN.mp hcap.2 _ mz;simp only[bH,beq_iff_eq] at z;refine⟨k,z.1.1, ?_,z.1.2,z.2⟩;cases w:σ[k]? with
    |none=>rw[w] at e2;cases e2
    |some o'=>rw[w] at e2;have e2:o'=some v:=e2;rw[e2]
 have I0:Inv (kH X N scope cl C fp s H<|ξ cl C) [(D,{cls:=.type "list",dict:=none,data:=.seq ([]:List BH).toArray})] (uA cap σ) H {s with heap:=h₁,toks:=s.toks+([]:List (Str×BH)).length}:=by
  have dfree:H D=none:=I.hok.fresh<|aFu hDD;refine⟨okX,rfl,I.bare,Un.kept old,⟨_,hns₁,λi x v e1 e2 e3=> ?_⟩,λx c e=> ?_,I.hok.fresh (by rw[hDD];exact hCle),λx c e=>I.freeC x c<|csub x c e,λp hp=> ?_,I.hok.kept old, ?_⟩
  ·obtain⟨k,q1,q2,q3,q4⟩:=capE i x v e1 e2;have q3':X.env.scope.names.lookup x=some .cell:=by rw[hsc];exact q3
   obtain⟨m,_,hl⟩:=I.loc;obtain⟨u,ru,lk⟩:=hl k x v q1 q2 (.inr<|.inl q3');refine⟨u,ru,.inr ⟨.inl<|jB I.ok.kind q4 q3', ?_⟩⟩
   rcases lk with⟨z,_⟩|⟨_,c,z,ic⟩
   ·have z':X.env.scope.names.lookup x=some .local:=z;rw[q3'] at z';cases z'
   ·obtain⟨c',hc'⟩:=chas x (.inl<|jB I.ok.kind q4 q3');have:=csub x c' hc';rw[z] at this;have ec:c=c':=bT.inj this;subst ec;obtain⟨o,ho,hd⟩:=ic;exact⟨c,hc',o,old c o ho,hd⟩
  ·obtain⟨v,o,ho,hd⟩:=I.cell x c<|csub x c e;exact⟨v,o,old c o ho,hd⟩
  ·have hp':p=(D,{cls:=.type "list",dict:=none,data:=.seq ([]:List BH).toArray}):=by simpa[kH,cxB] using hp
   subst hp';refine⟨hacc,dfree,hDC,λz=> ?_,λv z=>by cases z⟩;have:=I.low D z;rw[hDD] at this;exact cQ _ this
  ·show(uA cap σ).length=N.length;unfold lC at hcap;rw[bH] at hcap;unfold uA;rw[aA];simpa using hcap.1
 have dlow:∀b,b<D->b≠D:=λb hb=>bQ hb
 have loop:∀s₃:BI,s₃={s with heap:=h₁,toks:=s.toks+([]:List (Str×BH)).length}->
   codeAny (AF X.prog X.w) X.A (.compLoop (.ListComp elt [⟨tg,iter,ifs,0⟩] scope pos) 0 (.ref it) (.ref D)<|compEnvC scope cl C X.env) (RR (.ref D) C) s₃:=by
  rintro s₃ rfl
  refine aES (ξ cl C) (λe s' z=> ?_) (λn s'=>∃ (i:Nat) (ys:List V) (σb:St) (H2:Hp) (its:List BH) (nn:Nat),Inv (kH X N scope cl C fp s H<|ξ cl C) [(D,{cls:=.type "list",dict:=none,data:=.seq its.toArray nn})] σb H2 s'/\tn i s'.heap/\(∀b∈fp,H2 b=none)/\Vals ys its/\ys.length<=AN/\W i n ys σb H2) ?_ m0
   ⟨0,[],uA cap σ,H,[],0,I0,T.keep 0 _ _ st λb hb o e=>old b o e,λb hb=>(hfp b hb).1,.nil,bI _,w0⟩
  ·obtain⟨pi,σb,H',I',z'⟩:=hξ cl C e s' z;obtain⟨m4,ns4,_⟩:=id I'.loc;have J0:Inv X pins σ H' s':=I.call' (ch:=fp) I'.os I'.base I'.hok I'.bare λb hb=>⟨(hfp b hb).2.2.2.1,(hfp b hb).2.1,(hfp b hb).2.2.2.2.1,(hfp b hb).2.2.2.2.2⟩
   have hLD:X.env.locals<D:=by rw[<-hDD];exact I.lt
   exact hx cl D C e H' s' z' I'.free (cP I.sz<|by rw[hDD];exact hCle) (gG<|aW hLD hCle) (λx c e=>neC c<|cexX x c e) (λp hp=>neC _<|pexX p hp) (λz=>absurd (I.low C z)<|by rw[hDD];exact uI.mpr hCle) ⟨m4,ns4⟩ J0
  rintro n s3 ⟨i,ys,σ3,H3,its,nn,I3,st3,fr3,rv3,hlen,w3⟩
  have fpX:∀ {H':Hp}{its':List BH}{nn':Nat},(∀b∈fp,H' b=none)->∀b∈fp,uF (kH X N scope cl C fp s H<|ξ cl C) [(D,{cls:=.type "list",dict:=none,data:=.seq its'.toArray nn'})] H' b:=λ{H' its' nn'} hn b hb=>by
   refine⟨hn b hb,neC b<|flow b hb,fstk b hb,.inl hb,λx c e=>(hfp b hb).2.2.2.2.1 x c<|csub x c e,λp hp=> ?_⟩
   have hp':p.1=D:=by have q:p∈([]:List (BJ×BM))++[(D,{cls:=.type "list",dict:=none,data:=.seq its'.toArray nn'})]:=hp;rw[qH,bA] at q;rw[q]
   rw[hp'];exact Ne.symm (dlow b<|flow b hb)
  rcases turn i n ys σ3 H3 w3 with⟨stop,fin⟩|⟨go,hsz,Nx,hN,step⟩
  ·refine thn (T.done (kH X N scope cl C fp s H<|ξ cl C) rfl rfl rfl rfl i _ s3 σ3 H3 (ξ cl C) I3 (fpX fr3) st3 stop) λr s4 ⟨hr,I4⟩=> ?_
   subst hr;obtain⟨m4,ns4,_⟩:=id I4.loc;have J0:Inv X pins σ H3 s4:=I.call' (ch:=fp) I4.os I4.base I4.hok I4.bare λb hb=>⟨(hfp b hb).2.2.2.1,(hfp b hb).2.1,(hfp b hb).2.2.2.2.1,(hfp b hb).2.2.2.2.2⟩
   obtain⟨pd,pn,_⟩:=I4.pin (D,_)<|aC _ aK;have hLD:X.env.locals<D:=by rw[<-hDD];exact I.lt
   refine fin D C s4 pn I4.free hDC (cP I.sz<|by rw[hDD];exact hCle) (gG<|aW hLD hCle) (λx c e=>neC c<|cexX x c e) (λp hp=>neC _<|pexX p hp) (λz=>absurd (I.low C z)<|by rw[hDD];exact uI.mpr hCle) ⟨m4,ns4⟩ ?_;refine J0.track pn (by rw[<-hDD];exact I.sz) (gG hLD) (λx c e=>dlow c<|cexX x c e) (λp hp=>dlow _<|pexX p hp) ?_;exact⟨hlen,its,nn,rv3,pd⟩
  ·refine thn (T.item (kH X N scope cl C fp s H<|ξ cl C) rfl rfl rfl rfl i _ s3 σ3 H3 (ξ cl C) I3 (fpX fr3) st3 go) λr s4 ⟨u,hr,h4⟩=> ?_
   subst hr;refine thn h4 λ_ s5 ⟨x,H5,I5,r5,y5,st5,fr5⟩=> ?_
   have I5':=I5.pinned (fpX fr5)<|T.obj _ _ st5;refine thn (hg cl C _ s5 σ3 H5 x u _ I5' r5<|step x H5 y5) λ_ s6 ⟨σ6,H6,I6,q6⟩=> ?_
   refine thn (ht cl C _ s6 σ6 H6 _ I6 q6) λb s7 ⟨H7,I7,q7⟩=> ?_
   have tnK:∀ {σ7:St}{H7:Hp}{s7:BI},Inv (kH X N scope cl C fp s H<|ξ cl C) ([(D,{cls:=.type "list",dict:=none,data:=.seq its.toArray nn})]++lK fp s5.heap) σ7 H7 s7->tn (i+1) s7.heap/\∀b∈fp,H7 b=none:=λ{σ7 H7 s7} I7=>by refine⟨T.keep _ _ _ st5 λb hb o e=>(I7.pin (b,o)<|aC _ (aC _<|iL hb e)).1,λb hb=> ?_⟩;obtain⟨o,e,d⟩:=T.obj _ _ st5 b hb;exact(I7.pin (b,o)<|aC _ (aC _<|iL hb e)).2.1
   cases b with
   |false=>have q7':Nx ys σ6 H7:=q7;obtain⟨m',hm,w7⟩:=hN _ _ _ q7';obtain⟨t7,f7⟩:=tnK I7;exact⟨m',hm,i+1,ys,σ6,H7,its,nn,I7.unpinned,t7,f7,rv3,hlen,w7⟩
   |true=>
    have q7':te σ6 H7 λv H5=>Nx (ys++[v]) σ6 H5:=q7
    refine thn (he cl C _ s7 σ6 H7 _ I7 q7') λy s8 ⟨v,H8,I8,r8,q8⟩=> ?_
    obtain⟨m',hm,w8⟩:=hN _ _ _ q8;obtain⟨pd,pn,pL,pf,pc⟩:=I8.pin (D,{cls:=.type "list",dict:=none,data:=.seq its.toArray nn}) (aC _<|aU _ aK);have hits:its.length=ys.length:=rv3.length.symm;refine wpAny_list_append_plain (items:=its.toArray) ⟨nn,pd⟩ (λh9 pl9 sb9=> ?_) (by rw[aQ,hits];exact cZ hsz);obtain⟨n9,e9⟩:=pl9
    have e9':h9.get? D=some {cls:=.type "list",dict:=none,data:=.seq (its++[y]).toArray n9}:=by rw[e9];simp
    have I8':Inv (kH X N scope cl C fp s H<|ξ cl C) (lK fp s5.heap) σ6 H8 s8:=I8.pins_of λp hp=>I8.pin p (aC _<|aC _ hp)
    have I9:Inv (kH X N scope cl C fp s H<|ξ cl C) (lK fp s5.heap) σ6 H8 {s8 with heap:=h9,toks:=s8.toks}:=I8'.turned (it:=D) (λb o hb e=>sb9.extBut b o hb e) pn hDC (.inr<|by rw[<-hDD];exact aG _) (λx c e=>dlow c<|cexi x c e) λp hp=>by
     have hp':p∈lK fp s5.heap:=by simpa[kH,cxB] using hp
     exact dlow _<|flow _ (qR hp').1
    have tn9:tn (i+1) h9:=T.keep _ _ _ st5 λb hb o e=>(I9.pin (b,o) (aC _<|iL hb e)).1
    have fr9:∀b∈fp,H8 b=none:=λb hb=>by obtain⟨o,e,d⟩:=T.obj _ _ st5 b hb;exact(I9.pin (b,o) (aC _<|iL hb e)).2.1
    refine⟨m',hm,i+1,ys++[v],σ6,H8,its++[y],n9,I9.pins_of λp hp=> ?_,tn9,fr9,Vals.append rv3<|.cons r8 .nil,by rw[bR];exact hsz,w8⟩;have hp':p=(D,{cls:=.type "list",dict:=none,data:=.seq (its++[y]).toArray n9}):=bA.mp hp;subst hp';exact⟨e9',pn,pL,pf,λv z=>by cases z⟩
 exact codeAny_compStart_list (loop _ rfl) (T.self _ 0 _ _ _ (T.keep 0 _ _ st λb hb o e=>old b o e)<|loop _ rfl)
theorem wK{elt:Expr}{ifs:List Expr}{scope:Scope}{pos:Pos}{N:List Str}{cap:List (Option Nat)}{g:TG}{tt:TT}{te:TE}{J:It}{fp:List BJ}{it:BJ}{tn:Nat->BL->Prop}{E:BH->BI->Prop}{sc:Scope}
  (hc:X.calm=true) (hsc:X.env.scope=sc) (hcn:mE scope sc=true) (hcap:lC N X.N scope sc cap=true) (hk:scope.kind=.function)
  (I:Inv X pins σ H s) (T:aHh X.prog X.w X.K tg J fp it tn) (st:tn 0 s.heap) (hfp:∀b∈fp,uF X pins H b)
  (hg:∀cl C,PG (cxB X N scope cl C fp s H) tg g) (ht:∀cl C pi s2 σ2 H2 Q,Inv (cxB X N scope cl C fp s H) pi σ2 H2 s2->tt σ2 H2 Q->AG (AF X.prog X.w) X.A (forIn ifs true λc r=>if r=true then do let ok <-isTrue c (compEnvC scope cl C X.env) (eval c<|compEnvC scope cl C X.env);pure (ForInStep.yield ok) else pure (ForInStep.yield r)) (TP (cxB X N scope cl C fp s H) pi σ2 Q) (λ_ _=>False) s2)
  (he:∀cl C,PE (cxB X N scope cl C fp s H) elt te) (W:Nat->Nat->List V->St->Hp->Prop) (m0:Nat) (w0:W 0 m0 [] (uA cap σ) H)
  (RR:BH->BJ->Result->BI->Prop)
  (turn:∀i m ys σb H2,W i m ys σb H2→
   (J.stop i H2/\∀D C s',H2 D=none->H2 C=none->D≠C->X.s₀.heap.objs.size<=C->C≠X.env.locals->(∀x c,X.env.cells.lookup x=some c->c≠C)->(∀p∈X.pn++pins,p.1≠C)->C∉frs X.stack->(∃m,s'.heap.Ns C m)->Inv X pins σ (upd H2 D<|.lst ys) s'->RR (.ref D) C (.ok .next) s')\/
   (J.go i H2∧ys.length<AN∧∃Nx:List V→St→Hp→Prop,(∀ys' σ' H',Nx ys' σ' H'→∃m',m'<m∧W (i+1) m' ys' σ' H')∧
    ∀x H',J.yld i H2 x H'->g x σb H' λσ2 H3=>tt σ2 H3 λb H4=>if b=true then te σ2 H4 λv H5=>Nx (ys++[v]) σ2 H5 else Nx ys σ2 H4)):
  AG (AF X.prog X.w) X.A (newList []) (fun acc s₃=>AG (AF X.prog X.w) X.A (newFunctionEnv scope X.env.globals (clo X.env.cells scope.names []) [] X.env.qual none .none (some X.env)) (fun cenv s₄=>
   codeAny (AF X.prog X.w) X.A (.compStart (.ListComp elt [⟨tg,iter,ifs,0⟩] scope pos) 0 (.ref it) acc {cenv with scope:=relabel scope X.env}) (RR acc cenv.locals) s₄) E s₃) E s:=
 aAf (λ_ _ _ _=>False) (λ_ _ _ _ _=>False) hc hsc hcn hcap hk I T st hfp hg ht he W m0 w0 RR (λ_ _ _ _ z=>z.elim) (λ_ _ _ _ _ _ z=>z.elim) turn
end L2
namespace DL
open PySem PySem.Spec PyProof.Rows L2
noncomputable abbrev St:=L2.St
inductive D where
 |non|bl (b:Bool)|int (i:Int)|str (x:Str)|tup (ds:List D)|lst (ds:List D)|dic|scr (ns:List Int)|dki (ks:List Key) (ds:List D)|any (G:V->Hp->Prop)
mutual
noncomputable def Rep(K:aB)(H:Hp):D->V->Prop
 |.non,v=>v=.non
 |.bl b,v=>v=.bl b
 |.int i,v=>v=.int i
 |.str x,v=>v=.str x
 |.tup ds,v=>∃a xs,v=.ref a/\H a=some (.tup xs)/\RepL K H ds xs
 |.lst ds,v=>∃a xs,v=.ref a/\H a=some (.lst xs)/\RepL K H ds xs
 |.dic,v=>∃a,v=.ref a/\H a=some (.dK [])
 |.dki ks ds,v=>∃a xs,v=.ref a/\(∃ob,H a=some (.frz ob (.dK<|ks.zip xs)))/\ks.length=ds.length/\RepL K H ds xs
 |.scr ns,v=>∃a,v=.ref a/\SqL K H a (ns.map V.int)
 |.any G,v=>(∃a,v=.ref a)/\∀H',Same H H'->G v H'
noncomputable def RepL(K:aB)(H:Hp):List D->List V->Prop
 |[],xs=>xs=[]
 |d::ds,xs=>∃y ys,xs=y::ys/\Rep K H d y/\RepL K H ds ys
end
mutual
theorem Rep.mono{K:aB}{H H':Hp}(h:Same H H'):∀ {d:D}{v:V},Rep K H d v->Rep K H' d v
 |.non,_,r=>by simpa only[Rep] using r
 |.bl _,_,r=>by simpa only[Rep] using r
 |.int _,_,r=>by simpa only[Rep] using r
 |.str _,_,r=>by simpa only[Rep] using r
 |.tup ds,v,r=>by simp only[Rep] at r ⊢;obtain⟨a,xs,e,q,rl⟩:=r;exact⟨a,xs,e,h _ _ q,RepL.mono h rl⟩
 |.lst ds,v,r=>by simp only[Rep] at r ⊢;obtain⟨a,xs,e,q,rl⟩:=r;exact⟨a,xs,e,h _ _ q,RepL.mono h rl⟩
 |.dki ks ds,v,r=>by simp only[Rep] at r ⊢;obtain⟨a,xs,e,⟨ob,q⟩,l,rl⟩:=r;exact⟨a,xs,e,⟨ob,h _ _ q⟩,l,RepL.mono h rl⟩
 |.dic,v,r=>by simp only[Rep] at r ⊢;obtain⟨a,e,q⟩:=r;exact⟨a,e,h _ _ q⟩
 |.any G,v,r=>by simp only[Rep] at r ⊢;exact⟨r.1,λH2 s=>r.2 H2<|h.trans s⟩
 |.scr ns,v,r=>by simp only[Rep] at r ⊢;obtain⟨a,e,q⟩:=r;exact⟨a,e,h.seq q⟩
theorem RepL.mono{K:aB}{H H':Hp}(h:Same H H'):∀ {ds:List D}{xs:List V},RepL K H ds xs->RepL K H' ds xs
 |[],_,r=>by simpa only[RepL] using r
 |d::ds,xs,r=>by simp only[RepL] at r ⊢;obtain⟨y,ys,e,q,rl⟩:=r;exact⟨y,ys,e,Rep.mono h q,RepL.mono h rl⟩
end
theorem RepL.len{K:aB}{H:Hp}:∀ {ds:List D}{xs:List V},RepL K H ds xs->xs.length=ds.length
 |[],_,r=>by simp only[RepL] at r;rw[r];rfl
 |d::ds,xs,r=>by simp only[RepL] at r;obtain⟨y,ys,rfl,_,q⟩:=r;simp only[cM,RepL.len q]
theorem RepL.get{K:aB}{H:Hp}:∀ {ds:List D}{xs:List V}{i:Nat}{d:D},RepL K H ds xs->ds[i]? =some d->∃v,xs[i]? =some v/\Rep K H d v
 |[],_,i,d,r,e=>by simp at e
 |d'::ds,xs,i,d,r,e=>by
  simp only[RepL] at r;obtain⟨y,ys,rfl,q,rl⟩:=r;cases i with
  |zero=>simp at e;subst e;exact⟨y,rfl,q⟩
  |succ i=>
   have e':ds[i]? =some d:=by simpa using e
   obtain⟨v,h1,h2⟩:=RepL.get rl e';exact⟨v,by simpa using h1,h2⟩
theorem RepL.app{K:aB}{H:Hp}:∀ {ds es:List D}{xs ys:List V},RepL K H ds xs->RepL K H es ys->RepL K H (ds++es) (xs++ys)
 |[],es,xs,ys,r,q=>by simp only[RepL] at r;subst r;exact q
 |d::ds,es,xs,ys,r,q=>by simp only[RepL] at r;obtain⟨y,zs,rfl,a,rl⟩:=r;show RepL K H (d::(ds++es)) (y::(zs++ys));simp only[RepL];exact⟨y,_,rfl,a,RepL.app rl q⟩
theorem RepL.nil{K:aB}{H:Hp}:RepL K H [] []:=by simp only[RepL]
theorem RepL.cons{K:aB}{H:Hp}{d:D}{ds:List D}{x:V}{xs:List V}(a:Rep K H d x)(b:RepL K H ds xs):RepL K H (d::ds) (x::xs):=by simp only[RepL];exact⟨x,xs,rfl,a,b⟩
theorem RepL.one{K:aB}{H:Hp}{d:D}{x:V}(a:Rep K H d x):RepL K H [d] [x]:=.cons a .nil
theorem RepL.uncons{K:aB}{H:Hp}{d:D}{ds:List D}{xs:List V}(r:RepL K H (d::ds) xs):∃y ys,xs=y::ys/\Rep K H d y/\RepL K H ds ys:=by simpa only[RepL] using r
theorem RepL.take{K:aB}{H:Hp}:∀ {ds:List D}{xs:List V} (n:Nat),RepL K H ds xs->RepL K H (ds.take n) (xs.take n)
 |_,_,0,_=>by simp only[List.take_zero];exact .nil
 |[],xs,n+1,r=>by simp only[RepL] at r;subst r;exact .nil
 |d::ds,xs,n+1,r=>by obtain⟨y,ys,rfl,a,rl⟩:=r.uncons;simp only[aFA];exact .cons a<|RepL.take n rl
theorem RepL.drop{K:aB}{H:Hp}:∀ {ds:List D}{xs:List V} (n:Nat),RepL K H ds xs->RepL K H (ds.drop n) (xs.drop n)
 |_,_,0,r=>by simpa only[List.drop_zero] using r
 |[],xs,n+1,r=>by simp only[RepL] at r;subst r;exact .nil
 |d::ds,xs,n+1,r=>by obtain⟨y,ys,rfl,a,rl⟩:=r.uncons;simp only[List.drop_succ_cons];exact RepL.drop n rl
theorem RepL.ints{K:aB}{H:Hp}:∀ {ns:List Int}{xs:List V},RepL K H (ns.map D.int) xs->xs=ns.map V.int
 |[],xs,r=>by simpa only[dD,RepL] using r
 |n::ns,xs,r=>by rw[aR] at r;obtain⟨y,ys,rfl,a,rl⟩:=r.uncons;simp only[Rep] at a;rw[a,RepL.ints rl];rfl
theorem RepL.set{K:aB}{H:Hp}{d:D}{v:V}(q:Rep K H d v):∀ {ds:List D}{xs:List V} (i:Nat),RepL K H ds xs->RepL K H (ds.set i d) (xs.set i v)
 |[],xs,i,r=>by simp only[RepL] at r;subst r;exact .nil
 |d'::ds,xs,i,r=>by
  obtain⟨y,ys,rfl,a,rl⟩:=r.uncons;cases i with
  |zero=>exact .cons q rl
  |succ i=>exact .cons a<|RepL.set q i rl
inductive Slot where
 |un|val (d:D)|own (l:BJ) (ds:List D)|gh (d:D) (G:V->Hp->Prop)|od (l:BJ) (ks:List Key) (ds:List D)|ox (ls:List BJ) (G:V->Hp->Hp->Prop)
noncomputable def Wr(l:BJ):HO->Prop
 |.lst _=>True
 |.dK _=>True
 |.ext φ=>∃o:BM,φ=(λh=>h.get? l=some o)/\∀v,o.data≠ .cell v
 |_=>False
noncomputable def oU(K:aB)(F H:Hp):Slot->Option V->Prop
 |.un,_=>True
 |.val d,o=>∃v,o=some v/\Rep K F d v
 |.own l ds,o=>o=some (.ref l)/\F l=none/\∃xs,H l=some (.lst xs)/\RepL K F ds xs
 |.od l ks ds,o=>o=some (.ref l)/\F l=none/\∃xs,H l=some (.dK<|ks.zip xs)/\ks.length=ds.length/\RepL K F ds xs
 |.gh d G,o=>∃v,o=some v/\Rep K F d v/\∀F',Same F F'->G v F'
 |.ox ls G,o=>∃v,o=some v/\(∀l∈ls,F l=none/\∃ob,H l=some ob/\Wr l ob)/\∀F' H',Same F F'->(∀l∈ls,∀ob,H l=some ob->H' l=some ob)->G v F' H'
noncomputable def SlotsOk(K:aB)(F H:Hp):List Slot->St->Prop
 |[],σ=>σ=[]
 |z::zs,σ=>∃o r,σ=o::r/\oU K F H z o/\SlotsOk K F H zs r
noncomputable def jZ:Slot->List BJ
 |.own l _=>[l]
 |.od l _ _=>[l]
 |.ox ls _=>ls
 |_=>[]
noncomputable def cF(sd:List Slot):List BJ:=sd.flatMap jZ
theorem xH(z:Slot)(zs:List Slot):cF (z::zs)=jZ z++cF zs:=rfl
structure StF(K:aB)(H₀ F H:Hp)(σ:St)(sd:List Slot):Prop where
 base:Same H₀ F
 sub:Same F H
 smp:Smp H
 slots:SlotsOk K F H sd σ
 nd:(cF sd).Nodup
variable {K:aB}{H₀ F F' H H':Hp}{σ:St}{sd:List Slot}
theorem SlotsOk.get:∀ {sd:List Slot}{σ:St}{i:Nat}{z:Slot},SlotsOk K F H sd σ->sd[i]? =some z->∃o,σ[i]? =some o/\oU K F H z o
 |[],_,_,_,_,e=>by simp at e
 |z'::zs,σ,i,z,h,e=>by
  obtain⟨o,r,rfl,a,b⟩:=h;cases i with
  |zero=>simp at e;subst e;exact⟨o,rfl,a⟩
  |succ i=>obtain⟨o',h1,h2⟩:=SlotsOk.get (i:=i) b (by simpa using e);exact⟨o',by simpa using h1,h2⟩
theorem SlotsOk.set{z:Slot}{o:Option V}(q:oU K F H z o):∀ {sd:List Slot}{σ:St} (i:Nat),SlotsOk K F H sd σ->SlotsOk K F H (sd.set i z) (σ.set i o)
 |[],_,_,h=>by have h:_=_:=h;subst h;rfl
 |z'::zs,σ,i,h=>by
  obtain⟨o',r,rfl,a,b⟩:=h;cases i with
  |zero=>exact⟨o,r,rfl,q,b⟩
  |succ i=>exact⟨o',_,rfl,a,SlotsOk.set q i b⟩
theorem SlotsOk.mono(hF:Same F F'):∀ {sd:List Slot}{σ:St},(∀l∈cF sd,F' l=none/\∀xs,H l=some xs->H' l=some xs)->SlotsOk K F H sd σ->SlotsOk K F' H' sd σ
 |[],_,_,h=>h
 |z::zs,σ,ho,h=>by
  obtain⟨o,r,rfl,a,b⟩:=h;refine⟨o,r,rfl, ?_,SlotsOk.mono hF (λl hl=>ho l ?_) b⟩
  ·cases z with
   |un=>trivial
   |val d=>obtain⟨v,e,q⟩:=a;exact⟨v,e,q.mono hF⟩
   |gh d G=>obtain⟨v,e,q,g⟩:=a;exact⟨v,e,q.mono hF,λF2 s2=>g F2<|hF.trans s2⟩
   |own l ds=>obtain⟨e,n,xs,q,rl⟩:=a;have:=ho l (by simp[xH,jZ]);exact⟨e,this.1,xs,this.2 _ q,rl.mono hF⟩
   |od l ks ds=>obtain⟨e,n,xs,q,ln,rl⟩:=a;have:=ho l (by simp[xH,jZ]);exact⟨e,this.1,xs,this.2 _ q,ln,rl.mono hF⟩
   |ox ls G=>
    obtain⟨v,e,h,g⟩:=a;have ho':∀l∈ls,F' l=none/\∀xs,H l=some xs->H' l=some xs:=λl hl=>ho l<|aU _ hl
    exact⟨v,e,λl hl=>⟨(ho' l hl).1,let ⟨ob,q,w⟩:=(h l hl).2;⟨ob,(ho' l hl).2 _ q,w⟩⟩,λF2 H2 s2 k=>g F2 H2 (hF.trans s2) λl hl ob q=>k l hl ob<|(ho' l hl).2 _ q⟩
  ·exact aC _ hl
theorem SlotsOk.owns:∀ {sd:List Slot}{σ:St}{l:BJ},SlotsOk K F H sd σ->l∈cF sd->F l=none/\∃ob,H l=some ob/\Wr l ob
 |[],_,_,_,e=>by simp[cF] at e
 |z::zs,σ,l,h,e=>by
  obtain⟨o,r,rfl,a,b⟩:=h
  rcases aJ.mp (show l∈jZ z++cF zs from e) with e|e
  ·cases z with
   |un=>cases e
   |val d=>cases e
   |gh d G=>cases e
   |own l' ds=>rw[bA.mp e];obtain⟨_,n,xs,q,_⟩:=a;exact⟨n,_,q,trivial⟩
   |od l' ks ds=>rw[bA.mp e];obtain⟨_,n,xs,q,_⟩:=a;exact⟨n,_,q,trivial⟩
   |ox ls G=>obtain⟨v,_,h,_⟩:=a;exact h l e
  ·exact SlotsOk.owns b e
theorem StF.lay{p:BJ}{o:HO}(S:StF K H₀ F H σ sd)(hp:H p=none)(ho:aNi o):StF K H₀ (upd F p o) (upd H p o) σ sd/\Same F (upd F p o):=by
 have fp:F p=none:=S.sub.free hp;have s1:Same F (upd F p o):=λb u e=>by rw[bU<|cA e fp];exact e
 refine⟨⟨λb u e=>s1 _ _<|S.base _ _ e,λb u e=> ?_,λb u e=> ?_,S.slots.mono s1 λl hl=> ?_,S.nd⟩,s1⟩
 ·by_cases h:b=p
  ·subst h;rw[cD] at e ⊢;exact e
  ·rw[bU h] at e ⊢;exact S.sub _ _ e
 ·by_cases h:b=p
  ·subst h;rw[cD] at e;cases e;exact ho
  ·rw[bU h] at e;exact S.smp _ _ e
 ·obtain⟨n,xs,q,_⟩:=S.slots.owns hl;have hne:l≠p:=cA q hp;exact⟨by rw[bU hne];exact n,λys e=>by rw[bU hne];exact e⟩
theorem StF.layO{p:BJ}{xs:List V}(S:StF K H₀ F H σ sd)(hp:H p=none):StF K H₀ F (upd H p<|.lst xs) σ sd/\F p=none/\p∉cF sd:=by
 have fp:F p=none:=S.sub.free hp;refine⟨⟨S.base,λb u e=> ?_,λb u e=> ?_,S.slots.mono (Same.refl _) λl hl=> ?_,S.nd⟩,fp,λhl=> ?_⟩
 ·rw[bU<|cA e fp];exact S.sub _ _ e
 ·by_cases h:b=p
  ·subst h;rw[cD] at e;cases e;trivial
  ·rw[bU h] at e;exact S.smp _ _ e
 ·obtain⟨n,ys,q,_⟩:=S.slots.owns hl;have hne:l≠p:=cA q hp;exact⟨n,λys e=>by rw[bU hne];exact e⟩
 ·obtain⟨n,ys,q,_⟩:=S.slots.owns hl;rw[hp] at q;cases q
theorem StF.freeze{p:BJ}{xs:List V}(S:StF K H₀ F H σ sd)(hp:H p=some (.lst xs))(fp:F p=none)(ho:p∉cF sd):StF K H₀ (upd F p<|.lst xs) H σ sd/\Same F (upd F p<|.lst xs):=by
 have s1:Same F (upd F p<|.lst xs):=λb u e=>by rw[bU<|cA e fp];exact e
 refine⟨⟨λb u e=>s1 _ _<|S.base _ _ e,λb u e=> ?_,S.smp,S.slots.mono s1 λl hl=> ?_,S.nd⟩,s1⟩
 ·by_cases h:b=p
  ·subst h;rw[cD] at e;rw[hp];exact e
  ·rw[bU h] at e;exact S.sub _ _ e
 ·obtain⟨n,ys,q,_⟩:=S.slots.owns hl;have hne:l≠p:=λz=>ho (z▸hl)
  exact⟨by rw[bU hne];exact n,λys e=>e⟩
theorem SlotsOk.len:∀ {sd:List Slot}{σ:St},SlotsOk K F H sd σ->σ.length=sd.length
 |[],_,h=>by have h:_=_:=h;rw[h];rfl
 |z::zs,σ,h=>by obtain⟨o,r,rfl,_,b⟩:=h;simp[SlotsOk.len b]
inductive R where
 |val (d:D)|own (ds:List D)|bor (ds:List D)|pr (d:D) (ls:List D)|ox (G:V->List BJ->Hp->Hp->Prop)
def LOk(K:aB)(F H:Hp)(sd:List Slot)(v:V)(ds:List D):Prop:=
 ∃l xs,v=.ref l/\H l=some (.lst xs)/\RepL K F ds xs/\(F l=some (.lst xs)\/Slot.own l ds∈sd)
noncomputable def ResOk(K:aB)(F H:Hp)(sd:List Slot):R->V->Prop
 |.val d,v=>Rep K F d v
 |.own ds,v=>∃l xs,v=.ref l/\F l=none/\H l=some (.lst xs)/\RepL K F ds xs/\l∉cF sd
 |.bor ds,v=>LOk K F H sd v ds
 |.pr d ls,v=>∃t l xs y,v=.ref t/\F t=some (.tup [y,.ref l])/\Rep K F d y/\F l=none/\H l=some (.lst xs)/\RepL K F ls xs/\l∉cF sd
 |.ox G,v=>∃ls:List BJ,ls.Nodup/\(∀l∈ls,F l=none/\(∃ob,H l=some ob/\Wr l ob)/\l∉cF sd)/\∀F' H',Same F F'->(∀l∈ls,∀ob,H l=some ob->H' l=some ob)->G v ls F' H'
noncomputable def R.keeps:R->Prop
 |.own _=>False
 |.pr _ _=>False
 |.ox _=>False
 |_=>True
variable {r:R}{v:V}
theorem ResOk.keep(hr:r.keeps)(h:ResOk K F H sd r v)(S':StF K H₀ F' H' σ sd)(s:Same F F'):ResOk K F' H' sd r v:=by
 cases r with
 |val d=>exact Rep.mono s h
 |own ds=>exact hr.elim
 |pr d ls=>exact hr.elim
 |ox G=>exact hr.elim
 |bor ds=>
  obtain⟨l,xs,e,hl,rl,q⟩:=h
  rcases q with q|q
  ·exact⟨l,xs,e,S'.sub _ _<|s _ _ q,rl.mono s,.inl<|s _ _ q⟩
  ·obtain⟨i,hi⟩:=gY q;obtain⟨o,_,e2,_,ys,h1,h2⟩:=S'.slots.get hi;exact⟨l,ys,e,h1,h2,.inr q⟩
structure PEd(X:Cx)(sd:List Slot)(e:Expr)(r:R):Prop where
 run:∀ (σ:St) (F H:Hp),StF X.K X.B₀ F H σ sd->
 wE X e σ H λv H'=>∃F',StF X.K X.B₀ F' H' σ sd/\Same F F'/\ResOk X.K F' H' sd r v
instance {X:Cx}{sd:List Slot}{e:Expr}{r:R}:CoeFun (PEd X sd e r) (fun _=>∀ (σ:St) (F H:Hp),StF X.K X.B₀ F H σ sd→
 wE X e σ H λv H'=>∃F',StF X.K X.B₀ F' H' σ sd/\Same F F'/\ResOk X.K F' H' sd r v):=⟨PEd.run⟩
structure PTd(X:Cx)(sd:List Slot)(e:Expr)(b:Bool):Prop where
 run:∀ (σ:St) (F H:Hp),StF X.K X.B₀ F H σ sd->
 wT X e σ H λc H'=>c=b/\∃F',StF X.K X.B₀ F' H' σ sd/\Same F F'
instance {X:Cx}{sd:List Slot}{e:Expr}{b:Bool}:CoeFun (PTd X sd e b) (fun _=>∀ (σ:St) (F H:Hp),StF X.K X.B₀ F H σ sd→
 wT X e σ H λc H'=>c=b/\∃F',StF X.K X.B₀ F' H' σ sd/\Same F F'):=⟨PTd.run⟩
structure PWd(X:Cx)(sd:List Slot)(e:Expr)(b:Bool):Prop where
 run:∀ (σ:St) (F H:Hp),StF X.K X.B₀ F H σ sd->
 wW X e σ H λc H'=>c=b/\∃F',StF X.K X.B₀ F' H' σ sd/\Same F F'
instance {X:Cx}{sd:List Slot}{e:Expr}{b:Bool}:CoeFun (PWd X sd e b) (fun _=>∀ (σ:St) (F H:Hp),StF X.K X.B₀ F H σ sd→
 wW X e σ H λc H'=>c=b/\∃F',StF X.K X.B₀ F' H' σ sd/\Same F F'):=⟨PWd.run⟩
inductive RsOk(K:aB)(F H:Hp)(sd:List Slot):List R->List V->Prop
 |nil:RsOk K F H sd [] []
 |cons {r v rs vs}:ResOk K F H sd r v->RsOk K F H sd rs vs->RsOk K F H sd (r::rs) (v::vs)
structure PAd(X:Cx)(sd:List Slot)(es:List Expr)(rs:List R):Prop where
 run:∀ (σ:St) (F H:Hp),StF X.K X.B₀ F H σ sd->
 wA X es σ H λvs H'=>∃F',StF X.K X.B₀ F' H' σ sd/\Same F F'/\RsOk X.K F' H' sd rs vs
instance {X:Cx}{sd:List Slot}{es:List Expr}{rs:List R}:CoeFun (PAd X sd es rs) (fun _=>∀ (σ:St) (F H:Hp),StF X.K X.B₀ F H σ sd→
 wA X es σ H λvs H'=>∃F',StF X.K X.B₀ F' H' σ sd/\Same F F'/\RsOk X.K F' H' sd rs vs):=⟨PAd.run⟩
structure jM where
 nx:List Slot->Prop
 rt:R->Prop
 bk:List Slot->Prop:=λ_=>False
 ct:List Slot->Prop:=λ_=>False
def aDf(K:aB)(H₀ H:Hp)(r:R)(v:V):Prop:=∃F,Same H₀ F/\Same F H/\Smp H/\ResOk K F H [] r v
noncomputable def lft(X:Cx)(F₀:Hp)(E:jM):xP where
 nx:=λσ H=>∃sd F,StF X.K X.B₀ F H σ sd/\Same F₀ F/\E.nx sd
 rt:=λv H=>∃r,aDf X.K X.B₀ H r v/\E.rt r
 bk:=λσ H=>∃sd F,StF X.K X.B₀ F H σ sd/\Same F₀ F/\E.bk sd
 ct:=λσ H=>∃sd F,StF X.K X.B₀ F H σ sd/\Same F₀ F/\E.ct sd
structure PSd(X:Cx)(sd:List Slot)(sts:List BN)(E:jM):Prop where
 run:∀ (σ:St) (F H:Hp),StF X.K X.B₀ F H σ sd->wSs X sts (lft X F E) σ H
instance {X:Cx}{sd:List Slot}{sts:List BN}{E:jM}:CoeFun (PSd X sd sts E) (λ_=>∀ (σ:St) (F H:Hp),StF X.K X.B₀ F H σ sd->wSs X sts (lft X F E) σ H):=⟨PSd.run⟩
structure PSd1(X:Cx)(sd:List Slot)(st:BN)(E:jM):Prop where
 run:∀ (σ:St) (F H:Hp),StF X.K X.B₀ F H σ sd->wS X st (lft X F E) σ H
instance {X:Cx}{sd:List Slot}{st:BN}{E:jM}:CoeFun (PSd1 X sd st E) (λ_=>∀ (σ:St) (F H:Hp),StF X.K X.B₀ F H σ sd->wS X st (lft X F E) σ H):=⟨PSd1.run⟩
variable {X:Cx}{e a b c:Expr}{es:List Expr}{pos:Pos}{ra rb:R}{d:D}{ds:List D}
theorem PEd.val(h:PEd X sd e (.own ds)):PEd X sd e (.val<|.lst ds):=.mk λσ F H S=>(h σ F H S).imp λv H' ⟨F',S',s,l,xs,e,n,q,rl,no⟩=>by obtain⟨S2,s2⟩:=S'.freeze q n no;refine⟨_,S2,s.trans s2, ?_⟩;show Rep _ _ _ _;simp only[Rep];exact⟨l,xs,e,cD,rl.mono s2⟩
theorem PEd.bor(h:PEd X sd e (.val<|.lst ds)):PEd X sd e (.bor ds):=.mk λσ F H S=>(h σ F H S).imp λv H' ⟨F',S',s,q⟩=>by have q:Rep _ _ _ _:=q;simp only[Rep] at q;obtain⟨l,xs,e,q,rl⟩:=q;exact⟨F',S',s,l,xs,e,S'.sub _ _ q,rl,.inl q⟩
theorem lN(i:Nat){x:Str}(hs:sd[i]? =some (.val d))(h:PE X (.Name x pos) (qY i)):PEd X sd (.Name x pos) (.val d):= .mk fun σ F H S=>h.to (by
 obtain⟨o,h1,v,h2,q⟩:=S.slots.get hs
 exact⟨v,by rw[h1,h2],F,S,Same.refl _,q⟩)
theorem nG(i:Nat){x:Str}{l:BJ}(hs:sd[i]? =some (.own l ds))(h:PE X (.Name x pos) (qY i)):PEd X sd (.Name x pos) (.bor ds):= .mk fun σ F H S=>h.to (by
 obtain⟨o,h1,h2,n,xs,q,rl⟩:=S.slots.get hs
 exact⟨.ref l,by rw[h1,h2],F,S,Same.refl _,l,xs,rfl,q,rl,.inr (cU hs)⟩)
theorem bD{i j}:PEd X sd (.Constant (.int i) j pos) (.val<|.int i):=.mk λσ F H S=>pe_int.to ⟨F,S,Same.refl _,by simp only[ResOk,Rep]⟩
theorem aFI{i j}:PEd X sd (.Constant (.bool i) j pos) (.val<|.bl i):=.mk λσ F H S=>pe_bl.to ⟨F,S,Same.refl _,by simp only[ResOk,Rep]⟩
theorem eB{j}:PEd X sd (.Constant .none j pos) (.val .non):=.mk λσ F H S=>pe_non.to ⟨F,S,Same.refl _,by simp only[ResOk,Rep]⟩
theorem gS{i j}:PEd X sd (.Constant (.str i) j pos) (.val<|.str i):=.mk λσ F H S=>pe_str.to ⟨F,S,Same.refl _,by simp only[ResOk,Rep]⟩
theorem aS:PAd X sd [] []:=.mk λσ F H S=>pa_nil.to ⟨F,S,Same.refl _,.nil⟩
theorem aD{rs:List R}(h1:PEd X sd e r)(h2:PAd X sd es rs)(hk:r.keeps:=by trivial)(hs:AD (e::es) X.env=(false,eval e X.env)::AD es X.env:=by rfl):PAd X sd (e::es) (r::rs):=.mk λσ F H S=>(lZ gI aFE hs).to<|(h1 σ F H S).imp λv H1 ⟨F1,S1,s1,q1⟩=>(h2 σ F1 H1 S1).imp λvs H2 ⟨F2,S2,s2,q2⟩=>⟨F2,S2,s1.trans s2,.cons (q1.keep hk S2 s2) q2⟩
theorem RsOk.vals:∀ {ds:List D}{vs:List V},RsOk K F H sd (ds.map R.val) vs->RepL K F ds vs
 |[],_,.nil=>.nil
 |_::_,_,.cons q t=>.cons q<|RsOk.vals t
theorem jK{x1}(h:PAd X sd es (ds.map R.val))(hl:ds.length<=1000):PEd X sd (.Tuple es x1 pos) (.val<|.tup ds):=.mk λσ F H S=>
 (aMm aFE).to ((h σ F H S).imp fun vs H1 ⟨F1,S1,s1,q1⟩=>by
  have rl:=q1.vals;refine⟨by rw[rl.len];exact cZ<|gO hl,λp hp=> ?_⟩;obtain⟨S2,s2⟩:=S1.lay (o:=.tup vs) hp trivial;refine⟨_,S2,s1.trans s2, ?_⟩;simp only[ResOk,Rep]
  exact⟨p,vs,rfl,cD,rl.mono s2⟩)
theorem gL(h:PAd X sd es (ds.map R.val))(hl:ds.length<=1000):PEd X sd (.List es pos) (.own ds):=.mk λσ F H S=>
 (aLO aFE).to ((h σ F H S).imp fun vs H1 ⟨F1,S1,s1,q1⟩=>by
  have rl:=q1.vals;refine⟨by rw[rl.len];exact cZ<|gO hl,λp hp=> ?_⟩;obtain⟨S2,fp,no⟩:=S1.layO (xs:=vs) hp
  exact⟨_,S2,s1,p,vs,rfl,fp,cD,rl,no⟩)
theorem aBB{op:Operator}{r2:R2}(ho:OpR X (Am op) r2)(ha:PEd X sd a ra)(hb:PEd X sd b rb)(hk:ra.keeps)
  (h:∀ (σ:St) (F H:Hp) (v u:V) (Q:VK),StF X.K X.B₀ F H σ sd->ResOk X.K F H sd ra v->ResOk X.K F H sd rb u->(∀w F' H',StF X.K X.B₀ F' H' σ sd->Same F F'->ResOk X.K F' H' sd r w->Q w H')->r2 v u H Q):
  PEd X sd (.BinOp a op b pos) r:=.mk λσ F H S=>
 (aNN ho gI gI).to ((ha σ F H S).imp λv H1 ⟨F1,S1,s1,q1⟩=>(hb σ F1 H1 S1).imp λu H2 ⟨F2,S2,s2,q2⟩=>h σ F2 H2 v u _ S2 (q1.keep hk S2 s2) q2 λw F' H' S' s' q'=>⟨F',S',(s1.trans s2).trans s',q'⟩)
theorem uY{op:CmpOp}{r2:R2}(ho:OpR X (Aa op) r2)(ha:PEd X sd a ra)(hb:PEd X sd b rb)(hk:ra.keeps)(hm:Ae op b=false){k:Bool}
  (h:∀ (σ:St) (F H:Hp) (v u:V) (Q:VK),StF X.K X.B₀ F H σ sd->ResOk X.K F H sd ra v->ResOk X.K F H sd rb u->(∀F' H',StF X.K X.B₀ F' H' σ sd->Same F F'->Q (.bl k) H')->r2 v u H Q):
  PEd X sd (.Compare a [op] [b] pos) (.val<|.bl k):=.mk λσ F H S=>
 (aEi ho gI gI hm).to ((ha σ F H S).imp λv H1 ⟨F1,S1,s1,q1⟩=>(hb σ F1 H1 S1).imp λu H2 ⟨F2,S2,s2,q2⟩=>h σ F2 H2 v u _ S2 (q1.keep hk S2 s2) q2 λF' H' S' s'=>⟨F',S',(s1.trans s2).trans s',by simp only[ResOk,Rep]⟩)
theorem sY{k:Bool}(h:PEd X sd e (.val<|.bl k))(he:∀whole,isTrue e X.env whole=(do let v <-whole;standAt e.pos;holding [v] (truthy v)):=by intro _;rfl):PTd X sd e k:=.mk λσ F H S=>
 (aMb gI he).to ((h σ F H S).imp fun v H1 ⟨F1,S1,s1,q1⟩=>by
  simp only[ResOk,Rep] at q1
  exact⟨k,q1,rfl,F1,S1,s1⟩)
theorem jX{op:CmpOp}{r2:R2}(ho:OpR X (Aa op) r2)(ha:PEd X sd a ra)(hb:PEd X sd b rb)(hk:ra.keeps)(hm:Ae op b=false){k:Bool}
  (h:∀ (σ:St) (F H:Hp) (v u:V) (Q:VK),StF X.K X.B₀ F H σ sd->ResOk X.K F H sd ra v->ResOk X.K F H sd rb u->(∀F' H',StF X.K X.B₀ F' H' σ sd->Same F F'->Q (.bl k) H')->r2 v u H Q):
  PTd X sd (.Compare a [op] [b] pos) k:=.mk λσ F H S=>
 (aJd ho gI gI hm).to ((ha σ F H S).imp λv H1 ⟨F1,S1,s1,q1⟩=>(hb σ F1 H1 S1).imp λu H2 ⟨F2,S2,s2,q2⟩=>h σ F2 H2 v u _ S2 (q1.keep hk S2 s2) q2 λF' H' S' s'=>⟨k,rfl,rfl,F',S',(s1.trans s2).trans s'⟩)
variable {st:BN}{rest:List BN}{E:jM}
theorem wS.imp{D D':xP}(h:wS X st D σ H)(k1:∀σ H,D.nx σ H->D'.nx σ H)(k2:∀v H,D.rt v H->D'.rt v H)(k3:∀σ H,D.bk σ H->D'.bk σ H)(k4:∀σ H,D.ct σ H->D'.ct σ H):wS X st D' σ H:=
 λpins s I=>thn (h pins s I) λf s' q=>q.imp k1 k2 k3 k4
theorem aAW{k:Bool}(h:PTd X sd e k):PTd X sd (.UnaryOp .Not e pos) (!k):=.mk λσ F H S=>(aLN aKj).to<|(h σ F H S).imp λc H' ⟨e,q⟩=>⟨by rw[e],q⟩
theorem pT{k:Bool}(h:PTd X sd a k):PWd X sd (.BoolOp .And [a] pos) k:=.mk λσ F H S=>(aJW aKj).to<|h σ F H S
theorem vG{k:Bool}(h:PTd X sd a k):PWd X sd (.BoolOp .Or [a] pos) k:=.mk λσ F H S=>(aMy aKj).to<|h σ F H S
theorem kZ{k j:Bool}(h:PTd X sd a k)(h2:k=true->PWd X sd (.BoolOp .And (b::es) pos) j):PWd X sd (.BoolOp .And (a::b::es) pos) (k&&j):=.mk λσ F H S=>
 (aLS aKj aNb).to ((h σ F H S).imp fun c H' ⟨e,F',S',s'⟩=>by
  subst e;cases c with
  |false=>exact aIv ⟨rfl,F',S',s'⟩
  |true=>exact aIz ((h2 rfl σ F' H' S').imp λc2 H2 ⟨e2,F2,S2,s2⟩=>⟨by rw[e2];rfl,F2,S2,s'.trans s2⟩))
theorem vW{k j:Bool}(h:PTd X sd a k)(h2:k=false->PWd X sd (.BoolOp .Or (b::es) pos) j):PWd X sd (.BoolOp .Or (a::b::es) pos) (k||j):=.mk λσ F H S=>
 (aNB aKj aNb).to ((h σ F H S).imp fun c H' ⟨e,F',S',s'⟩=>by
  subst e;cases c with
  |true=>exact aIz ⟨rfl,F',S',s'⟩
  |false=>exact aIv ((h2 rfl σ F' H' S').imp λc2 H2 ⟨e2,F2,S2,s2⟩=>⟨by rw[e2];rfl,F2,S2,s'.trans s2⟩))
theorem PWd.pt{k:Bool}(h:PWd X sd e k):PTd X sd e k:=.mk λσ F H S=>(aNb).pt.to<|h σ F H S
theorem aMk{op}{r:R}(h:PEd X sd a r):PEd X sd (.BoolOp op [a] pos) r:=.mk λσ F H S=>(aLD gI).to<|h σ F H S
theorem aKH{k j:Bool}(h:PEd X sd a (.val<|.bl k))(h2:k=false->PEd X sd (.BoolOp .Or (b::es) pos) (.val<|.bl j)):PEd X sd (.BoolOp .Or (a::b::es) pos) (.val<|.bl (k||j)):=.mk λσ F H S=>
 (aOi gI gI).to ((h σ F H S).imp fun v H' ⟨F',S',s',q⟩=>by
  simp only[ResOk,Rep] at q;subst q;refine⟨k,rfl, ?_⟩;cases k with
  |true=>exact aIz ⟨F',S',s',by simp only[ResOk,Rep,aCZ]⟩
  |false=>exact aIv ((h2 rfl σ F' H' S').imp λv2 H2 ⟨F2,S2,s2,q2⟩=>⟨F2,S2,s'.trans s2,by simpa only[aMW] using q2⟩))
theorem jN{op:Operator}{g:Int->Int->Int}{i j:Int}(ho:OpR X (Am op) (rI0 λi j=>.int<|g i j))(ha:PEd X sd a (.val<|.int i))(hb:PEd X sd b (.val<|.int j)):PEd X sd (.BinOp a op b pos) (.val (.int<|g i j)):=
 aBB ho ha hb trivial λσ F H v u Q S q1 q2 k=>by simp only[ResOk,Rep] at q1 q2;exact⟨i,j,q1,q2,k _ F H S (Same.refl _)<|by simp only[ResOk,Rep]⟩
theorem bZ{op:Operator}{g:Int->Int->Int}{C:Int->Int->Prop}{i j:Int}(ho:OpR X (Am op) (rI C λi j=>.int<|g i j))(ha:PEd X sd a (.val<|.int i))(hb:PEd X sd b (.val<|.int j))(hc:C i j):PEd X sd (.BinOp a op b pos) (.val (.int<|g i j)):=
 aBB ho ha hb trivial λσ F H v u Q S q1 q2 k=>by simp only[ResOk,Rep] at q1 q2;exact⟨i,j,q1,q2,hc,k _ F H S (Same.refl _)<|by simp only[ResOk,Rep]⟩
theorem iI:OpR X (Am .Mult) (rI IntMulOk λi j=>.int<|i*j):=opI λ_ _ _ _ _ _ _ hc q=>mul_int q hc
theorem fH:OpR X (Am .FloorDiv) (rI (λ_ j=>0<j/\j.natAbs.log2<9000) λi j=>.int<|i / j):=opI λi j _ _ _ _ _ hc q=>by have h1:(0:Int)<j:=hc.1;exact floordiv_int (by omega) (by rw[aAz i<|by omega];exact q) (.inl<|PyProof.noPylong_of_log2 hc.2)
theorem aNR{op:CmpOp}{g:Int->Int->Bool}{i j:Int}(ho:OpR X (Aa op) (rI0 λi j=>.bl<|g i j))(ha:PEd X sd a (.val<|.int i))(hb:PEd X sd b (.val<|.int j))(hm:Ae op b=false):PEd X sd (.Compare a [op] [b] pos) (.val (.bl<|g i j)):=
 uY ho ha hb trivial hm λσ F H v u Q S q1 q2 k=>by simp only[ResOk,Rep] at q1 q2;exact⟨i,j,q1,q2,k F H S<|Same.refl _⟩
theorem aIa{op:CmpOp}{g:Int->Int->Bool}{i j:Int}(ho:OpR X (Aa op) (rI0 λi j=>.bl<|g i j))(ha:PEd X sd a (.val<|.int i))(hb:PEd X sd b (.val<|.int j))(hm:Ae op b=false):PTd X sd (.Compare a [op] [b] pos) (g i j):=
 jX ho ha hb trivial hm λσ F H v u Q S q1 q2 k=>by simp only[ResOk,Rep] at q1 q2;exact⟨i,j,q1,q2,k F H S<|Same.refl _⟩
noncomputable def flt:D->Option V
 |.non=>some .non
 |.bl b=>some<|.bl b
 |.int i=>some<|.int i
 |.str x=>some<|.str x
 |_=>none
theorem oH{x:V}(h:flt d=some x)(q:Rep K H d v):v=x:=by
 cases d with
 |non=>simp only[Rep] at q;simp only[flt] at h;rw[q];exact bT.inj h
 |bl=>simp only[Rep] at q;simp only[flt] at h;rw[q];exact bT.inj h
 |int=>simp only[Rep] at q;simp only[flt] at h;rw[q];exact bT.inj h
 |str=>simp only[Rep] at q;simp only[flt] at h;rw[q];exact bT.inj h
 |tup=>simp only[flt] at h;cases h
 |lst=>simp only[flt] at h;cases h
 |dic=>simp only[flt] at h;cases h
 |dki=>simp only[flt] at h;cases h
 |any=>simp only[flt] at h;cases h
 |scr=>simp only[flt] at h;cases h
theorem oP{d1 d2:D}{x y:V}{k:Bool}(ha:PEd X sd a (.val d1))(hb:PEd X sd b (.val d2))(h1:flt d1=some x)(h2:flt d2=some y)(hs:aKw x y=true)(hk:decide (x=y)=k):PTd X sd (.Compare a [.Eq] [b] pos) k:=
 jX aFL ha hb trivial (kO _) λσ F H v u Q S q1 q2 kk=>by have e1:=oH h1 q1;have e2:=oH h2 q2;subst e1 e2;exact⟨hs,by rw[hk];exact kk F H S<|Same.refl _⟩
theorem aEe{d1 d2:D}{x y:V}{k:Bool}(ha:PEd X sd a (.val d1))(hb:PEd X sd b (.val d2))(h1:flt d1=some x)(h2:flt d2=some y)(hs:aKw x y=true)(hk:(!decide (x=y))=k):PTd X sd (.Compare a [.NotEq] [b] pos) k:=
 jX aOd ha hb trivial (kO _) λσ F H v u Q S q1 q2 kk=>by have e1:=oH h1 q1;have e2:=oH h2 q2;subst e1 e2;exact⟨hs,by rw[hk];exact kk F H S<|Same.refl _⟩
theorem oV{i j:Int}(ha:PEd X sd a (.val<|.int i))(hb:PEd X sd b (.val<|.int j)):PTd X sd (.Compare a [.Eq] [b] pos) (decide<|i=j):=oP ha hb rfl rfl rfl (by rw[sE,lG])
theorem aJj{i j:Int}(ha:PEd X sd a (.val<|.int i))(hb:PEd X sd b (.val<|.int j)):PTd X sd (.Compare a [.NotEq] [b] pos) (!decide (i=j)):=aEe ha hb rfl rfl rfl (by rw[sE,lG])
theorem aKc{p q:Bool}(ha:PEd X sd a (.val<|.bl p))(hb:PEd X sd b (.val<|.bl q)):PTd X sd (.Compare a [.NotEq] [b] pos) (!decide (p=q)):=aEe ha hb rfl rfl rfl (by rw[aDu,lG])
theorem fW{n:Nat}(ha:PEd X sd a (.val<|.tup ds))(hb:PEd X sd b (.val<|.int (n:Int)))(hd:ds[n]? =some d)(hs:qN b):PEd X sd (.Subscript a b pos) (.val d):=.mk λσ F H S=>
 (aII aLw gI gI hs).to ((ha σ F H S).imp fun v H1 ⟨F1,S1,s1,q1⟩=>(hb σ F1 H1 S1).imp fun u H2 ⟨F2,S2,s2,q2⟩=>by
  have q1:=Rep.mono s2 q1;simp only[ResOk,Rep] at q1 q2;obtain⟨p,xs,e1,hp,rl⟩:=q1;obtain⟨w,hw,rw'⟩:=rl.get hd
  exact⟨p,xs,(n:Int),w,e1,q2,.of (S2.sub _ _ hp),aAN hw,F2,S2,s1.trans s2,rw'⟩)
theorem fY{n:Nat}(ha:PEd X sd a (.bor ds))(hb:PEd X sd b (.val<|.int (n:Int)))(hd:ds[n]? =some d)(hs:qN b):PEd X sd (.Subscript a b pos) (.val d):=.mk λσ F H S=>
 (aII aEo gI gI hs).to ((ha σ F H S).imp fun v H1 ⟨F1,S1,s1,q1⟩=>(hb σ F1 H1 S1).imp fun u H2 ⟨F2,S2,s2,q2⟩=>by
  obtain⟨p,xs,e1,hp,rl,_⟩:=ResOk.keep (r:=.bor ds) trivial q1 S2 s2;simp only[ResOk,Rep] at q2;obtain⟨w,hw,rw'⟩:=rl.get hd
  exact⟨p,xs,(n:Int),w,e1,q2,.of hp,aAN hw,F2,S2,s1.trans s2,rw'⟩)
theorem aLr{ns:List Int}{n:Nat}{z:Int}(ha:PEd X sd a (.val<|.scr ns))(hb:PEd X sd b (.val<|.int (n:Int)))(hd:ns[n]? =some z)(hs:qN b):PEd X sd (.Subscript a b pos) (.val<|.int z):=.mk λσ F H S=>
 (aII aEo gI gI hs).to ((ha σ F H S).imp fun v H1 ⟨F1,S1,s1,q1⟩=>(hb σ F1 H1 S1).imp fun u H2 ⟨F2,S2,s2,q2⟩=>by
  have q1:=Rep.mono (s2.trans S2.sub) q1;simp only[ResOk,Rep] at q1 q2;obtain⟨p,e1,hp⟩:=q1
  exact⟨p,_,(n:Int),.int z,e1,q2,hp,aAN (by rw[bL,hd];rfl),F2,S2,s1.trans s2,by simp only[ResOk,Rep]⟩)
theorem sX{x:Str}{p:Pos}{id:String}{rr:List V->Hp->VK->Prop}{rs:List R}(hc:pV X (.builtin id) rr)(hg:Gl X x)(hm:X.mg x=none)(hv:Ax x=some (.builtin id))(ha:PAd X sd (e::es) rs)
  (h:∀ (σ:St) (F H:Hp) (vs:List V) (Q:VK),StF X.K X.B₀ F H σ sd->RsOk X.K F H sd rs vs->(∀w F' H',StF X.K X.B₀ F' H' σ sd->Same F F'->ResOk X.K F' H' sd r w->Q w H')->rr vs H Q)
  (hn:x≠"__name__":=by decide) (hdb:(x==("__debug__":Str))=false:=by decide) (he:AD (e::es) X.env=(false,eval e X.env)::AD es X.env:=by rfl) (hpl:(Ak pos<|AD es X.env).any (·.1)=false:=by rfl):
  PEd X sd (.Call (.Name x p) (e::es) [] pos) r:=.mk λσ F H S=>
 (aGB hc hg hm hv aFE hn hdb he hpl).to ((ha σ F H S).imp λvs H1 ⟨F1,S1,s1,q1⟩=>h σ F1 H1 vs _ S1 q1 λw F' H' S' s' q'=>⟨F',S',s1.trans s',q'⟩)
theorem qS{x:Str}{p:Pos}{T:String}{rr:List V->Hp->VK->Prop}{rs:List R}(hc:pV X (.type T) rr)(hg:Gl X x)(hm:X.mg x=none)(hv:Ax x=some (.type T))(ha:PAd X sd (e::es) rs)
  (h:∀ (σ:St) (F H:Hp) (vs:List V) (Q:VK),StF X.K X.B₀ F H σ sd->RsOk X.K F H sd rs vs->(∀w F' H',StF X.K X.B₀ F' H' σ sd->Same F F'->ResOk X.K F' H' sd r w->Q w H')->rr vs H Q)
  (hn:x≠"__name__":=by decide) (hdb:(x==("__debug__":Str))=false:=by decide) (he:AD (e::es) X.env=(false,eval e X.env)::AD es X.env:=by rfl) (hpl:(Ak pos<|AD es X.env).any (·.1)=false:=by rfl):
  PEd X sd (.Call (.Name x p) (e::es) [] pos) r:=.mk λσ F H S=>
 (zX hc hg hm hv aFE hn hdb he hpl).to ((ha σ F H S).imp λvs H1 ⟨F1,S1,s1,q1⟩=>h σ F1 H1 vs _ S1 q1 λw F' H' S' s' q'=>⟨F',S',s1.trans s',q'⟩)
theorem iT{p:Pos}(hg:Gl X "len")(hm:X.mg "len"=none)(ha:PEd X sd e (.bor ds))(hst:AD [e] X.env=(false,eval e X.env)::AD [] X.env:=by rfl):PEd X sd (.Call (.Name "len" p) [e] [] pos) (.val<|.int ds.length):=
 sX (he:=hst) sD hg hm PySem.boot_len (aD ha aS trivial hst) λσ F H vs Q S q k=>by
  cases q with
  |cons q1 q2=>cases q2;obtain⟨p,xs,rfl,hp,rl,_⟩:=q1;refine⟨p,xs,rfl,.inl<|.of hp,k _ F H S (Same.refl _) ?_⟩;simp only[ResOk,Rep,rl.len]
theorem aJf{p:Pos}{ns:List Int}(hg:Gl X "len")(hm:X.mg "len"=none)(ha:PEd X sd e (.val<|.scr ns))(hst:AD [e] X.env=(false,eval e X.env)::AD [] X.env:=by rfl):PEd X sd (.Call (.Name "len" p) [e] [] pos) (.val<|.int ns.length):=
 sX (he:=hst) sD hg hm PySem.boot_len (aD ha aS trivial hst) λσ F H vs Q S q k=>by
  cases q with
  |cons q1 q2=>cases q2;have q1:=Rep.mono S.sub q1;simp only[Rep] at q1;obtain⟨p,rfl,hp⟩:=q1;refine⟨p,_,rfl,.inl hp,k _ F H S (Same.refl _) ?_⟩;simp only[ResOk,Rep,aA]
theorem dS(h:E.nx sd):PSd X sd [] E:=.mk λσ F H S=>pss_nil.to ⟨sd,F,S,Same.refl _,h⟩
theorem aN(h:PSd1 X sd st {E with nx:=λsd'=>PSd X sd' rest E}):PSd X sd (st::rest) E:=.mk λσ F H S=>
 (aGl aOT wX).to (wS.imp (h σ F H S) (fun σ' H' ⟨sd',F',S',s',q⟩=>(q σ' F' H' S').imp (fun σ2 H2 ⟨sd2,F2,S2,s2,q2⟩=>⟨sd2,F2,S2,s'.trans s2,q2⟩) (fun v H2 q2=>q2)
  (λσ2 H2 ⟨sd2,F2,S2,s2,q2⟩=>⟨sd2,F2,S2,s'.trans s2,q2⟩) λσ2 H2 ⟨sd2,F2,S2,s2,q2⟩=>⟨sd2,F2,S2,s'.trans s2,q2⟩) (λv H q=>q) (λσ H q=>q) λσ H q=>q)
theorem bG(h:PSd1 X sd st E):PSd X sd [st] E:=.mk λσ F H S=>(aJY aOT).to<|h σ F H S
theorem cJ(h:PEd X sd e r)(hr:match r with | .bor _=>False|_=>True)(hE:E.rt r):PSd1 X sd (.Return (some e) pos) E:=.mk λσ F H S=>
 (aBs gI).to ((h σ F H S).imp fun v H' ⟨F',S',s',q⟩=>⟨r,⟨F',S'.base,S'.sub,S'.smp,by
  cases r with
  |val d=>exact q
  |own ds=>obtain⟨l,xs,a,b,c,d,_⟩:=q;exact⟨l,xs,a,b,c,d,by simp[cF]⟩
  |pr d ls=>obtain⟨t,l,xs,y,a,b,c,d,e,f,_⟩:=q;exact⟨t,l,xs,y,a,b,c,d,e,f,by simp[cF]⟩
  |ox G=>obtain⟨ls,nd,h,g⟩:=q;exact⟨ls,nd,λl hl=>⟨(h l hl).1,(h l hl).2.1,by simp[cF]⟩,g⟩
  |bor ds=>exact hr.elim⟩,hE⟩)
theorem mG(i:Nat){x:Str}{p:Pos}{l:BJ}(hs:sd[i]? =some (.own l ds))(h:PE X (.Name x p) (qY i))(hE:E.rt (.own ds)):PSd1 X sd (.Return (some<|.Name x p) pos) E:=.mk λσ F H S=>
 (aBs h).to (by
  obtain⟨o,h1,h2,n,xs,q,rl⟩:=S.slots.get hs
  exact⟨.ref l,by rw[h1,h2],.own ds,⟨F,S.base,S.sub,S.smp,l,xs,rfl,n,q,rl,by simp[cF]⟩,hE⟩)
theorem kI{k:Bool}{a o:List BN}(h:PTd X sd c k)(h1:k=true->PSd X sd a E)(h2:k=false->PSd X sd o E):PSd1 X sd (.If c a o pos) E:=.mk λσ F H S=>
 (aNs aKj wX wX).to ((h σ F H S).imp fun k' H' ⟨e,F',S',s'⟩=>by
  have up:∀ {sts:List BN},PSd X sd sts E->wSs X sts (lft X F E) σ H':=λh=>(h σ F' H' S').imp (λσ2 H2 ⟨sd2,F2,S2,s2,q2⟩=>⟨sd2,F2,S2,s'.trans s2,q2⟩) (λv H2 q2=>q2)
   (λσ2 H2 ⟨sd2,F2,S2,s2,q2⟩=>⟨sd2,F2,S2,s'.trans s2,q2⟩) λσ2 H2 ⟨sd2,F2,S2,s2,q2⟩=>⟨sd2,F2,S2,s'.trans s2,q2⟩
  subst e;cases k' with
  |true=>exact aIz (up<|h1 rfl)
  |false=>exact aIv (up (h2 rfl)))
theorem kN:∀ {sd:List Slot}{z:Slot} (i:Nat),(cF sd).Nodup->(∀l,l∈jZ z->l∉cF sd\/(∃z',sd[i]? =some z'/\l∈jZ z'))->(hz:(jZ z).Nodup:=by simp[jZ])->(cF<|sd.set i z).Nodup/\∀l,l∈cF (sd.set i z)->l∈cF sd\/l∈jZ z
 |[],z,i,h,_,_=>⟨h,λl hl=>.inl hl⟩
 |z'::zs,z,0,h,hz,nz=>by
  show(jZ z++cF zs).Nodup/\∀l,l∈jZ z++cF zs->_;obtain⟨n1,n2,n3⟩:=cX.mp (show(jZ z'++cF zs).Nodup from h);refine⟨cX.mpr ⟨nz,n2,λa ha b hb e=> ?_⟩,λl hl=> ?_⟩
  ·subst e
   rcases hz a ha with y|⟨z2,e2,y⟩
   ·exact y<|aC _ hb
   ·have:z'=z2:=by simpa using e2
    subst this;exact n3 a y a hb rfl
  ·rcases aJ.mp hl with y|y
   ·exact .inr y
   ·exact .inl<|aC _ y
 |z'::zs,z,i+1,h,hz,nz=>by
  show(jZ z'++cF (zs.set i z)).Nodup/\∀l,l∈jZ z'++cF (zs.set i z)->_;obtain⟨n1,n2,n3⟩:=cX.mp (show(jZ z'++cF zs).Nodup from h)
  obtain ⟨i1,i2⟩:=kN (sd:=zs) (z:=z) i n2 (fun l hl=>by
   rcases hz l hl with y|⟨z2,e2,y⟩
   ·exact .inl λq=>y<|aC _ q
   ·exact .inr ⟨z2,by simpa using e2,y⟩) nz
  refine⟨cX.mpr ⟨n1,i1,λa ha b hb e=> ?_⟩,λl hl=> ?_⟩
  ·subst e
   rcases i2 a hb with y|y
   ·exact n3 a ha a y rfl
   ·rcases hz a y with y|⟨z2,e2,y⟩
    ·exact y<|aU _ ha
    ·have m:a∈cF zs:=fR.mpr ⟨z2,cU (by simpa using e2),y⟩;exact n3 a ha a m rfl
  ·rcases aJ.mp hl with y|y
   ·exact .inl<|aU _ y
   ·rcases i2 l y with y|y
    ·exact .inl<|aC _ y
    ·exact .inr y
theorem StF.set(S:StF K H₀ F H σ sd)(i:Nat)(q:Rep K F d v):StF K H₀ F H (σ.set i (some v)) (sd.set i<|.val d):=
 ⟨S.base,S.sub,S.smp,S.slots.set (z:=.val d) ⟨v,rfl,q⟩ i,(kN i S.nd λl e=>by simp[jZ] at e).1⟩
theorem StF.setO{l:BJ}{xs:List V}(S:StF K H₀ F H σ sd)(i:Nat)(n:F l=none)(h:H l=some (.lst xs))(q:RepL K F ds xs)(no:l∉cF sd):StF K H₀ F H (σ.set i (some<|.ref l)) (sd.set i<|.own l ds):=
 ⟨S.base,S.sub,S.smp,S.slots.set (z:=.own l ds) ⟨rfl,n,xs,h,q⟩ i,(kN i S.nd λl' e=>by rw[bA.mp e];exact .inl no).1⟩
theorem jW(i:Nat){x:Str}{p:Pos}(hN:X.N.Nodup)(hi:X.N[i]? =some x)(hx:Loc X.env.scope x)(h:PEd X sd e (.val d))(hE:E.nx (sd.set i<|.val d))(hs:Af e (some<|.Name x p) pos.line X.env=pure false:=by rfl)
  (hf:X.fn x=true\/X.env.scope.names.lookup x=some .local:=by first|exact .inl rfl|exact .inr rfl|assumption):PSd1 X sd (.Assign [.Name x p] e pos) E:=.mk λσ F H S=>
 (tS hN hi hx gI hs hf).to ((h σ F H S).imp λv H' ⟨F',S',s',q⟩=>⟨_,F',S'.set i q,s',hE⟩)
theorem qC(i:Nat){x:Str}{p:Pos}(hN:X.N.Nodup)(hi:X.N[i]? =some x)(hx:Loc X.env.scope x)(h:PEd X sd e (.own ds))(hE:∀l,E.nx (sd.set i<|.own l ds))(hs:Af e (some<|.Name x p) pos.line X.env=pure false:=by rfl)
  (hf:X.fn x=true\/X.env.scope.names.lookup x=some .local:=by first|exact .inl rfl|exact .inr rfl|assumption):PSd1 X sd (.Assign [.Name x p] e pos) E:=.mk λσ F H S=>
 (tS hN hi hx gI hs hf).to ((h σ F H S).imp λv H' ⟨F',S',s',l,xs,e,n,q,rl,no⟩=>⟨_,F',by subst e;exact S'.setO i n q rl no,s',hE l⟩)
noncomputable def Le:List Slot->List Slot->Prop
 |[],[]=>True
 |x::xs,y::ys=>(y=.un\/x=y)/\Le xs ys
 |_,_=>False
theorem Le.refl:∀ (sd:List Slot),Le sd sd
 |[]=>trivial
 |_::xs=>⟨.inr rfl,Le.refl xs⟩
theorem Le.own:∀ {sd sd':List Slot},Le sd sd'->(cF sd').Sublist (cF sd)
 |[],[],_=>List.Sublist.refl _
 |[],_::_,h=>h.elim
 |_::_,[],h=>h.elim
 |x::xs,y::ys,h=>by
  obtain⟨h1,h2⟩:=h;have ih:=Le.own h2
  rcases h1 with rfl|rfl
  ·exact ih.trans<|List.sublist_append_right _ _
  ·exact List.Sublist.append (List.Sublist.refl _) ih
theorem Le.slots:∀ {sd sd':List Slot}{σ:St},Le sd sd'->SlotsOk K F H sd σ->SlotsOk K F H sd' σ
 |[],[],_,_,h=>h
 |[],_::_,_,h,_=>h.elim
 |_::_,[],_,h,_=>h.elim
 |x::xs,y::ys,σ,h,q=>by
  obtain⟨h1,h2⟩:=h;obtain⟨o,r,rfl,a,b⟩:=q;refine⟨o,r,rfl, ?_,Le.slots h2 b⟩
  rcases h1 with rfl|rfl
  ·trivial
  ·exact a
theorem StF.le{sd':List Slot}(S:StF K H₀ F H σ sd)(h:Le sd sd'):StF K H₀ F H σ sd':=⟨S.base,S.sub,S.smp,h.slots S.slots,S.nd.sublist h.own⟩
theorem wD{sd':List Slot}{sts:List BN}(h:Le sd sd')(q:PSd X sd' sts E):PSd X sd sts E:=.mk λσ F H S=>q σ F H<|S.le h
theorem aLy{F₀:Hp}{sts:List BN}(s:Same F₀ F)(h:wSs X sts (lft X F E) σ H):wSs X sts (lft X F₀ E) σ H:=
 h.imp (λσ2 H2 ⟨sd2,F2,S2,s2,q2⟩=>⟨sd2,F2,S2,s.trans s2,q2⟩) (λv H2 q2=>q2) (λσ2 H2 ⟨sd2,F2,S2,s2,q2⟩=>⟨sd2,F2,S2,s.trans s2,q2⟩) λσ2 H2 ⟨sd2,F2,S2,s2,q2⟩=>⟨sd2,F2,S2,s.trans s2,q2⟩
theorem kJ:∀ (sd:List Slot) (i:Nat),Le sd (sd.set i .un)
 |[],_=>trivial
 |_::xs,0=>⟨.inl rfl,Le.refl xs⟩
 |_::xs,i+1=>⟨.inr rfl,kJ xs i⟩
theorem oS:∀ {sd:List Slot}{i:Nat}{l:BJ}{z:Slot},(cF sd).Nodup->sd[i]? =some z->l∈jZ z->l∉cF (sd.set i .un)
 |[],_,_,_,_,e,_=>by simp at e
 |y::zs,0,l,z,h,e,hl=>by
  have:y=z:=by simpa using e
  subst this;obtain⟨n1,n2,n3⟩:=cX.mp (show(jZ y++cF zs).Nodup from h);exact λhm=>n3 l hl l hm rfl
 |y::zs,i+1,l,z,h,e,hl=>by
  have e':zs[i]? =some z:=by simpa using e
  obtain⟨n1,n2,n3⟩:=cX.mp (show(jZ y++cF zs).Nodup from h);have ml:l∈cF zs:=fR.mpr ⟨_,cU e',hl⟩;intro hm
  rcases aJ.mp (show l∈jZ y++cF (zs.set i .un) from hm) with q|q
  ·exact n3 l q l ml rfl
  ·exact oS n2 e' hl q
theorem qU{i:Nat}{l:BJ}(h:(cF sd).Nodup)(e:sd[i]? =some (.own l ds)):l∉cF (sd.set i .un):=oS h e<|dN l
theorem sV{i:Nat}{o:Option V}(h:σ[i]? =some o):σ.set i o=σ:=by obtain⟨hi,e⟩:=aZ.mp h;rw[<-e];exact List.set_getElem_self hi
theorem qO(sd:List Slot)(i:Nat)(x y:Slot):(sd.set i x).set i y=sd.set i y:=by simp
theorem StF.wr{i:Nat}{l:BJ}{ds':List D}{xs':List V}(S:StF K H₀ F H σ sd)(hs:sd[i]? =some (.own l ds))(rl:RepL K F ds' xs'):StF K H₀ F (upd H l<|.lst xs') σ (sd.set i<|.own l ds'):=by
 obtain⟨o,h1,h2,n,xs,q,_⟩:=S.slots.get hs;have no:=qU S.nd hs;have S0:=S.le<|kJ sd i;refine⟨S.base,λb u e=> ?_,λb u e=> ?_, ?_, ?_⟩
 ·rw[bU<|cA e n];exact S.sub _ _ e
 ·by_cases h:b=l
  ·subst h;rw[cD] at e;cases e;trivial
  ·rw[bU h] at e;exact S.smp _ _ e
 ·have q1:SlotsOk K F (upd H l<|.lst xs') (sd.set i .un) σ:=S0.slots.mono (Same.refl _) λl' hl=>by
   obtain⟨n',ys,q',_⟩:=S0.slots.owns hl;have hne:l'≠l:=λz=>no<|z▸hl
   exact⟨n',λys e=>by rw[bU hne];exact e⟩
  have q2:=q1.set (z:=.own l ds') (o:=some<|.ref l) ⟨rfl,n,xs',cD,rl⟩ i;rw[qO,sV<|by rw[h1,h2]] at q2;exact q2
 ·have:=kN (z:=Slot.own l ds') i S0.nd λl' e=>by rw[bA.mp e];exact .inl no
  rw[qO] at this;exact this.1
theorem nJ(i:Nat){l:BJ}{sts:List BN}(hs:sd[i]? =some (.own l ds))(h:PSd X (sd.set i (.val<|.lst ds)) sts E):PSd X sd sts E:=.mk λσ F H S=>by obtain⟨o,h1,h2,n,xs,q,rl⟩:=S.slots.get hs;have S0:=S.le<|kJ sd i;obtain⟨S1,s1⟩:=S0.freeze q n<|qU S.nd hs;have S2:=S1.set (d:=.lst ds) (v:=.ref l) i (by simp only[Rep];exact⟨l,xs,rfl,cD,rl.mono s1⟩);rw[qO,sV<|by rw[h1,h2]] at S2;exact aLy s1<|h σ _ H S2
theorem kM(i:Nat){x:Str}{p ap cp:Pos}{l:BJ}(hs:sd[i]? =some (.own l ds))(hx:PE X (.Name x p) (qY i))(h:PEd X sd e (.val d))(hl:ds.length<=1000)(hE:E.nx (sd.set i (.own l<|ds++[d])))
  (hst:AD (e::[]) X.env=(false,eval e X.env)::AD [] X.env:=by rfl)
  (hm:PE X (.Call (.Attribute (.Name x p) "append" ap) [e] [] cp) (tBM X.K "list" aEk (qY i)<|xI (wE X e) aKl):=by exact aFO jP PySem.F.slot_list_append PySem.F.type_list_append aFc (pv _) (lZ gI pa_nil))
  (hsw:Af (.Call (.Attribute (.Name x p) "append" ap) [e] [] cp) none pos.line X.env=pure false:=by rfl):
  PSd1 X sd (.Expr (.Call (.Attribute (.Name x p) "append" ap) [e] [] cp) pos) E:=.mk λσ F H S=>
 (aDT hm hsw).to (by
  obtain⟨o,h1,h2,n,xs,q,rl⟩:=S.slots.get hs;refine⟨.ref l,by rw[h1,h2],.inl ⟨rfl,xs,.of q⟩,(h σ F H S).imp λv H1 ⟨F1,S1,s1,q1⟩=> ?_⟩;obtain⟨o',h1',h2',n',xs',q',rl'⟩:=S1.slots.get hs
  exact⟨l,xs',v,rfl,rfl,q',by rw[rl'.len];exact gO hl,_,F1,S1.wr hs (rl'.app (.one q1)),s1,hE⟩)
theorem yI(i:Nat){x:Str}{p ap cp:Pos}{l:BJ}{ds2:List D}(hs:sd[i]? =some (.own l ds))(hx:PE X (.Name x p) (qY i))(h:PEd X sd e (.val<|.lst ds2))(hl:ds.length+ds2.length<=1000)(hE:E.nx (sd.set i (.own l<|ds++ds2)))
  (hst:AD (e::[]) X.env=(false,eval e X.env)::AD [] X.env:=by rfl)
  (hm:PE X (.Call (.Attribute (.Name x p) "extend" ap) [e] [] cp) (tBM X.K "list" aDD (qY i)<|xI (wE X e) aKl):=by exact aFO jP PySem.F.slot_list_extend PySem.F.type_list_extend aEG (pv _) (lZ gI pa_nil))
  (hsw:Af (.Call (.Attribute (.Name x p) "extend" ap) [e] [] cp) none pos.line X.env=pure false:=by rfl):
  PSd1 X sd (.Expr (.Call (.Attribute (.Name x p) "extend" ap) [e] [] cp) pos) E:=.mk λσ F H S=>
 (aDT hm hsw).to (by
  obtain⟨o,h1,h2,n,xs,q,rl⟩:=S.slots.get hs;refine⟨.ref l,by rw[h1,h2],.inl ⟨rfl,xs,.of q⟩,(h σ F H S).imp λv H1 ⟨F1,S1,s1,q1⟩=> ?_⟩;obtain⟨o',h1',h2',n',xs',q',rl'⟩:=S1.slots.get hs;simp only[ResOk,Rep] at q1;obtain⟨b,zs,rfl,hb,rb⟩:=q1
  exact⟨l,b,xs',zs,rfl,rfl,q',S1.sub _ _ hb,by rw[rl'.len,rb.len];exact cZ (gO hl),_,F1,S1.wr hs (rl'.app rb),s1,hE⟩)
noncomputable def spC(K:aB)(n:Nat)(C:List D->R->Prop):Sp:=λvs H Q _=>vs.length=n/\Smp H/\∃ds r,RepL K H ds vs/\C ds r/\∀v H',aDf K H H' r v->Q v H'
noncomputable def spF(K:aB)(n:Nat)(C:List D->R->Prop):Sp:=λvs H Q _=>vs.length=n/\Smp H/\∃F ds r,Same F H/\RepL K F ds vs/\C ds r/\∀v F2 F3 H',Same F F2->Same F2 F3->Same F3 H'->Same H H'->Smp H'->(∀b o,H b=some o->F b=none->F3 b=none)->ResOk K F2 F3 [] r v->Q v H'
noncomputable def merge(F H:Hp):Hp:=λb=>match F b with
 |some o=>some o
 |none=>H b
theorem vB:Same F (merge F H):=λb o e=>by unfold merge;rw[e]
theorem vC{b:BJ}(h:F b=none):merge F H b=H b:=by unfold merge;rw[h]
theorem FnOk.framed{P:AI}{w:AL}{mg:Str->Option BH}{base:BL}{k n:Nat}{f:BJ}{fd:AV}{ps:List Str}{C:List D->R->Prop}(G:FnOk P w K mg base CX0 k f fd ps (spC K n C)):FnOk P w K mg base CX0 k f fd ps (spF K n C):=by
 refine⟨λvs H Q E h=> ?_,λA outer s H args us vs Q E hr e0 hb rv h=> ?_⟩
 ·obtain⟨hl,sm,F,ds,r,sF,rl,c,_⟩:=h;exact G.len vs F (λ_ _=>True) E ⟨hl,sm.sub sF,ds,r,rl,c,λ_ _ _=>trivial⟩
 ·obtain⟨hl,sm,F,ds,r,sF,rl,c,q⟩:=h;have e1:aKD P w K mg base A outer s F:=⟨e0.frames,e0.mod,λb o e=>⟨(e0.bs b o e).1,sF.free (e0.bs b o e).2⟩,e0.bsz,e0.funs,λb hb=>sF.free<|e0.frf b hb,λb o e=>(e0.hok b o<|sF b o e).smp (sm b o<|sF b o e),e0.bare⟩;refine BC (G.run A outer s F args us vs (λv F3=>aDf K F F3 r v) E hr e1 hb rv ⟨hl,sm.sub sF,ds,r,rl,c,λv H' z=>z⟩) λrr s' hrr=> ?_
  cases rr with
  |error e=>exact hrr
  |ok fl=>
   cases fl with
   |ret u=>
    obtain⟨v,F3,ho,ha,un,hk,ru,F2,s1,s2,sm3,res⟩:=hrr
    have keepF:∀b o,H b=some o->F b=none->F3 b=none:=λb o e n=>by
     have lt:=e0.hok.lt e;cases g:s.heap.get? b with
     |none=>
      exfalso;have ob:=e0.hok b o e;have z:=sm b o e;cases o with
      |lst xs=>obtain⟨_,_,_,_,g'⟩:=ob;rw[g] at g';cases g'
      |tup xs=>obtain⟨_,_,_,oo,g',_⟩:=ob;rw[g] at g';cases g'
      |dK kvs=>obtain⟨_,_,_,_,oo,_,_,g',_⟩:=ob;rw[g] at g';cases g'
      |frz o2 u2=>obtain⟨g',_⟩:=ob;rw[g] at g';cases g'
      |ext φ=>obtain⟨_,⟨oo,g'⟩,_⟩:=ob;rw[g] at g';cases g'
      |_=>exact z
     |some ob=>exact un.free b ob g n<|by simp
    have keepO:∀b o,H b=some o->F b=none->∀ob,s.heap.get? b=some ob->s'.heap.get? b=some ob:=λb o e n ob g=>un.keep b ob g n (λhb=>by have:=e0.frf b hb;rw[e] at this;cases this)<|by simp
    have sH:Same H (merge F3 H):=λb o e=>by
     cases g:F b with
     |none=>rw[vC<|keepF b o e g];exact e
     |some o'=>have:=sF b o' g;rw[e] at this;cases this;exact vB _ _ (s2 _ _<|s1 _ _ g)
    have smM:Smp (merge F3 H):=λb o e=>by
     cases g:F3 b with
     |some o'=>have:=vB (H:=H) b o' g;rw[e] at this;cases this;exact sm3 b o g
     |none=>rw[vC g] at e;exact sm b o e
    refine⟨v,merge F3 H,ho,ha,⟨λb o g n hb hx=>un.keep b o g (sF.free n) hb hx,λb o g n hb hx=>un.slot b o g (sF.free n) hb hx,λb o g n hx=> ?_,un.there,λb xs e=>sH _ _ e,λb o u e=>sH _ _ e,λb ps e=>⟨#[],by rw[sH _ _ e];simp⟩⟩,λb o e=> ?_,ru, ?_⟩
    ·rw[vC<|un.free b o g (sF.free n) hx];exact n
    ·have z:=smM b o e;cases g:F3 b with
     |some o'=>have:=vB (H:=H) b o' g;rw[e] at this;cases this;exact(hk b o g).smp z
     |none=>
      rw[vC g] at e
      have n:F b=none:=by
       cases g2:F b with
       |none=>rfl
       |some o2=>rw[s2 _ _<|s1 _ _ g2] at g;cases g
      have st:=(e0.hok b o e).smp (F:=λ_=>none) z
      have:ObjOk P w (fun _=>none) s'.heap b o:=st.stay (fun b2 u hb2 gg=>by
       rcases hb2 with rfl|hb2
       ·exact keepO _ o e n u gg
       ·cases hb2) (λb2 hb2=>nomatch hb2) λb2 xs hb2=>nomatch hb2
      exact this.smp z
    ·exact q v F2 F3 (merge F3 H) s1 s2 vB sH smM keepF res
   |_=>exact hrr
structure bV(P:AI)(w:AL)(K:aB)(mg:Str->Option BH)(base:BL)(x:Str)(k n:Nat)(C:List D->R->Prop):Prop where
 ex:∃ (f:BJ) (fd:AV) (ps:List Str),mg x=some (.ref f)/\eJ K (.ref f)=true/\Binds K fd ps []/\FnOk P w K mg base CX0 k f fd ps (spC K n C)
theorem bY{x:Str}{p:Pos}{k n:Nat}{C:List D->R->Prop}(G:bV X.prog X.w X.K X.mg X.base x k n C)(hr:Room k X.A)(hg:Gl X x)(ha:PAd X sd (e::es) (ds.map R.val))(hc:C ds r)(hb:match r with | .bor _=>False|_=>True)(hn:ds.length=n)
  (hdb:(x==("__debug__":Str))=false:=by decide) (he:AD (e::es) X.env=(false,eval e X.env)::AD es X.env:=by rfl) (hpl:(Ak pos<|AD es X.env).any (·.1)=false:=by rfl):
  PEd X sd (.Call (.Name x p) (e::es) [] pos) r:=.mk λσ F H S=>by
 obtain⟨f,fd,ps,hm,hk,bd,G⟩:=G.ex;refine(aJH (FnOk.framed G) hr hg hm hk bd .nil aOj aFE hdb he hpl).to<|(ha σ F H S).imp λvs H1 ⟨F1,S1,s1,q1⟩=> ?_;have rl:=q1.vals;refine⟨by rw[eO,rl.len];exact hn,S1.smp,F1,ds,r,S1.sub,by rw[eO];exact rl,hc,λv F2 F3 H' s2 s3 s4 sH sm kp res=> ?_⟩
 have no:∀l,l∈cF sd->F2 l=none/\F3 l=none:=λl hl=>by obtain⟨n1,xs,q,_⟩:=S1.slots.owns hl;have n3:=kp l _ q n1;exact⟨s3.free n3,n3⟩
 refine⟨F2,⟨λb o e=>s2 _ _<|S1.base _ _ e,s3.trans s4,sm,S1.slots.mono s2 λl hl=>⟨(no l hl).1,λys e=>sH _ _ e⟩,S1.nd⟩,s1.trans s2, ?_⟩;cases r with
 |val d=>exact res
 |own ds'=>obtain⟨l,xs,e,n,q,rl',_⟩:=res;exact⟨l,xs,e,n,s4 _ _ q,rl',λhl=>by rw[(no l hl).2] at q;cases q⟩
 |pr d ls=>obtain⟨t,l,xs,y,e,f,g,n,q,rl',_⟩:=res;exact⟨t,l,xs,y,e,f,g,n,s4 _ _ q,rl',λhl=>by rw[(no l hl).2] at q;cases q⟩
 |ox G=>obtain⟨ls,nd,h,g⟩:=res;refine⟨ls,nd,λl hl=> ?_,λF' H'' sF k=>g F' H'' sF λl hl ob q=>k l hl ob<|s4 _ _ q⟩;obtain⟨n,⟨ob,q,w⟩,_⟩:=h l hl;exact⟨n,⟨ob,s4 _ _ q,w⟩,λhm=>by rw[(no l hm).2] at q;cases q⟩
 |bor ds'=>exact hb.elim
noncomputable def R.toD:R->D
 |.val d=>d
 |.own ds=>.lst ds
 |.bor ds=>.lst ds
 |.pr d ls=>.tup [d,.lst ls]
 |.ox _=>.non
noncomputable def init(n:Nat)(ds:List D):List Slot:=ds.map Slot.val++dM (n-ds.length) .un
theorem aCf{K:aB}{F H:Hp}:∀n:Nat,SlotsOk K F H (dM n .un) (dM n none)
 |0=>rfl
 |n+1=>⟨none,dM n none,rfl,trivial,aCf n⟩
theorem rO{K:aB}{F H:Hp}{m n:Nat}:∀ {ds:List D}{vs:List V},RepL K F ds vs->SlotsOk K F H (ds.map Slot.val++dM n .un) (vs.map some++dM n none)
 |[],vs,r=>by simp only[RepL] at r;subst r;exact aCf n
 |d::ds,vs,r=>by obtain⟨y,ys,rfl,a,rl⟩:=r.uncons;exact⟨some y,_,rfl,⟨y,rfl,a⟩,rO (m:=m) rl⟩
theorem rL(n:Nat):∀ds:List D,cF (ds.map Slot.val++dM n .un)=[]
 |[]=>by
  induction n with
  |zero=>rfl
  |succ n ih=>exact ih
 |_::ds=>rL n ds
theorem aHK{P:AI}{w:AL}{mg:Str->Option BH}{base:BL}{x qual:Str}{f:BJ}{fd:AV}{N ps:List Str}{k:Nat}{C:List D->R->Prop}(F:Fun K x qual st f fd)(S:nF N ps (bJ st))
  (body:∀ (cdv:BH) (A:BK) (outer:List Env) (s:BI) (H:Hp) (E:XK),Room k (A.deeper (Aj qual (bJ st) s.heap.objs.size f cdv))→∀ds r,ds.length=ps.length→C ds r→
   PSd (oM CX0 P w K mg base N qual (bJ st) f cdv A outer s H E).nox (init N.length ds) (fV st) {nx:=λ_=>r=.val .non,rt:=λr'=>r'=r}):FnOk P w K mg base CX0 (k+1) f fd ps (spC K ps.length C):=by
 refine F.ok S (λvs H Q E h=>h.1) λcdv A outer s H vs Q E hr h=> ?_
 obtain⟨hl,sm,ds,r,rl,c,q⟩:=h;have hds:ds.length=ps.length:=by rw[<-rl.len];exact hl
 refine⟨_,wX, ?_⟩;have hlen:N.length-vs.length=N.length-ds.length:=by rw[rl.len]
 have S0:StF K H H H (L2.start N vs) (init N.length ds):=by
  refine⟨Same.refl _,Same.refl _,sm, ?_, ?_⟩
  ·unfold L2.start init;rw[hlen];exact rO (m:=0) rl
  ·unfold init;rw[rL];exact eD
 refine(body cdv A outer s H E hr ds r hds c (L2.start N vs) H H S0).imp ?_ ?_ (λ_ _ ⟨_,_,_,_,z⟩=>z) λ_ _ ⟨_,_,_,_,z⟩=>z
 ·rintro σ' H' ⟨sd',F',S',s',e⟩;have e:r=.val .non:=e;subst e;exact q .non H' ⟨F',S'.base,S'.sub,S'.smp,by simp only[ResOk,Rep]⟩
 ·rintro v H' ⟨r',ro,e⟩;have e:r'=r:=e;subst e;exact q v H' ro
theorem aMo{P:AI}{w:AL}{mg:Str->Option BH}{base:BL}{x qual:Str}{f:BJ}{fd:AV}{N ps:List Str}{k:Nat}{C:List D->R->Prop}(F:Fun K x qual st f fd)(S:nF N ps (bJ st))
  (hm:mg x=some (.ref f)) (hb:∀ (kV doc pm:BH) (an:Option BJ) (cdv ct:BH) (us:List BH),us.length=ps.length->bindArgs (eQ x qual (iS st) (fV st) (bJ st) .none kV doc pm an cdv ct) ⟨us,[]⟩=pure (ps.zip us))
  (body:∀ (cdv:BH) (A:BK) (outer:List Env) (s:BI) (H:Hp) (E:XK),Room k (A.deeper (Aj qual (bJ st) s.heap.objs.size f cdv))→∀ds r,ds.length=ps.length→C ds r→
   PSd (oM CX0 P w K mg base N qual (bJ st) f cdv A outer s H E).nox (init N.length ds) (fV st) {nx:=λ_=>r=.val .non,rt:=λr'=>r'=r}):bV P w K mg base x (k+1) ps.length C:=
 ⟨f,fd,ps,hm,F.kp,F.binds hb,aHK F S body⟩
variable {tg iter:Expr}
def ItD(K:aB)(F₁:Hp)(P:Hp->Hp->Prop)(J:It)(ds:List D):Prop:=∀ (F H:Hp),Same F₁ F->Same F H->Smp H->P F H->∀i,(i<ds.length->J.go i H)/\(ds.length<=i->J.stop i H)/\
 ∀x H' d,ds[i]? =some d->J.yld i H x H'->∃F',Same F F'/\Rep K F' d x/\∀H₀ σ sd,StF K H₀ F H σ sd->StF K H₀ F' H' σ sd
abbrev PT0:Hp->Hp->Prop:=λ_ _=>True
structure PId(X:Cx)(sd:List Slot)(P:Hp->Hp->Prop)(tg iter:Expr)(ds:List D):Prop where
 run:∀ (σ:St) (F H:Hp),StF X.K X.B₀ F H σ sd->
 wI X tg iter σ H λJ H1=>∃F1,StF X.K X.B₀ F1 H1 σ sd/\Same F F1/\ItD X.K F1 P J ds
instance {X:Cx}{sd:List Slot}{P:Hp→Hp→Prop}{tg iter:Expr}{ds:List D}:CoeFun (PId X sd P tg iter ds) (fun _=>∀ (σ:St) (F H:Hp),StF X.K X.B₀ F H σ sd→
 wI X tg iter σ H λJ H1=>∃F1,StF X.K X.B₀ F1 H1 σ sd/\Same F F1/\ItD X.K F1 P J ds):=⟨PId.run⟩
theorem _root_.L2.PI.to{wi:TI}{R:It->Hp->Prop}(h:PI X tg iter wi)(q:wi σ H R):wI X tg iter σ H R:=λpins s I=>h pins s σ H R I q
theorem gR(h:PEd X sd iter (.val<|.lst ds)):PId X sd PT0 tg iter ds:=.mk λσ F H S=>
 (aJr gI).to ((h σ F H S).imp fun v H1 ⟨F1,S1,s1,q1⟩=>by
  simp only[ResOk,Rep] at q1;obtain⟨l,xs,rfl,hl,rl⟩:=q1;refine⟨l,rfl,⟨xs,.of<|S1.sub _ _ hl⟩,F1,S1,s1,λF' H' sF sH sm _ i=> ?_⟩;have hl':=sH _ _<|sF _ _ hl;refine⟨λhi=>⟨xs,xs[i]'(by rw[rl.len];exact hi),.of hl',by simp[rl.len,hi]⟩,λhi=>⟨xs,.of hl',by rw[rl.len];exact hi⟩,λx H2 d hd y=> ?_⟩;obtain⟨rfl,y⟩:=y;obtain⟨v,hv,rv⟩:=rl.get hd;have:=y xs<|.of hl';rw[hv] at this;cases this
  exact⟨F',Same.refl _,rv.mono sF,λ_ _ _ S=>S⟩)
theorem aDV(h:PEd X sd iter (.val<|.tup ds)):PId X sd PT0 tg iter ds:=.mk λσ F H S=>
 (aLp gI).to ((h σ F H S).imp fun v H1 ⟨F1,S1,s1,q1⟩=>by
  simp only[ResOk,Rep] at q1;obtain⟨l,xs,rfl,hl,rl⟩:=q1;refine⟨l,rfl,⟨xs,.of<|S1.sub _ _ hl⟩,F1,S1,s1,λF' H' sF sH sm _ i=> ?_⟩;have hl':=sH _ _<|sF _ _ hl;refine⟨λhi=>⟨xs,xs[i]'(by rw[rl.len];exact hi),.of hl',by simp[rl.len,hi]⟩,λhi=>⟨xs,.of hl',by rw[rl.len];exact hi⟩,λx H2 d hd y=> ?_⟩;obtain⟨rfl,y⟩:=y;obtain⟨v,hv,rv⟩:=rl.get hd;have:=y xs<|.of hl';rw[hv] at this;cases this
  exact⟨F',Same.refl _,rv.mono sF,λ_ _ _ S=>S⟩)
noncomputable def gB(lo:Int)(n:Nat):List D:=(bK n).map λ(k:Nat)=>D.int<|lo+(k:Int)
theorem fA(lo:Int)(n:Nat):(gB lo n).length=n:=by simp[gB]
theorem eI{lo:Int}{n i:Nat}(h:(gB lo n)[i]? =some d):i<n/\d=.int (lo+(i:Int)):=by
 unfold gB at h;rw[bL] at h
 by_cases hi:i<n
 ·rw[rV hi] at h;exact⟨hi,(bT.inj h).symm⟩
 ·rw[cO<|by simpa using hi] at h;cases h
theorem aEF{F₁:Hp}{lo:Int}{n:Nat}:ItD K F₁ PT0 (Itr lo n) (gB lo n):=λF H _ _ _ _ i=>by refine⟨λhi=>by rw[fA] at hi;exact hi,λhi=>by rw[fA] at hi;exact hi,λx H' d hd y=> ?_⟩;obtain⟨rfl,rfl⟩:=y;obtain⟨_,rfl⟩:=eI hd;exact⟨F,Same.refl _,by simp only[Rep],λ_ _ _ S=>S⟩
theorem gE{p:Pos}{n:Nat}(hg:Gl X "range")(hm:X.mg "range"=none)(h:PEd X sd a (.val<|.int (n:Int)))(hn:(n:Int)<2^62)(hs:AD [a] X.env=[(false,eval a X.env)]:=by rfl):PId X sd PT0 tg (.Call (.Name "range" p) [a] [] pos) (gB 0 n):=.mk λσ F H S=>
 (aEI hg hm aFE hs).to ((aD h aS trivial hs σ F H S).imp fun vs H1 ⟨F1,S1,s1,q1⟩=>by
  cases q1 with
  |cons q1 q2=>
   cases q2;simp only[ResOk,Rep] at q1;subst q1
   exact⟨(n:Int),rfl,by omega,hn,F1,S1,s1,by rw[dG];exact aEF⟩)
structure PGd(X:Cx)(sd:List Slot)(tg:Expr)(d:D)(sd':List Slot):Prop where
 run:∀ (σ:St) (F H:Hp) (v:V),StF X.K X.B₀ F H σ sd->Rep X.K F d v->wG X tg v σ H λσ' H'=>∃F',StF X.K X.B₀ F' H' σ' sd'/\Same F F'
instance {X:Cx}{sd:List Slot}{tg:Expr}{d:D}{sd':List Slot}:CoeFun (PGd X sd tg d sd') (λ_=>∀ (σ:St) (F H:Hp) (v:V),StF X.K X.B₀ F H σ sd->Rep X.K F d v->wG X tg v σ H λσ' H'=>∃F',StF X.K X.B₀ F' H' σ' sd'/\Same F F'):=⟨PGd.run⟩
theorem _root_.L2.PG.to{t:TG}{Q:St->Hp->Prop}(h:PG X tg t)(q:t v σ H Q):wG X tg v σ H Q:=λpins s u I r=>h pins s σ H v u Q I r q
theorem eA(j:Nat)(h:PG X tg (aDc j)):PGd X sd tg d (sd.set j<|.val d):=.mk λσ F H v S q=>h.to ⟨F,S.set j q,Same.refl _⟩
noncomputable def gNs:List Nat->TGs
 |[]=>aOI
 |j::js=>aLk (aDc j)<|gNs js
noncomputable def aDn:List Slot->List Nat->List D->List Slot
 |sd,j::js,d::ds=>aDn (sd.set j<|.val d) js ds
 |sd,_,_=>sd
theorem aHv{K:aB}{H₀ F H:Hp}{Q:St->Hp->Prop}:∀ {js:List Nat}{ds:List D}{vs:List V}{σ:St}{sd:List Slot},js.length=ds.length->RepL K F ds vs->StF K H₀ F H σ sd->(∀σ',StF K H₀ F H σ' (aDn sd js ds)->Q σ' H)->gNs js vs σ H Q
 |[],[],vs,σ,sd,_,r,S,k=>by simp only[RepL] at r;exact⟨r,k σ S⟩
 |j::js,d::ds,vs,σ,sd,hl,r,S,k=>by obtain⟨y,ys,rfl,q,rl⟩:=r.uncons;exact⟨y,ys,rfl,aHv (by simpa using hl) rl (S.set j q) k⟩
 |[],_::_,_,_,_,hl,_,_,_=>by simp at hl
 |_::_,[],_,_,_,hl,_,_,_=>by simp at hl
theorem kS{k:Nat}{js:List Nat}(hc:X.calm=true)(h:PGs X es (gNs js))(hl:js.length=ds.length)(hn:(Ay es X.env).length=ds.length)(hst:(Ay es X.env).findIdx? (·.1)=none:=by rfl):PGd X sd (.Tuple es k pos) (.tup ds) (aDn sd js ds):=.mk λσ F H v S q=>
 (aLU hc h hn hst).to (by
  simp only[Rep] at q;obtain⟨a,xs,rfl,ha,rl⟩:=q
  exact⟨a,xs,rfl,.of (S.sub _ _ ha),rl.len,aHv hl rl S λσ' S'=>⟨F,S',Same.refl _⟩⟩)
theorem nI{body:List BN}{P:Hp->Hp->Prop}(Sd Td:Nat->List Slot)(hi:PId X sd P tg iter ds)(h0:Le sd (Sd 0))(hg:∀k d,ds[k]? =some d->PGd X (Sd k) tg d (Td k))
  (hb:∀k d,ds[k]? =some d->PSd X (Td k) body {E with nx:=λsd'=>Le sd' (Sd<|k+1),ct:=λsd'=>Le sd' (Sd<|k+1),bk:=E.nx}) (hE:E.nx (Sd ds.length)) (hP:∀k σ F H,StF X.K X.B₀ F H σ (Sd k)->P F H:=by intros;trivial)
  (hc:X.calm=true:=by rfl) (hp:PassesOwn (AF X.prog X.w) X.A X.env X.xe:=by exact PassesOwn.never) (hs:∀x,Ag iter X.env x=pure x:=by intro _;rfl):PSd1 X sd (.For tg iter body [] pos) E:=.mk λσ F H S=>
 (aHQ hp hc aOs aNj wX hs).to (by
  intro pins s I;refine thn (hi σ F H S pins s I) λv s1 h1=>thn h1 λitv s2 h2=> ?_
  obtain⟨it,fp,tn,J,H2,e,I2,T,st2,f2,F1,S1,s1',itd⟩:=h2;refine⟨it,fp,tn,J,H2,e,I2,T,st2,f2, ?_⟩;refine⟨λi m σ' H'=>m=ds.length-i/\i<=ds.length/\∃F',StF X.K X.B₀ F' H' σ' (Sd i)/\Same F1 F',⟨ds.length,by simp,bI _,F1,S1.le h0,Same.refl _⟩, ?_⟩;rintro i m σ' H' ⟨rfl,hil,F',S',s'⟩;obtain⟨g1,g2,g3⟩:=itd F' H' s' S'.sub S'.smp (hP _ _ _ _ S') i
  by_cases hlt:i<ds.length
  ·refine .inr ⟨g1 hlt,λσ2 H2=>∃F2,StF X.K X.B₀ F2 H2 σ2 (Sd<|i+1)/\Same F1 F2,λσ2 H2 ⟨F2,S2,s2⟩=>⟨ds.length-(i+1),by omega,rfl,hlt,F2,S2,s2⟩,λx H2 y=> ?_⟩;have hd:ds[i]? =some ds[i]:=by simp[hlt]
   obtain⟨F2,s2,rp,up⟩:=g3 x H2 ds[i] hd y;refine(hg i _ hd σ' F2 H2 x (up _ _ _ S') rp).imp λσ3 H3 ⟨F3,S3,s3⟩=> ?_
   have base:Same F1 F3:=(s'.trans s2).trans s3;refine(hb i _ hd σ3 F3 H3 S3).imp ?_ ?_ ?_ ?_
   ·rintro σ4 H4 ⟨sd4,F4,S4,s4,le⟩;exact⟨F4,S4.le le,base.trans s4⟩
   ·exact λv H4 q=>q
   ·rintro σ4 H4 ⟨sd4,F4,S4,s4,q⟩;exact⟨sd4,F4,S4,(s1'.trans base).trans s4,q⟩
   ·rintro σ4 H4 ⟨sd4,F4,S4,s4,le⟩;exact⟨F4,S4.le le,base.trans s4⟩
  ·have e:i=ds.length:=by omega
   subst e
   exact .inl ⟨g2 (aG _),Sd ds.length,F',S',s1'.trans s',hE⟩)
theorem Inv.retrack{pins:List (BJ×BM)}{s s':BI}(I0:Inv X pins σ H s):∀ (ls:List BJ),ls.Nodup->(∀l∈ls,F l=none/\(∃xs,H l=some xs/\Wr l xs)/\∀o,s.heap.get? l=some o->s'.heap.get? l=some o)->Inv X pins σ F s'->Inv X pins σ (λb=>if b∈ls then H b else F b) s'
 |[],_,_,I=>by simpa using I
 |l::ls,nd,h,I=>by
  obtain⟨nl,nd'⟩:=fB.mp nd;have J:=Inv.retrack I0 ls nd' (λl' hl=>h l'<|aO _ hl) I;obtain⟨n,⟨xs,hx,wx⟩,kp⟩:=h l aK
  have e:(λb=>if b∈l::ls then H b else F b)=upd (λb=>if b∈ls then H b else F b) l xs:=by
   funext b;unfold upd
   by_cases hb:b=l
   ·subst hb;simp[hx]
   ·simp[hb]
  rw[e];have n':(λb=>if b∈ls then H b else F b) l=none:=by simp[nl,n]
  have ob:=I0.hok l _ hx;clear e;generalize (λb=>if b∈ls then H b else F b)=G at J n' ⊢;refine⟨J.ok,J.os,J.bare,⟨J.base.keep,J.base.slot,λb u g n0 hx0=> ?_,J.base.there,λb ys g=> ?_,λb u ys g=> ?_,λb ps g=> ?_⟩,J.loc,J.cell, ?_,λx c g=> ?_,λp hp=> ?_,J.hok.track n' ?_,J.len⟩
  ·have hb:b≠l:=λq=>by subst q;have:=I0.base.free b u g n0 hx0;rw[hx] at this;cases this
   rw[bU hb];exact J.base.free b u g n0 hx0
  ·have q:=J.base.tups b ys g;rw[bU<|cA q n'];exact q
  ·have q:=J.base.frzs b u ys g;rw[bU<|cA q n'];exact q
  ·obtain⟨m,q⟩:=J.base.tbls b ps g;exact⟨m,by rw[bU<|cA q n'];exact q⟩
  ·rw[bU λq=>by have:=I0.free;rw[q,hx] at this;cases this];exact J.free
  ·rw[bU λq=>by have:=I0.freeC x c g;rw[q,hx] at this;cases this];exact J.freeC x c g
  ·obtain⟨g,n0,rr⟩:=J.pin p hp;refine⟨g, ?_,rr⟩;rw[bU λq=>by have:=(I0.pin p hp).2.1;rw[q,hx] at this;cases this];exact n0
  ·cases xs with
   |lst xs=>obtain⟨z,its,nn,rv,ho⟩:=ob;exact⟨z,its,nn,rv,kp _ ho⟩
   |dK kvs=>obtain⟨z,y,vs,r,o,es,ep,e,c⟩:=ob;exact⟨z,y,vs,r,o,es,ep,kp _ e,c⟩
   |ext φ=>obtain⟨h1,⟨o1,h2⟩,h3⟩:=ob;exact⟨h3 _ _ h1 kp,⟨o1,kp _ h2⟩,h3⟩
   |_=>exact wx.elim
theorem aIi{P:AI}{w:AL}{h:BL}{l:BJ}{xs:HO}(wx:Wr l xs)(q:H l=some xs)(ok:ObjOk P w H h l xs):∃ys o,H l=some ys/\Wr l ys/\h.get? l=some o/\∀v,o.data≠ .cell v:=by
 cases xs with
 |lst xs=>obtain⟨_,its,nn,_,ho⟩:=ok;exact⟨_,_,q,trivial,ho,λv z=>by cases z⟩
 |dK kvs=>obtain⟨_,_,_,_,o,es,ep,e,_,d,_⟩:=ok;exact⟨_,_,q,trivial,e,λv z=>by rw[d] at z;cases z⟩
 |ext φ=>obtain⟨o,e,n⟩:=id wx;subst e;exact⟨_,o,q,wx,ok.1,n⟩
 |_=>exact wx.elim
theorem aBK(S:StF X.K X.B₀ F H σ sd)(hr:match r with | .bor _=>False|_=>True)(h:wE X e σ F λv F3=>aDf X.K F F3 r v):wE X e σ H λv H'=>∃F',StF X.K X.B₀ F' H' σ sd/\Same F F'/\ResOk X.K F' H' sd r v:=λpins s I=>by
 have I1:Inv X pins σ F s:=I.less S.sub S.base<|S.smp.sub S.sub
 have ob:∀l∈cF sd,∃xs o,H l=some xs/\Wr l xs/\s.heap.get? l=some o/\∀v,o.data≠ .cell v:=λl hl=>by obtain⟨n,xs,q,wx⟩:=S.slots.owns hl;exact aIi wx q<|I.hok l _ q
 have I2:Inv X (pins++lK (cF sd) s.heap) σ F s:=I1.pins_of λp hp=>(aJ.mp hp).elim (λz=>I1.pin p<|aC _ z) λz=>by
  obtain⟨hb,g⟩:=qR z;obtain⟨xs,o,q,_,ho,hc⟩:=ob p.1 hb;rw[g] at ho;cases ho;refine⟨g,(S.slots.owns hb).1,λy=> ?_,λy=> ?_,hc⟩
  ·have:=I.free;rw[<-y,q] at this;cases this
  ·obtain⟨_,o',ho',_⟩:=I.ok.funs.mem y;have:=I.base.free p.1 o' ho' (I.ok.frf p.1 y) λz=>I.ok.exfs p.1 z y
   rw[q] at this;cases this
 refine thn (h _ s I2) λu s' ⟨v,F3,I3,rv,F2,s1,s2,sm3,res⟩=> ?_
 have kp:∀l∈cF sd,F3 l=none/\(∃xs,H l=some xs/\Wr l xs)/\∀o,s.heap.get? l=some o->s'.heap.get? l=some o:=λl hl=>by obtain⟨xs,o,q,wx,ho,_⟩:=ob l hl;have:=I3.pin (l,o)<|aC _ (aC _<|iL hl ho);exact⟨this.2.1,⟨xs,q,wx⟩,λo' g=>by rw[ho] at g;cases g;exact this.1⟩
 have I4:=Inv.retrack I (cF sd) S.nd kp I3.unpinned;refine⟨v,_,I4,rv,F2,⟨λb o g=>s1 _ _<|S.base _ _ g,λb o g=> ?_,λb o g=> ?_,S.slots.mono s1 λl hl=>⟨s2.free (kp l hl).1,λxs g=>by simpa[hl] using g⟩,S.nd⟩,s1, ?_⟩
 ·have g3:=s2 _ _ g;have:b∉cF sd:=λhb=>by rw[(kp b hb).1] at g3;cases g3
  simp[this,g3]
 ·by_cases hb:b∈cF sd
  ·simp[hb] at g;exact S.smp _ _ g
  ·simp[hb] at g;exact sm3 _ _ g
 ·cases r with
  |val d=>exact res
  |own ds'=>
   obtain⟨l,xs,e,n,q,rl',_⟩:=res;have:l∉cF sd:=λhl=>by rw[(kp l hl).1] at q;cases q
   exact⟨l,xs,e,n,by simp[this,q],rl',this⟩
  |pr d ls=>
   obtain⟨t,l,xs,y,e,f,g,n,q,rl',_⟩:=res;have:l∉cF sd:=λhl=>by rw[(kp l hl).1] at q;cases q
   exact⟨t,l,xs,y,e,f,g,n,by simp[this,q],rl',this⟩
  |ox G=>
   obtain⟨ls,nd,h,g⟩:=res
   have no:∀l∈ls,l∉cF sd:=λl hl hm=>by obtain⟨n,⟨ob,q,w⟩,_⟩:=h l hl;rw[(kp l hm).1] at q;cases q
   refine⟨ls,nd,λl hl=> ?_,λF' H' sF k=>g F' H' sF λl hl ob q=>k l hl ob<|by simp[no l hl,q]⟩;obtain⟨n,⟨ob,q,w⟩,_⟩:=h l hl;exact⟨n,⟨ob,by simp[no l hl,q],w⟩,no l hl⟩
  |bor ds'=>exact hr.elim
noncomputable def aKF:Option Slot->Slot
 |some (.val d)=>.val d
 |some (.ox [] G)=>.ox [] G
 |_=>.un
noncomputable def jE(cap:List (Option Nat))(sd:List Slot):List Slot:=cap.map λo=>match o with
 |none=>.un
 |some k=>aKF sd[k]?
theorem sM{K:aB}{F H F' H':Hp}{σ:St}(h:SlotsOk K F H sd σ)(s:Same F F'):∀cap:List (Option Nat),SlotsOk K F' H' (jE cap sd) (uA cap σ)
 |[]=>rfl
 |o::cap=>by
  refine⟨_,_,rfl, ?_,sM h s cap⟩;cases o with
  |none=>trivial
  |some k=>
   show oU K F' H' (aKF sd[k]?) _;cases q:sd[k]? with
   |none=>trivial
   |some z=>
    cases z with
    |un=>trivial
    |own l ds=>trivial
    |od l ks ds=>trivial
    |ox ls G=>
     cases ls with
     |cons a ls=>trivial
     |nil=>obtain⟨o,h1,v,h2,h3,h4⟩:=h.get q;subst h2;exact⟨v,by simp[h1],λl hl=>(nomatch hl),λF2 H2 s2 _=>h4 F2 H2 (s.trans s2) λl hl=>(nomatch hl)⟩
    |gh d G=>trivial
    |val d=>obtain⟨o,h1,v,h2,rv⟩:=h.get q;subst h2;exact⟨v,by simp[h1],rv.mono s⟩
theorem mJ:∀ (cap:List (Option Nat)) (sd:List Slot),cF (jE cap sd)=[]
 |[],_=>rfl
 |o::cap,sd=>by
  have ih:=mJ cap sd;cases o with
  |none=>exact ih
  |some k=>
   show cF (aKF sd[k]? ::jE cap sd)=[];cases q:sd[k]? with
   |none=>exact ih
   |some z=>
    cases z with
    |ox ls G=>cases ls<;>exact ih
    |_=>exact ih
noncomputable def unS:Slot->Slot
 |.own _ _=>.un
 |.od _ _ _=>.un
 |.ox [] G=>.ox [] G
 |.ox _ _=>.un
 |z=>z
noncomputable def unO(sd:List Slot):List Slot:=sd.map unS
theorem iE:∀sd:List Slot,cF (unO sd)=[]
 |[]=>rfl
 |.un::r=>iE r
 |.val _::r=>iE r
 |.gh _ _::r=>iE r
 |.own _ _::r=>iE r
 |.od _ _ _::r=>iE r
 |.ox [] _::r=>iE r
 |.ox (_::_) _::r=>iE r
theorem wR(cap:List (Option Nat))(sd:List Slot):jE cap (unO sd)=jE cap sd:=by
 unfold jE;refine cI λo _=> ?_
 cases o with
 |none=>rfl
 |some k=>
  show aKF (unO sd)[k]? =aKF sd[k]?;unfold unO;rw[bL];cases q:sd[k]? with
  |none=>rfl
  |some z=>
   cases z with
   |ox ls G=>cases ls<;>rfl
   |_=>rfl
theorem qT{K:aB}{F H H':Hp}:∀ {sd:List Slot}{σ:St},SlotsOk K F H sd σ->SlotsOk K F H' (unO sd) σ
 |[],_,h=>h
 |z::zs,σ,h=>by
  obtain⟨o,r,rfl,a,b⟩:=h;refine⟨o,r,rfl, ?_,qT b⟩;cases z with
  |un=>trivial
  |val d=>exact a
  |gh d G=>exact a
  |od l ks ds=>trivial
  |ox ls G=>
   cases ls with
   |cons a ls=>trivial
   |nil=>obtain⟨v,h2,h3,h4⟩:=a;exact⟨v,h2,λl hl=>(nomatch hl),λF2 H2 s2 _=>h4 F2 H2 s2 λl hl=>(nomatch hl)⟩
  |own l ds=>trivial
theorem kG{i:Nat}(p:D->Bool)(h:ds[i]? =some d):(ds.take<|i+1).filter p=(ds.take i).filter p++(if p d then[d] else[]):=by rw[dO,h,List.filter_append];cases hp:p d<;>simp[hp]
theorem kR{elt:Expr}{ifs:List Expr}{scope:Scope}{N M:List Str}{cap:List (Option Nat)}{sc:Scope}{Tb:D->List Slot}(p:D->Bool)(f:D->D)
  (hi:PId X (unO sd) PT0 tg iter ds) (hl:ds.length<=1000)
  (hsc:X.env.scope=sc) (hcn:mE scope sc=true) (hM:X.N=M) (hcap:lC N M scope sc cap=true) (hk:scope.kind=.function)
  (hg:∀cl C fp s H d,d∈ds->PGd (cxB X N scope cl C fp s H) (jE cap sd) tg d (Tb d))
  (hle:∀d,d∈ds->Le (Tb d) (jE cap sd))
  (ht:∀cl C fp s H d,d∈ds->(ifs=[]/\p d=true)\/∃c,ifs=[c]/\PTd (cxB X N scope cl C fp s H) (Tb d) c (p d))
  (he:∀cl C fp s H d,d∈ds->p d=true->PEd (cxB X N scope cl C fp s H) (Tb d) elt (.val<|f d))
  (hc:X.calm=true:=by rfl) (hs:∀x,Ag iter X.env x=pure x:=by intro _;rfl):
  PEd X sd (.ListComp elt [⟨tg,iter,ifs,0⟩] scope pos) (.own<|(ds.filter p).map f):=.mk λσ F H S=>by
 refine aBK S trivial ?_;have S0:StF X.K X.B₀ F F σ (unO sd):=⟨S.base,Same.refl _,S.smp.sub S.sub,qT S.slots,by rw[iE];exact eD⟩;intro pins s I
 have nm:∀y∈scope.names,(y.2=NameKind.free->sc.names.lookup y.1=some NameKind.cell)/\(y.2=NameKind.local->scope.names.lookup y.1=some NameKind.local):=λy hy=>by have q:=bN.mp hcn y hy;simp only[bH,jT,iO,beq_eq_false_iff_ne,ne_eq,beq_iff_eq] at q;exact⟨λe=>q.1.1.resolve_left λz=>z e,λe=>q.2.resolve_left λz=>z e⟩
 have fre:∀y∈scope.names,y.2=.free->∃c,X.env.cells.lookup y.1=some c:=λy hy e=>I.ok.has y.1 (.inl<|by show X.env.scope.names.lookup y.1=_;rw[hsc];exact(nm y hy).1 e)
 rw[eval_ListComp];refine Ar (use:=none) rfl hs (oR fre) hk (λy hy=>(nm y hy).2) ?_;refine thn (hi σ F F S0 pins s I) λv s1 h1=>thn h1 λitv s2 h2=> ?_
 obtain⟨it,fp,tn,J,H2,e,I2,T,st2,f2,F1,S1,s1',itd⟩:=h2;subst e
 have S1b:StF X.K H2 H2 H2 (uA cap σ) (jE cap sd):=⟨Same.refl _,Same.refl _,S1.smp,by
  have q:=sM (sd:=unO sd) (H':=H2) S1.slots S1.sub cap;rw[wR] at q
  exact q,by rw[mJ];exact eD⟩
 refine wK (N:=N) (cap:=cap) (g:=λv σ2 H3 Q=>∀cl C,wG (cxB X N scope cl C fp s2 H2) tg v σ2 H3 Q) (tt:=λσ2 H3 Q=>∀cl C,aKm (cxB X N scope cl C fp s2 H2) ifs σ2 H3 Q) (te:=λσ2 H3 Q=>∀cl C,wE (cxB X N scope cl C fp s2 H2) elt σ2 H3 Q)
  hc hsc hcn (by rw[hM];exact hcap) hk I2 T st2 f2 (λcl C pi s3 σ3 H3 v u Q I3 ru q=>q cl C pi s3 u I3 ru) (λcl C pi s3 σ3 H3 Q I3 q=>q cl C pi s3 I3) (λcl C pi s3 σ3 H3 Q I3 q=>q cl C pi s3 I3)
  (λi m ys σb H3=>m=ds.length-i/\i<=ds.length/\∃Fb,StF X.K H2 Fb H3 σb (jE cap sd)/\RepL X.K Fb (((ds.take i).filter p).map f) ys) ds.length
  ⟨by simp,bI _,H2,S1b,by simpa using RepL.nil⟩ _ ?_
 rintro i m ys σb H3 ⟨rfl,hil,Fb,Sb,rl⟩;have sF1:Same F1 Fb:=λb o g=>Sb.base _ _<|S1.sub _ _ g
 obtain⟨g1,g2,g3⟩:=itd Fb H3 sF1 Sb.sub Sb.smp trivial i
 by_cases hlt:i<ds.length
 ·have hd:ds[i]? =some ds[i]:=by simp[hlt]
  have hm:ds[i]∈ds:=eU hlt
  have ylen:ys.length<=i:=by rw[rl.len,aA];exact cP (lE _ _) (by simp;omega)
  refine .inr ⟨g1 hlt,gO<|by omega,λys' σ' H'=>∃Fb',StF X.K H2 Fb' H' σ' (jE cap sd)/\RepL X.K Fb' (((ds.take<|i+1).filter p).map f) ys',λys' σ' H' ⟨Fb',Sb',rl'⟩=>⟨ds.length-(i+1),by omega,rfl,hlt,Fb',Sb',rl'⟩,λx H4 y cl C=> ?_⟩;obtain⟨F4,s4,rp,up⟩:=g3 x H4 ds[i] hd y;refine(hg cl C fp s2 H2 _ hm σb F4 H4 x (up _ _ _ Sb) rp).imp λσ5 H5 ⟨F5,S5,s5⟩ cl2 C2=> ?_
  have rl5:=rl.mono<|s4.trans s5
  have fin:∀ (b:Bool) (H6:Hp) (F6:Hp),b=p ds[i]->StF X.K H2 F6 H6 σ5 (Tb ds[i])->Same F5 F6->if b=true then(∀cl C,wE (cxB X N scope cl C fp s2 H2) elt σ5 H6 λv H5=>∃Fb',StF X.K H2 Fb' H5 σ5 (jE cap sd)/\RepL X.K Fb' (((ds.take<|i+1).filter p).map f) (ys++[v])) else ∃Fb',StF X.K H2 Fb' H6 σ5 (jE cap sd)/\RepL X.K Fb' (((ds.take<|i+1).filter p).map f) ys:=λb H6 F6 eb S6 s6=>by
   rw[kG p hd,<-eb];cases b with
   |false=>exact aIv ⟨F6,S6.le<|hle _ hm,by simpa using rl5.mono s6⟩
   |true=>
    refine aIz λcl3 C3=>(he cl3 C3 fp s2 H2 _ hm eb.symm σ5 F6 H6 S6).imp λv H7 ⟨F7,S7,s7,q7⟩=>⟨F7,S7.le<|hle _ hm, ?_⟩
    simp only[if_true,aI,aR,dD];exact((rl5.mono s6).mono s7).app<|.one q7
  rcases ht cl2 C2 fp s2 H2 _ hm with⟨e1,e2⟩|⟨c,e1,q⟩
  ·subst e1;exact sJ (fin true H5 F5 e2.symm S5<|Same.refl _)
  ·subst e1;exact xT<|(q σ5 F5 H5 S5).imp λb H6 ⟨eb,F6,S6,s6⟩=>fin b H6 F6 eb S6 s6
 ·have e:i=ds.length:=by omega
  subst e;refine .inl ⟨g2<|aG _,λD C s' hD hC hDC h0 hL hcc hpp hst ⟨m',ns'⟩ J'=>⟨m',ns',λh' sb=> ?_⟩⟩;have J2:Inv X pins σ (upd H3 D<|.lst ys) {s' with heap:=h',toks:=s'.toks}:=J'.turned (it:=C) (λb o hb g=>sb.extBut b o hb g) (by rw[bU<|Ne.symm hDC];exact hC) hL (.inr h0) hcc hpp;refine⟨.ref D,_,J2,rfl,Fb,λb o g=>Sb.base _ _ (S1.sub _ _<|s1' _ _ g),λb o g=> ?_,λb o g=> ?_,D,ys,rfl,Sb.sub.free hD,cD, ?_,by simp[cF]⟩
  ·have g3:=Sb.sub _ _ g;rw[bU<|cA g3 hD];exact g3
  ·by_cases hb:b=D
   ·subst hb;rw[cD] at g;cases g;trivial
   ·rw[bU hb] at g;exact Sb.smp _ _ g
  ·simpa using rl
noncomputable def isT:D->Bool
 |.tup _=>true
 |_=>false
noncomputable def isL:D->Bool
 |.lst _=>true
 |.scr _=>true
 |_=>false
theorem PEd.cast{r':R}(h:PEd X sd e r)(q:r=r'):PEd X sd e r':=q▸h
theorem fU{k:Bool}{x o:List BN}(h:PTd X sd c k)(hk:k=false)(h2:PSd X sd o E):PSd1 X sd (.If c x o pos) E:=kI h (λe=>by rw[hk] at e;cases e) λ_=>h2
theorem jV{k:Bool}{x o:List BN}(h:PTd X sd c k)(hk:k=true)(h2:PSd X sd x E):PSd1 X sd (.If c x o pos) E:=kI h (λ_=>h2) λe=>by rw[hk] at e;cases e
theorem aEh{d1 d2:List D}(ha:PEd X sd a (.bor d1))(hb:PEd X sd b (.bor d2))(hl:d1.length+d2.length<=1000):PEd X sd (.BinOp a .Add b pos) (.own<|d1++d2):=
 aBB aLE ha hb trivial λσ F H v u Q S q1 q2 k=>by obtain⟨l,xs,e1,h1,r1,_⟩:=q1;obtain⟨m,ys,e2,h2,r2,_⟩:=q2;refine⟨l,m,xs,ys,e1,e2,h1,h2,by rw[r1.len,r2.len];exact cZ<|gO hl,λp hp=> ?_⟩;obtain⟨S2,fp,no⟩:=S.layO (xs:=xs++ys) hp;exact k _ F _ S2 (Same.refl _) ⟨p,_,rfl,fp,cD,r1.app r2,no⟩
theorem nD{i:Int}(ha:PEd X sd a (.bor ds))(hb:PEd X sd b (.val<|.int i))(h0:0<=i)(hd:ds[i.toNat]? =some d)(hs:qN b):PEd X sd (.Subscript a b pos) (.val d):=by
 have e:i=(i.toNat:Int):=by omega
 rw[e] at hb;exact fY ha hb hd hs
theorem vA{i:Int}(ha:PEd X sd a (.val<|.tup ds))(hb:PEd X sd b (.val<|.int i))(h0:0<=i)(hd:ds[i.toNat]? =some d)(hs:qN b):PEd X sd (.Subscript a b pos) (.val d):=by
 have e:i=(i.toNat:Int):=by omega
 rw[e] at hb;exact fW ha hb hd hs
theorem yG{i:Int}(h:i.natAbs<2^250):Builtin.Int.intBits i<=2^20:=by
 unfold Builtin.Int.intBits
 split
 ·exact bI _
 ·rename_i hz
  have hne:i.natAbs≠0:=by
   intro z;apply hz;have:i=0:=by omega
   subst this;rfl
  have:=(Nat.log2_lt hne).mpr h;have e:(250:Nat)+1<=2^20:=by decide
  omega
theorem iD{i j:Int}(h1:i.natAbs<2^250)(h2:j.natAbs<2^250):IntMulOk i j:=.of_bits (yG h1)<|yG h2
noncomputable def most:Int:=1000*10^64
noncomputable def zI:Int->List Int->List Int
 |_,[]=>[]
 |x,n::ns=>(x%n)::zI (x / n) ns
theorem xV:∀ (x:Int) (ns:List Int),(zI x ns).length=ns.length
 |_,[]=>rfl
 |x,n::ns=>by simp[zI,xV]
noncomputable def bX:List (Int×Int):=[(2,2),(1,1),(1,2),(2,1),(1,3),(3,1),(2,3),(3,2),(1,4),(4,1),(1,5),(5,1),(1,6),(6,1)]
noncomputable def cH(p:Int×Int):D:=.tup [.int p.1,.int p.2]
def aMO:List D->R->Prop:=λds r=>∃ns:List Int,ds=[.scr ns]/\ns.length<=63/\r=.val (.bl true)
noncomputable def aKk:Int->List Int->Int
 |x,[]=>x
 |x,n::ns=>aKk (x / n) ns
theorem zY:∀ (x:Int) (ns:List Int) (n:Int),aKk x (ns++[n])=aKk x ns / n
 |_,[],_=>rfl
 |x,m::ns,n=>zY (x / m) ns n
theorem aAr:∀ (x:Int) (ns:List Int) (n:Int),zI x (ns++[n])=zI x ns++[aKk x ns%n]
 |_,[],_=>rfl
 |x,m::ns,n=>by show(x%m)::zI (x / m) (ns++[n])=_;rw[aAr (x / m) ns n];rfl
theorem aGv{ns:List Int}{k:Nat}(h:(ns.map D.int)[k]? =some d):k<ns.length/\d=.int (ns.getD k 0):=by
 rw[bL] at h;cases e:ns[k]? with
 |none=>rw[e] at h;cases h
 |some z=>rw[e] at h;refine⟨(aZ.mp e).1, ?_⟩;rw[<-bT.inj h,bF,e];rfl
theorem aHJ{i j:Int}{a1 a2 b1:Nat}{p1 p2 p3:Pos}(h1:AD [Expr.Constant (.int i) a1 p1,Expr.Constant (.int j) a2 p2] X.env=(false,eval (Expr.Constant (.int i) a1 p1) X.env)::AD [Expr.Constant (.int j) a2 p2] X.env)
  (h2:AD [Expr.Constant (.int j) a2 p2] X.env=(false,eval (Expr.Constant (.int j) a2 p2) X.env)::AD [] X.env):PEd X sd (.Tuple [.Constant (.int i) a1 p1, .Constant (.int j) a2 p2] b1 p3) (.val<|cH (i,j)):=
 jK (ds:=[.int i,.int j]) (aD bD (aD bD aS trivial h2) trivial h1) (aP rfl)
theorem getD_mem{α:Type}{l:List α}{i:Nat}{d:α}(h:i<l.length):l.getD i d∈l:=by
 have e:l.getD i d=l[i]:=by simp[bF,h]
 rw[e];exact eU h
theorem aGH(h:aMP H):Smp H:=λb o e=>by
 rcases h b with z|⟨o',xs,z⟩
 ·rw[z] at e;cases e
 ·rw[z] at e;cases e;trivial
theorem walkD{l:PySem.W.OpenLaw}{k:Nat}{x:Str}{q:AI}{loose:List Str}{XP:(Str->Option BH)->BL->Prop}{YP:AL->BL->Prop}{d:DefRec}{K:Params->aB}(hn:l.most=some 63)(hdf:d.params.defaults=[])
  (hr:Room k callerA) (hY:∀ (w:AL) (h:BL),YP w h->(K w.params).In h)
  (F:∀ (w:AL) (mg:Str→Option BH) (fa:BJ) (h:BL),(K w.params).In h→h.Ns AQ mg→mg d.name=some (.ref fa)→
   ∃fd:AV,(∀ (s:BI) (u:BH),BindsTo s fd ⟨[u],[]⟩ [(x,u)])/\∀base:BL,(K w.params).In base->base.Ns AQ mg->FnOk l.prog w (K w.params) mg base CX0 k fa fd [x] (spC (K w.params) 1 aMO)):
  PySem.W.WalkO q loose XP YP l.row.toRowW d [] (λf vs=>PySem.call f vs):=
 L2.walk_of (n:=63) (k:=k) (x:=x) (CX:=λ_=>CX0) (sp:=λw=>spC (K w.params) 1 aMO) hn (by decide) hdf hr hY F
  (λw H a ns hl ho hS=>⟨rfl,aGH ho,[.scr ns],.val<|.bl true,.one (by simp only[Rep];exact⟨a,rfl,hS⟩),⟨ns,rfl,hl,rfl⟩,λv H' ⟨F,_,_,_,res⟩=>by simpa only[ResOk,Rep] using res⟩) λ_ _ _ _ _ z=>z
mutual
noncomputable def deq:D->D->Bool
 |.non,.non=>true
 |.bl a,.bl b=>a==b
 |.bl a,.int b=>(if a then 1 else 0)==b
 |.int a,.bl b=>a==(if b then 1 else 0)
 |.int a,.int b=>a==b
 |.str a,.str b=>a==b
 |.tup a,.tup b=>mV a b
 |.lst a,.lst b=>mV a b
 |_,_=>false
noncomputable def mV:List D->List D->Bool
 |[],[]=>true
 |x::xs,y::ys=>deq x y&&mV xs ys
 |_,_=>false
end
mutual
noncomputable def pl:D->Bool
 |.dic=>false
 |.dki _ _=>false
 |.any _=>false
 |.scr _=>false
 |.tup ds=>plL ds
 |.lst ds=>plL ds
 |_=>true
noncomputable def plL:List D->Bool
 |[]=>true
 |d::ds=>pl d&&plL ds
end
mutual
noncomputable def dep:D->Nat
 |.tup ds=>pH ds+1
 |.lst ds=>pH ds+1
 |_=>0
noncomputable def pH:List D->Nat
 |[]=>0
 |d::ds=>max (dep d)<|pH ds
end
theorem aAQ:∀ {ds:List D}{i:Nat}{d:D},plL ds=true->ds[i]? =some d->pl d=true
 |[],i,d,_,e=>by simp at e
 |d'::ds,i,d,h,e=>by
  simp only[plL,bH] at h;cases i with
  |zero=>simp at e;subst e;exact h.1
  |succ i=>exact aAQ h.2 (by simpa using e)
theorem vR:∀ {ds:List D}{i:Nat}{d:D},ds[i]? =some d->dep d<=pH ds
 |[],i,d,e=>by simp at e
 |d'::ds,i,d,e=>by
  simp only[pH];cases i with
  |zero=>simp at e;subst e;exact Nat.le_max_left _ _
  |succ i=>exact cP (vR (i:=i)<|by simpa using e)<|Nat.le_max_right _ _
theorem deqL_iff:∀ {xs ys:List D},mV xs ys=true↔xs.length=ys.length/\∀ (j:Nat) (x y:D),xs[j]? =some x->ys[j]? =some y->deq x y=true
 |[],[]=>by simp[mV]
 |[],y::ys=>by simp[mV]
 |x::xs,[]=>by simp[mV]
 |x::xs,y::ys=>by
  simp only[mV,bH,cM,deqL_iff (xs:=xs) (ys:=ys)]
  constructor
  ·rintro⟨h1,h2,h3⟩;refine⟨by omega,λj a b ea eb=> ?_⟩;cases j with
   |zero=>simp at ea eb;subst ea eb;exact h1
   |succ j=>exact h3 j a b (by simpa using ea) (by simpa using eb)
  ·rintro⟨h1,h2⟩;exact⟨h2 0 x y rfl rfl,by omega,λj a b ea eb=>h2 (j+1) a b (by simpa using ea)<|by simpa using eb⟩
mutual
theorem qB{K:aB}{H:Hp}:∀ {d1 d2:D}{v:V},pl d1=true->Rep K H d1 v->Rep K H d2 v->pl d2=true->deq d1 d2=true
 |.non,d2,v,_,r1,r2,_=>by simp only[Rep] at r1;subst r1;cases d2<;>simp_all[Rep,deq]
 |.bl b,d2,v,_,r1,r2,_=>by simp only[Rep] at r1;subst r1;cases d2<;>simp_all[Rep,deq]
 |.int b,d2,v,_,r1,r2,_=>by simp only[Rep] at r1;subst r1;cases d2<;>simp_all[Rep,deq]
 |.str b,d2,v,_,r1,r2,_=>by simp only[Rep] at r1;subst r1;cases d2<;>simp_all[Rep,deq]
 |.dic,_,_,h,_,_,_=>by simp[pl] at h
 |.dki _ _,_,_,h,_,_,_=>by simp[pl] at h
 |.any _,_,_,h,_,_,_=>by simp[pl] at h
 |.scr _,_,_,h,_,_,_=>by simp[pl] at h
 |.tup ds,d2,v,p1,r1,r2,p2=>by
  simp only[Rep] at r1;obtain⟨a,xs,rfl,ha,rl⟩:=r1;cases d2 with
  |tup es=>simp only[Rep] at r2;obtain⟨a',xs',e,ha',rl'⟩:=r2;cases e;rw[ha] at ha';cases ha';simp only[deq];exact tU (by simpa[pl] using p1) rl rl' (by simpa[pl] using p2)
  |lst es=>simp only[Rep] at r2;obtain⟨a',xs',e,ha',rl'⟩:=r2;cases e;rw[ha] at ha';cases ha'
  |dic=>simp[pl] at p2
  |dki=>simp[pl] at p2
  |any=>simp[pl] at p2
  |scr=>simp[pl] at p2
  |_=>simp[Rep] at r2
 |.lst ds,d2,v,p1,r1,r2,p2=>by
  simp only[Rep] at r1;obtain⟨a,xs,rfl,ha,rl⟩:=r1;cases d2 with
  |lst es=>simp only[Rep] at r2;obtain⟨a',xs',e,ha',rl'⟩:=r2;cases e;rw[ha] at ha';cases ha';simp only[deq];exact tU (by simpa[pl] using p1) rl rl' (by simpa[pl] using p2)
  |tup es=>simp only[Rep] at r2;obtain⟨a',xs',e,ha',rl'⟩:=r2;cases e;rw[ha] at ha';cases ha'
  |dic=>simp[pl] at p2
  |dki=>simp[pl] at p2
  |any=>simp[pl] at p2
  |scr=>simp[pl] at p2
  |_=>simp[Rep] at r2
theorem tU{K:aB}{H:Hp}:∀ {ds es:List D}{xs:List V},plL ds=true->RepL K H ds xs->RepL K H es xs->plL es=true->mV ds es=true
 |[],es,xs,_,r1,r2,_=>by
  simp only[RepL] at r1;subst r1;cases es with
  |nil=>rfl
  |cons e es=>obtain⟨y,ys,z,_⟩:=r2.uncons;cases z
 |d::ds,es,xs,p1,r1,r2,p2=>by
  obtain⟨y,ys,rfl,a,rl⟩:=r1.uncons;cases es with
  |nil=>simp only[RepL] at r2;cases r2
  |cons e es=>obtain⟨y',ys',z,a',rl'⟩:=r2.uncons;cases z;simp only[plL,bH] at p1 p2;simp only[mV,bH];exact⟨qB p1.1 a a' p2.1,tU p1.2 rl rl' p2.2⟩
end
noncomputable def rZ:D->Bool
 |.non=>true
 |.bl _=>true
 |.int _=>true
 |.str _=>true
 |_=>false
theorem vE(h:rZ d=true)(r:Rep K H d v):pZ v=true/\flt d=some v:=by cases d<;>simp_all[rZ,Rep,pZ,flt]
variable {P:AI}{w:AL}{s:BI}
theorem lM(hok:HOk P w H s.heap){u:BH}(r:Rep K H (.tup ds) v)(ru:RelV v u):∃a xs its,u=.ref a/\v=.ref a/\RepL K H ds xs/\Vals xs its/\s.heap.IsTuple a its.toArray:=by simp only[Rep] at r;obtain⟨a,xs,rfl,ha,rl⟩:=r;cases ru;obtain⟨_,its,rv,p⟩:=(show ObjOk P w H s.heap a (.tup xs) from hok a _ ha);exact⟨a,xs,its,rfl,rfl,rl,rv,p.tup⟩
theorem lO(hok:HOk P w H s.heap){u:BH}(r:Rep K H (.lst ds) v)(ru:RelV v u):∃a xs its,u=.ref a/\v=.ref a/\RepL K H ds xs/\Vals xs its/\s.heap.IsList a its.toArray:=by simp only[Rep] at r;obtain⟨a,xs,rfl,ha,rl⟩:=r;cases ru;obtain⟨_,its,n,rv,p⟩:=(show ObjOk P w H s.heap a (.lst xs) from hok a _ ha);exact⟨a,xs,its,rfl,rfl,rl,rv,_,p,rfl,n,rfl⟩
noncomputable def dAt(ds es:List D)(j:Nat):Bool:=match ds[j]?,es[j]? with
 |some x,some y=>deq x y
 |_,_=>false
theorem sR(ds es:List D):((bK<|min ds.length es.length).all (dAt ds es)&&ds.length==es.length)=mV ds es:=by
 rw[eP,deqL_iff,bH,bN,beq_iff_eq]
 constructor
 ·rintro⟨h1,h2⟩;refine⟨h2,λj x y ex ey=> ?_⟩;have hj:j<ds.length:=(aZ.mp ex).1;have:=h1 j (bB.mpr<|by omega);unfold dAt at this;rw[ex,ey] at this;exact this
 ·rintro⟨h1,h2⟩;refine⟨λj hj=> ?_,h1⟩;have hj':=bB.mp hj;have e1:ds[j]? =some (ds[j]'(by omega)):=by simp
  have e2:es[j]? =some (es[j]'(by omega)):=by simp
  unfold dAt;rw[e1,e2];exact h2 j _ _ e1 e2
theorem uH{es:List D}(h:ds.length=es.length):(bK ds.length).all (dAt ds es)=mV ds es:=by have:=sR ds es;rw[h] at this ⊢;simpa using this
theorem xL{es:List D}(h:ds.length≠es.length):mV ds es=false:=by
 cases e:mV ds es with
 |false=>rfl
 |true=>exact absurd (deqL_iff.mp e).1 h
mutual
theorem aBt(hok:HOk P w H s.heap):∀ (d1:D) {d2:D}{v1 v2:V}{u1 u2:BH}{A:BK},pl d1=true->pl d2=true->Rep K H d1 v1->Rep K H d2 v2->RelV v1 u1->RelV v2 u2->A.units+dep d1<AR->SeqAt.EqAt A s u1 u2 (deq d1 d2)
 |.tup ds,d2,v1,v2,u1,u2,A,p1,p2,r1,r2,ru1,ru2,hu=>by
  have hu':A.units<AR:=by omega
  obtain⟨a,xs,its,rfl,rfl,rl,rv,ht⟩:=lM hok r1 ru1;cases d2 with
  |non=>simp only[Rep] at r2;subst r2;cases ru2;exact SeqAt.EqAt.tuple_none ht hu'
  |bl b=>simp only[Rep] at r2;subst r2;cases ru2;exact SeqAt.EqAt.tuple_bool b ht hu'
  |int b=>simp only[Rep] at r2;subst r2;obtain⟨t,rfl⟩:=ru2;exact SeqAt.EqAt.tuple_int b t ht hu'
  |str b=>simp only[Rep] at r2;subst r2;obtain⟨t,rfl⟩:=ru2;exact SeqAt.EqAt.tuple_str b t ht hu'
  |dic=>simp[pl] at p2
  |dki=>simp[pl] at p2
  |any=>simp[pl] at p2
  |scr=>simp[pl] at p2
  |lst es=>obtain⟨b,ys,jts,rfl,rfl,rl2,rv2,hl2⟩:=lO hok r2 ru2;exact SeqAt.EqAt.tuple_list ht hl2 hu'
  |tup es=>
   obtain⟨b,ys,jts,rfl,e2,rl2,rv2,ht2⟩:=lM hok r2 ru2
   by_cases hab:a=b
   ·subst hab;have:=qB p1 r1 (e2▸r2) p2;rw[this];exact SeqAt.EqAt.same _
   ·simp only[deq];rw[<-sR];have l1:its.toArray.size=ds.length:=by rw[aQ,<-rv.length,rl.len]
    have l2:jts.toArray.size=es.length:=by rw[aQ,<-rv2.length,rl2.len]
    rw[<-l1,<-l2];simp only[pl] at p1 p2;simp only[dep] at hu;refine .of_refs hab<|.tuples ht ht2 hu' λj h1 h2=> ?_;exact rP hok ds p1 p2 rl rl2 rv rv2 (A:=A.in1) (by show A.units+1+_<AR;omega) (by simp)<|by simp
 |.lst ds,d2,v1,v2,u1,u2,A,p1,p2,r1,r2,ru1,ru2,hu=>by
  have hu':A.units<AR:=by omega
  obtain⟨a,xs,its,rfl,rfl,rl,rv,ht⟩:=lO hok r1 ru1;cases d2 with
  |non=>simp only[Rep] at r2;subst r2;cases ru2;exact SeqAt.EqAt.list_none ht hu'
  |bl b=>simp only[Rep] at r2;subst r2;cases ru2;exact SeqAt.EqAt.list_bool b ht hu'
  |int b=>simp only[Rep] at r2;subst r2;obtain⟨t,rfl⟩:=ru2;exact SeqAt.EqAt.list_int b t ht hu'
  |str b=>simp only[Rep] at r2;subst r2;obtain⟨t,rfl⟩:=ru2;exact SeqAt.EqAt.list_str b t ht hu'
  |dic=>simp[pl] at p2
  |dki=>simp[pl] at p2
  |any=>simp[pl] at p2
  |scr=>simp[pl] at p2
  |tup es=>obtain⟨b,ys,jts,rfl,rfl,rl2,rv2,hl2⟩:=lM hok r2 ru2;exact SeqAt.EqAt.list_tuple ht hl2 hu'
  |lst es=>
   obtain⟨b,ys,jts,rfl,e2,rl2,rv2,ht2⟩:=lO hok r2 ru2
   by_cases hab:a=b
   ·subst hab;have:=qB p1 r1 (e2▸r2) p2;rw[this];exact SeqAt.EqAt.same _
   ·simp only[deq];have l1:its.toArray.size=ds.length:=by rw[aQ,<-rv.length,rl.len]
    have l2:jts.toArray.size=es.length:=by rw[aQ,<-rv2.length,rl2.len]
    simp only[pl] at p1 p2;simp only[dep] at hu
    by_cases hl:ds.length=es.length
    ·rw[<-uH hl,<-l1];refine .of_refs hab<|.lists ht ht2 (by rw[l1,l2,hl]) hu' λj h1 h2=> ?_;exact rP hok ds p1 p2 rl rl2 rv rv2 (A:=A.in1) (by show A.units+1+_<AR;omega) (by simp)<|by simp
    ·rw[xL hl];exact .of_refs hab<|.lists_lengths ht ht2 (by rw[l1,l2];simpa using hl) hu'
 |.dic,_,_,_,_,_,_,p1,_,_,_,_,_,_=>by simp[pl] at p1
 |.dki _ _,_,_,_,_,_,_,p1,_,_,_,_,_,_=>by simp[pl] at p1
 |.any _,_,_,_,_,_,_,p1,_,_,_,_,_,_=>by simp[pl] at p1
 |.scr _,_,_,_,_,_,_,p1,_,_,_,_,_,_=>by simp[pl] at p1
 |.non,d2,v1,v2,u1,u2,A,p1,p2,r1,r2,ru1,ru2,hu=>by
  have hu':A.units<AR:=by omega
  simp only[Rep] at r1;subst r1;cases hf:rZ d2 with
  |true=>obtain⟨h1,h2⟩:=vE hf r2;have:=tW (A:=A) (s:=s) ru1 ru2 rfl h1;cases d2<;>simp_all[rZ,flt,Rep,deq,eqV]
  |false=>
   cases ru1;cases d2 with
   |tup es=>obtain⟨b,ys,jts,rfl,e2,rl2,rv2,ht2⟩:=lM hok r2 ru2;exact SeqAt.EqAt.none_tuple ht2 hu'
   |lst es=>obtain⟨b,ys,jts,rfl,e2,rl2,rv2,ht2⟩:=lO hok r2 ru2;exact SeqAt.EqAt.none_list ht2 hu'
   |dic=>simp[pl] at p2
   |dki=>simp[pl] at p2
   |any=>simp[pl] at p2
   |scr=>simp[pl] at p2
   |_=>simp[rZ] at hf
 |.bl q,d2,v1,v2,u1,u2,A,p1,p2,r1,r2,ru1,ru2,hu=>by
  have hu':A.units<AR:=by omega
  simp only[Rep] at r1;subst r1;cases hf:rZ d2 with
  |true=>obtain⟨h1,h2⟩:=vE hf r2;have:=tW (A:=A) (s:=s) ru1 ru2 rfl h1;cases d2<;>simp_all[rZ,flt,Rep,deq,eqV]
  |false=>
   cases ru1;cases d2 with
   |tup es=>obtain⟨b,ys,jts,rfl,e2,rl2,rv2,ht2⟩:=lM hok r2 ru2;exact SeqAt.EqAt.bool_tuple q ht2 hu'
   |lst es=>obtain⟨b,ys,jts,rfl,e2,rl2,rv2,ht2⟩:=lO hok r2 ru2;exact SeqAt.EqAt.bool_list q ht2 hu'
   |dic=>simp[pl] at p2
   |dki=>simp[pl] at p2
   |any=>simp[pl] at p2
   |scr=>simp[pl] at p2
   |_=>simp[rZ] at hf
 |.int q,d2,v1,v2,u1,u2,A,p1,p2,r1,r2,ru1,ru2,hu=>by
  have hu':A.units<AR:=by omega
  simp only[Rep] at r1;subst r1;cases hf:rZ d2 with
  |true=>obtain⟨h1,h2⟩:=vE hf r2;have:=tW (A:=A) (s:=s) ru1 ru2 rfl h1;cases d2<;>simp_all[rZ,flt,Rep,deq,eqV]
  |false=>
   obtain⟨t,rfl⟩:=ru1;cases d2 with
   |tup es=>obtain⟨b,ys,jts,rfl,e2,rl2,rv2,ht2⟩:=lM hok r2 ru2;exact SeqAt.EqAt.int_tuple q t ht2 hu'
   |lst es=>obtain⟨b,ys,jts,rfl,e2,rl2,rv2,ht2⟩:=lO hok r2 ru2;exact SeqAt.EqAt.int_list q t ht2 hu'
   |dic=>simp[pl] at p2
   |dki=>simp[pl] at p2
   |any=>simp[pl] at p2
   |scr=>simp[pl] at p2
   |_=>simp[rZ] at hf
 |.str q,d2,v1,v2,u1,u2,A,p1,p2,r1,r2,ru1,ru2,hu=>by
  have hu':A.units<AR:=by omega
  simp only[Rep] at r1;subst r1;cases hf:rZ d2 with
  |true=>obtain⟨h1,h2⟩:=vE hf r2;have:=tW (A:=A) (s:=s) ru1 ru2 rfl h1;cases d2<;>simp_all[rZ,flt,Rep,deq,eqV]
  |false=>
   obtain⟨t,rfl⟩:=ru1;cases d2 with
   |tup es=>obtain⟨b,ys,jts,rfl,e2,rl2,rv2,ht2⟩:=lM hok r2 ru2;exact SeqAt.EqAt.str_tuple q t ht2 hu'
   |lst es=>obtain⟨b,ys,jts,rfl,e2,rl2,rv2,ht2⟩:=lO hok r2 ru2;exact SeqAt.EqAt.str_list q t ht2 hu'
   |dic=>simp[pl] at p2
   |dki=>simp[pl] at p2
   |any=>simp[pl] at p2
   |scr=>simp[pl] at p2
   |_=>simp[rZ] at hf
theorem rP(hok:HOk P w H s.heap):∀ (ds:List D) {es:List D}{xs ys:List V}{its jts:List BH}{j:Nat}{x y:BH}{A:BK},plL ds=true->plL es=true->RepL K H ds xs->RepL K H es ys->Vals xs its->Vals ys jts->A.units+pH ds<AR->its[j]? =some x->jts[j]? =some y->SeqAt.EqAt A s x y (dAt ds es j)
 |[],es,xs,ys,its,jts,j,x,y,A,_,_,r1,_,v1,_,_,e1,_=>by simp only[RepL] at r1;subst r1;cases v1;simp at e1
 |d::ds,es,xs,ys,its,jts,j,x,y,A,p1,p2,r1,r2,v1,v2,hu,e1,e2=>by
  obtain⟨a,as,rfl,ra,rl⟩:=r1.uncons;cases v1 with
  |cons va vas=>
   cases es with
   |nil=>simp only[RepL] at r2;subst r2;cases v2;simp at e2
   |cons e es=>
    obtain⟨b,bs,rfl,rb,rl2⟩:=r2.uncons;cases v2 with
    |cons vb vbs=>
     simp only[plL,bH] at p1 p2;simp only[pH] at hu;cases j with
     |zero=>simp at e1 e2;subst e1 e2;exact aBt hok d p1.1 p2.1 ra rb va vb<|by omega
     |succ j=>exact rP hok ds p1.2 p2.2 rl rl2 vas vbs (by omega) (by simpa using e1) (by simpa using e2)
end
theorem rc_D{pins:List (BJ×BM)}{d1 d2:D}{u:V}{x y:BH}{Q:BH->BI->Prop}(I:Inv X pins σ H s)(hs:(isT d1=true/\isT d2=true)\/(isL d1=true/\isL d2=true))(p1:pl d1=true)(p2:pl d2=true)(r1:Rep K H d1 v)(r2:Rep K H d2 u)(rx:RelV v x)(ry:RelV u y)
  (hu:X.A.units+dep d1+1<AR) (q:Q (.bool<|deq d1 d2) s):AG (AF X.prog X.w) X.A (Aa .Eq x y) Q X.xe s:=by
 have hu':X.A.units<AR:=by omega
 rcases hs with⟨t1,t2⟩|⟨t1,t2⟩
 ·cases d1<;>first|(simp[isT] at t1;done)|skip
  cases d2<;>first|(simp[isT] at t2;done)|skip
  rename_i ds es;obtain⟨a,xs,its,rfl,rfl,rl,rv,ht⟩:=lM I.hok r1 rx;obtain⟨b,ys,jts,rfl,rfl,rl2,rv2,ht2⟩:=lM I.hok r2 ry;have l1:its.toArray.size=ds.length:=by rw[aQ,<-rv.length,rl.len]
  have l2:jts.toArray.size=es.length:=by rw[aQ,<-rv2.length,rl2.len]
  simp only[pl] at p1 p2;simp only[dep] at hu;simp only[deq] at q;rw[<-sR,<-l1,<-l2] at q;exact SeqAt.eq_tupleAt ht ht2 hu' (λj h1 h2=>rP I.hok ds p1 p2 rl rl2 rv rv2 (A:=X.A.in1) (by show X.A.units+1+_<AR;omega) (by simp)<|by simp) q
 ·cases d1<;>first|(simp[isL] at t1;done)|(simp[pl] at p1;done)|skip
  cases d2<;>first|(simp[isL] at t2;done)|(simp[pl] at p2;done)|skip
  rename_i ds es;obtain⟨a,xs,its,rfl,rfl,rl,rv,ht⟩:=lO I.hok r1 rx;obtain⟨b,ys,jts,rfl,rfl,rl2,rv2,ht2⟩:=lO I.hok r2 ry;have l1:its.toArray.size=ds.length:=by rw[aQ,<-rv.length,rl.len]
  have l2:jts.toArray.size=es.length:=by rw[aQ,<-rv2.length,rl2.len]
  simp only[pl] at p1 p2;simp only[dep] at hu;simp only[deq] at q
  by_cases hl:ds.length=es.length
  ·rw[<-uH hl,<-l1] at q;exact SeqAt.eq_listAt ht ht2 (by rw[l1,l2,hl]) hu' (λj h1 h2=>rP I.hok ds p1 p2 rl rl2 rv rv2 (A:=X.A.in1) (by show X.A.units+1+_<AR;omega) (by simp)<|by simp) q
  ·rw[xL hl] at q;exact SeqAt.eq_list_lengthsAt ht ht2 (by rw[l1,l2];simpa using hl) hu' q
theorem aNS{pins:List (BJ×BM)}{d1 d2:D}{u:V}{x y:BH}{Q:BH->BI->Prop}(I:Inv X pins σ H s)(hs:(isT d1=true/\isT d2=true)\/(isL d1=true/\isL d2=true))(p1:pl d1=true)(p2:pl d2=true)(r1:Rep K H d1 v)(r2:Rep K H d2 u)(rx:RelV v x)(ry:RelV u y)
  (hu:X.A.units+dep d1+1<AR) (q:Q (.bool<|!deq d1 d2) s):AG (AF X.prog X.w) X.A (Aa .NotEq x y) Q X.xe s:=by
 have hu':X.A.units<AR:=by omega
 rcases hs with⟨t1,t2⟩|⟨t1,t2⟩
 ·cases d1<;>first|(simp[isT] at t1;done)|skip
  cases d2<;>first|(simp[isT] at t2;done)|skip
  rename_i ds es;obtain⟨a,xs,its,rfl,rfl,rl,rv,ht⟩:=lM I.hok r1 rx;obtain⟨b,ys,jts,rfl,rfl,rl2,rv2,ht2⟩:=lM I.hok r2 ry;have l1:its.toArray.size=ds.length:=by rw[aQ,<-rv.length,rl.len]
  have l2:jts.toArray.size=es.length:=by rw[aQ,<-rv2.length,rl2.len]
  simp only[pl] at p1 p2;simp only[dep] at hu;simp only[deq] at q;rw[<-sR,<-l1,<-l2] at q;exact SeqAt.RcNeAt.tuples ht ht2 hu' (λj h1 h2=>rP I.hok ds p1 p2 rl rl2 rv rv2 (A:=X.A.in1) (by show X.A.units+1+_<AR;omega) (by simp)<|by simp) _ _ _ _ q
 ·cases d1<;>first|(simp[isL] at t1;done)|(simp[pl] at p1;done)|skip
  cases d2<;>first|(simp[isL] at t2;done)|(simp[pl] at p2;done)|skip
  rename_i ds es;obtain⟨a,xs,its,rfl,rfl,rl,rv,ht⟩:=lO I.hok r1 rx;obtain⟨b,ys,jts,rfl,rfl,rl2,rv2,ht2⟩:=lO I.hok r2 ry;have l1:its.toArray.size=ds.length:=by rw[aQ,<-rv.length,rl.len]
  have l2:jts.toArray.size=es.length:=by rw[aQ,<-rv2.length,rl2.len]
  simp only[pl] at p1 p2;simp only[dep] at hu;simp only[deq] at q
  by_cases hl:ds.length=es.length
  ·rw[<-uH hl,<-l1] at q;exact SeqAt.RcNeAt.lists ht ht2 (by rw[l1,l2,hl]) hu' (λj h1 h2=>rP I.hok ds p1 p2 rl rl2 rv rv2 (A:=X.A.in1) (by show X.A.units+1+_<AR;omega) (by simp)<|by simp) _ _ _ _ q
  ·rw[xL hl] at q;exact SeqAt.RcNeAt.lists_lengths ht ht2 (by rw[l1,l2];simpa using hl) hu' _ _ _ _ q
theorem ResOk.rep(S:StF K H₀ F H σ sd)(hk:r.keeps)(q:ResOk K F H sd r v):Rep K H r.toD v:=by
 cases r with
 |val d=>exact Rep.mono S.sub q
 |own ds=>exact hk.elim
 |pr d ls=>exact hk.elim
 |ox G=>exact hk.elim
 |bor ds=>obtain⟨l,xs,e,hl,rl,_⟩:=q;simp only[R.toD,Rep];exact⟨l,xs,e,hl,rl.mono S.sub⟩
theorem aLt(K:aB)(d1 d2:D)(hs:(isT d1=true/\isT d2=true)\/(isL d1=true/\isL d2=true))(p1:pl d1=true)(p2:pl d2=true)(hu:X.A.units+dep d1+1<AR):OpR X (Aa .Eq) (λx y H Q=>Rep K H d1 x/\Rep K H d2 y/\Q (.bl<|deq d1 d2) H):=by intro pins s σ H x y v u Q I rx ry h;obtain⟨h1,h2,q⟩:=h;exact rc_D I hs p1 p2 h1 h2 rx ry hu ⟨.bl<|deq d1 d2,H,I,rfl,q⟩
theorem aMe(K:aB)(d1 d2:D)(hs:(isT d1=true/\isT d2=true)\/(isL d1=true/\isL d2=true))(p1:pl d1=true)(p2:pl d2=true)(hu:X.A.units+dep d1+1<AR):OpR X (Aa .NotEq) (λx y H Q=>Rep K H d1 x/\Rep K H d2 y/\Q (.bl<|!deq d1 d2) H):=by intro pins s σ H x y v u Q I rx ry h;obtain⟨h1,h2,q⟩:=h;exact aNS I hs p1 p2 h1 h2 rx ry hu ⟨.bl<|!deq d1 d2,H,I,rfl,q⟩
theorem aJU(ha:PEd X sd a ra)(hb:PEd X sd b rb)(ka:ra.keeps)(kb:rb.keeps)(hs:(isT ra.toD=true/\isT rb.toD=true)\/(isL ra.toD=true/\isL rb.toD=true))(p1:pl ra.toD=true)(p2:pl rb.toD=true)(hu:X.A.units+dep ra.toD+1<AR):PTd X sd (.Compare a [.NotEq] [b] pos) (!deq ra.toD rb.toD):=
 jX (aMe X.K _ _ hs p1 p2 hu) ha hb ka (kO _) λσ F H v u Q S q1 q2 k=>⟨q1.rep S ka,q2.rep S kb,k F H S<|Same.refl _⟩
noncomputable def aLA(K:aB):R2:=λx y H Q=>∃a b ys,x=.ref a/\y=.ref b/\SqT K H a []/\SqT K H b ys/\Q (.ref b) H
theorem op_catT0:OpR X (Am .Add) (aLA X.K):=by
 intro pins s σ H x y v u Q I rx ry h;obtain⟨a,b,ys,rfl,rfl,ha,hb,q⟩:=h;cases rx;cases ry;obtain⟨its,r1,p1,_⟩:=I.tuple ha;obtain⟨its2,r2,p2,_⟩:=I.tuple hb;cases r1;obtain⟨⟨cls,dd,data,sl⟩,ho,hc,n,hd⟩:=id p1;obtain⟨⟨cls2,dd2,data2,sl2⟩,ho2,hc2,n2,hd2⟩:=id p2;simp only at hc hd hc2 hd2;subst hc hd hc2 hd2
 exact concat_meets ⟨_,ho,rfl⟩ ⟨_,ho2,rfl⟩ noFill_tuple_add seq_tuple_add oX oE (nT _ _)
  (tuple_addW0 a b ([]:List BH).toArray its2.toArray n n2 dd dd2 sl sl2<|by simp) ⟨ho,ho2,⟨.ref b,H,I,rfl,q⟩⟩
theorem aEv{d1 d2:List D}(ha:PEd X sd a (.val<|.tup d1))(hb:PEd X sd b (.val<|.tup d2))(hl:d1.length+d2.length<=1000):PEd X sd (.BinOp a .Add b pos) (.val (.tup<|d1++d2)):=
 aBB (op_catT0.or aIW) ha hb trivial λσ F H v u Q S q1 q2 k=>by
  simp only[ResOk,Rep] at q1 q2;obtain⟨p,xs,e1,hp,rl⟩:=q1;obtain⟨q,ys,e2,hq,rl2⟩:=q2;cases d1 with
  |nil=>simp only[RepL] at rl;subst rl;refine .inl ⟨p,q,ys,e1,e2,.of<|S.sub _ _ hp,.of<|S.sub _ _ hq,k _ F H S (Same.refl _) ?_⟩;simp only[ResOk,Rep,qH];exact⟨q,ys,rfl,hq,rl2⟩
  |cons z zs=>
   refine .inr ⟨p,q,xs,ys,e1,e2,.of<|S.sub _ _ hp,.of<|S.sub _ _ hq, ?_,by rw[rl.len,rl2.len];exact cZ<|gO hl,λhy=> ?_,λhy p2 hp2=> ?_⟩
   ·intro hx;subst hx;obtain⟨_,_,w,_⟩:=rl.uncons;cases w
   ·subst hy
    have:d2=[]:=by
     cases d2 with
     |nil=>rfl
     |cons w ws=>obtain⟨_,_,w,_⟩:=rl2.uncons;cases w
    subst this;refine k _ F H S (Same.refl _) ?_;simp only[ResOk,Rep,eO];exact⟨p,xs,rfl,hp,rl⟩
   ·obtain⟨S2,s2⟩:=S.lay (o:=.tup<|xs++ys) hp2 trivial;refine k _ _ _ S2 s2 ?_;simp only[ResOk,Rep];exact⟨p2,_,rfl,cD,(rl.app rl2).mono s2⟩
theorem mD{p:Pos}(hg:Gl X "tuple")(hm:X.mg "tuple"=none)(ha:PEd X sd e (.bor ds))(hst:AD [e] X.env=(false,eval e X.env)::AD [] X.env:=by rfl):PEd X sd (.Call (.Name "tuple" p) [e] [] pos) (.val<|.tup ds):=
 qS (he:=hst) rF hg hm PyProof.Rows.boot_tuple (aD ha aS trivial hst) λσ F H vs Q S q k=>by
  cases q with
  |cons q1 q2=>cases q2;obtain⟨p,xs,rfl,hp,rl,_⟩:=q1;refine⟨p,xs,rfl,.inl ⟨.of hp,λl hl=> ?_⟩⟩;obtain⟨S2,s2⟩:=S.lay (o:=.tup xs) hl trivial;refine k _ _ _ S2 s2 ?_;simp only[ResOk,Rep];exact⟨l,xs,rfl,cD,rl.mono s2⟩
noncomputable def Ite(K:aB)(a:BJ):It:=
 ⟨λi H=>∃xs x,SqL K H a xs/\xs[i]? =some x,λi H x H'=>∃p v,x=.ref p/\H p=none/\H'=upd H p (.tup [.int i,v])/\∀xs,SqL K H a xs->xs[i]? =some v,λi H=>∃xs,SqL K H a xs/\xs.length<=i⟩
theorem aJK{pins:List (BJ×BM)}{h':BL}{t':Nat}{e it:BJ}(I:Inv X pins σ H s)(k:∀b o,b≠e->b≠it->s.heap.get? b=some o->h'.get? b=some o)(f1:uF X pins H e)(f2:uF X pins H it):Inv X pins σ H {s with heap:=h',toks:=t'}:=by
 have nit:∀b u,H b=some u->b≠e/\b≠it:=λb u q=>⟨λz=>(by rw[z,f1.1] at q;cases q),λz=>(by rw[z,f2.1] at q;cases q)⟩
 have ne:∀b,b∉[e,it]->b≠e/\b≠it:=λb hc=>⟨λz=>hc (by simp[z]),λz=>hc<|by simp[z]⟩
 refine I.step (g':=s.gens) (d':=s.drawn) (ch:=[e,it]) (λb hb=> ?_) (λb o _ _ hc q _=>k b o (ne b hc).1 (ne b hc).2 q) (λb o _ _ hc q _=>⟨o.slots,k b o (ne b hc).1 (ne b hc).2 q⟩) (λ_ _ _ _ n=>n)
  (λb o hc q=>⟨o,k b o (ne b hc).1 (ne b hc).2 q⟩) (λ_ _ q=>q) (λ_ _ _ q=>q) (λb ps q=>⟨#[],by rw[q];simp⟩) (λm hm=> ?_) (λb u q=> ?_) I.bare
 ·rcases aV.mp hb with z|hb
  ·subst z;exact⟨f1.2.2.2.1,f1.2.1,f1.2.2.2.2.1,f1.2.2.2.2.2⟩
  ·have z:b=it:=by simpa using hb
   subst z;exact⟨f2.2.2.2.1,f2.2.1,f2.2.2.2.2.1,f2.2.2.2.2.2⟩
 ·obtain⟨o,es,ep,ho,r⟩:=hm;exact⟨o,es,ep,k _ o (Ne.symm f1.2.1) (Ne.symm f2.2.1) ho,r⟩
 ·refine(I.hok b u q).stay (λc v hc g=> ?_) (λ_ g=>g) λ_ _ g=>g
  rcases hc with z|z
  ·rw[z] at g ⊢;exact k b v (nit b u q).1 (nit b u q).2 g
  ·exact k c v (nit c _ z).1 (nit c _ z).2 g
theorem aED{elts:List Expr}{kk:Nat}(a e it:BJ)(hei:e≠it):aHh P w K (.Tuple elts kk pos) (Ite K a) [e,it] e (λi h=>(∃old,IsEnum h e it i old)/\h.IsListIter it a i) where
 mem:=by simp
 obj:=λi h st b hb=>by
  obtain⟨⟨old,he⟩,hit⟩:=st
  rcases aV.mp hb with z|hb
  ·subst z;exact⟨_,he,λv z=>by cases z⟩
  ·have z:b=it:=by simpa using hb
   subst z;obtain⟨o,q,c,d⟩:=hit;exact⟨o,q,λv z=>by rw[d] at z;cases z⟩
 keep:=λi h h' st k=>by obtain⟨⟨old,he⟩,hit⟩:=st;exact⟨⟨old,k e (by simp) _ he⟩,hit.at λo q=>k it (by simp) o q⟩
 item:=by
  intro X hP hw hK hc i pins s σ H E I hf st hg;subst hP hw hK;obtain⟨⟨old,he⟩,hit⟩:=st;obtain⟨xs,x,hq,hx⟩:=hg;obtain⟨its,rv,p,hz⟩:=I.list hq;obtain⟨u,hu,ru⟩:=rv.get hx;have f1:=hf e (by simp);have f2:=hf it (by simp);refine wpAny_pyNext_enum_item he hit p.isList (x:=u) (by simpa using hu) hei λh1 heo hit1 ht1 hz1 hk1=> ?_
  refine⟨_,rfl,wpAny_letOwnedTupleGo_enum heo λh2 he2 hs2=> ?_⟩;have hs2:Heap.SameBut e h1 h2:=hs2;have esz:e<s.heap.objs.size:=aM he;have isz:it<s.heap.objs.size:=by obtain⟨_,q,_⟩:=hit;exact aM q
  have I1:Inv X pins σ H {s with heap:=h2,toks:=s.toks+1}:=aJK I (λb o h1' h2' q=>(hs2.2 b h1').trans<|hk1 b o h1' h2' q) f1 f2;have hn:H s.heap.objs.size=none:=I.hok.fresh<|aG _;have g2:h2.get? s.heap.objs.size=some {cls:=.type "tuple",data:=.seq #[.int i s.toks,u]}:=(hs2.2 _<|gG esz).trans ht1
  have I2:Inv X pins σ (upd H s.heap.objs.size<|.tup [.int i,x]) {s with heap:=h2,toks:=s.toks+1}:=by
   refine I1.track hn I.sz (gG I.lt) (λy c q=> ?_) (λy hy=> ?_) ⟨by show 2<=AN;decide,[.int i s.toks,u],.cons ⟨_,rfl⟩<|.cons ru .nil,⟨_,g2,rfl,⟨_,rfl⟩,rfl⟩⟩
   ·obtain⟨v,o,ho,_⟩:=I.cell y c q;exact bQ<|aM ho
   ·exact bQ<|aM (I.pin y hy).1
  refine⟨.ref s.heap.objs.size,_,I2,rfl,⟨_,x,rfl,hn,rfl,λys hy=>by rw[I.list_inj hy hq];exact hx⟩,⟨⟨u, ?_⟩, ?_⟩,λb hb=> ?_⟩
  ·have:((i+1:Nat):Int)=(i:Int)+1:=by push_cast;rfl
   rw[this];exact he2
  ·exact hit1.at λo q=>(hs2.2 it<|Ne.symm hei).trans q
  ·rcases aV.mp hb with z|hb
   ·subst z;rw[bU<|bQ esz];exact f1.1
   ·have z:b=it:=by simpa using hb
    subst z;rw[bU<|bQ isz];exact f2.1
 done:=by intro X hP hw hK hc i pins s σ H E I hf st hg;subst hP hw hK;obtain⟨⟨old,he⟩,hit⟩:=st;obtain⟨xs,hq,hx⟩:=hg;obtain⟨its,rv,p,hz⟩:=I.list hq;obtain⟨f0,f1,f2,f3,f4,f5⟩:=hf it (by simp);have hl:=rv.length;exact wpAny_pyNext_enum_end (I.ok.hd hc) he hit p.isList (by simp;omega) λh' eb=>⟨rfl,I.turned (t':=s.toks) (λb o hb q=>eb b o hb q) f0 f1 f3 f4 f5⟩
 self:=λ_ _ _ _ _ st h=>by obtain⟨⟨old,he⟩,_⟩:=st;exact wpAny_pyIter_enum he h
noncomputable def aNG(K:aB)(ta:TA):TI:=λσ H R=>ta σ H λvs H1=>∃l,vs=[.ref l]/\(∃xs,SqL K H1 l xs)/\R (Ite K l) H1
theorem aJs{elts:List Expr}{kk:Nat}{tp:Pos}{ta:TA}{p:Pos}(hg:Gl X "enumerate")(hm:X.mg "enumerate"=none)(ha:PA X [a] ta)(hs:AD [a] X.env=[(false,eval a X.env)]:=by rfl):PI X (.Tuple elts kk tp) (.Call (.Name "enumerate" p) [a] [] pos) (aNG X.K ta):=by
 intro pins s σ H R I h;refine Call_ (qG I hg hm boot_enumerate<|PyProof.Rows.callWith_type1 (thn (ha pos pins s σ H _ I h) λus s1 ⟨vs,H1,I1,r1,q1⟩=> ?_) hs rfl);obtain⟨l,rfl,⟨xs,hq⟩,q⟩:=q1;cases r1 with
 |cons r rr=>
  cases rr;cases r;obtain⟨its,rv,p,hz⟩:=I1.list hq;refine call_enumerate_list p.isList λh' he hit hsz hk=> ?_
  refine wpAny_pyIter_enum he ?_;have I2:Inv X pins σ H1 {s1 with heap:=h'}:=I1.kept (t':=s1.toks) hk;refine⟨s1.heap.objs.size+1,[s1.heap.objs.size+1,s1.heap.objs.size],_,Ite X.K l,H1,rfl,I2,aED l _ _<|Nat.succ_ne_self _,⟨⟨_,he⟩,hit⟩,λb hb=> ?_,q⟩
  rcases aV.mp hb with z|hb
  ·subst z;exact I1.fpOk (aGZ _) (I1.hok.fresh<|aGZ _)
  ·have z:b=s1.heap.objs.size:=by simpa using hb
   subst z;exact I1.fpOk (aG _) (I1.hok.fresh<|aG _)
noncomputable def xY(ds:List D):List D:=(bK ds.length).map λ(i:Nat)=>D.tup [.int (i:Int),ds.getD i .non]
theorem tO(ds:List D):(xY ds).length=ds.length:=by simp[xY]
theorem zW{i:Nat}(h:(xY ds)[i]? =some d):∃x,ds[i]? =some x/\d=.tup [.int (i:Int),x]:=by
 unfold xY at h;rw[bL] at h
 by_cases hi:i<ds.length
 ·rw[rV hi] at h;refine⟨ds[i],by simp[hi], ?_⟩;rw[<-bT.inj h];simp[bF,hi]
 ·rw[cO<|by simpa using hi] at h;cases h
def LP(K:aB)(l:BJ)(ds:List D):Hp->Hp->Prop:=λF H=>∃xs,H l=some (.lst xs)/\RepL K F ds xs
theorem aFY{F₁:Hp}{l:BJ}:ItD X.K F₁ (LP X.K l ds) (Ite X.K l) (xY ds):=λF H _ sH sm hP i=>by
 obtain⟨xs,hl,rl⟩:=hP;refine⟨λhi=> ?_,λhi=> ?_,λx H' d hd y=> ?_⟩
 ·rw[tO] at hi;exact⟨xs,xs[i]'(by rw[rl.len];exact hi),.of hl,by simp[rl.len,hi]⟩
 ·rw[tO] at hi;exact⟨xs,.of hl,by rw[rl.len];exact hi⟩
 ·obtain⟨p,v,rfl,hp,rfl,hv⟩:=y;obtain⟨z,hz,rfl⟩:=zW hd;have hv:=hv xs<|.of hl;obtain⟨v',h1,rz⟩:=rl.get hz;rw[hv] at h1;cases h1;have fp:F p=none:=sH.free hp;have s1:Same F (upd F p<|.tup [.int i,v]):=λb u q=>by rw[bU<|cA q fp];exact q
  refine⟨upd F p<|.tup [.int i,v],s1, ?_,λH₀ σ sd S=>(S.lay (o:=.tup [.int i,v]) hp trivial).1⟩;simp only[Rep];exact⟨p,_,rfl,cD,.cons (by simp only[Rep]) (.one<|rz.mono s1)⟩
theorem aGc{elts:List Expr}{kk:Nat}{tp p:Pos}(hg:Gl X "enumerate")(hm:X.mg "enumerate"=none)(ha:PEd X sd a (.val<|.lst ds))(hst:AD [a] X.env=[(false,eval a X.env)]:=by rfl):
  PId X sd PT0 (.Tuple elts kk tp) (.Call (.Name "enumerate" p) [a] [] pos) (xY ds):=.mk λσ F H S=>
 (aJs hg hm aFE hst).to ((aD ha aS trivial (by rw [hst]; rfl) σ F H S).imp fun vs H1 ⟨F1,S1,s1,q1⟩=>by
  cases q1 with
  |cons q1 q2=>
   cases q2;simp only[ResOk,Rep] at q1;obtain⟨l,xs,rfl,hl,rl⟩:=q1;refine⟨l,rfl,⟨xs,.of<|S1.sub _ _ hl⟩,F1,S1,s1,λF' H' sF sH sm _ i=> ?_⟩
   exact aFY (X:=X) (F₁:=F1) F' H' sF sH sm ⟨xs,sH _ _ (sF _ _ hl),rl.mono sF⟩ i)
noncomputable def cutD(ds:List D)(lo hi:Option Int):List D:=(ds.drop<|HT.sIx ds.length 0 lo).take<|HT.sIx ds.length ds.length hi-HT.sIx ds.length 0 lo
theorem RepL.cut{xs:List V}(r:RepL K H ds xs)(lo hi:Option Int):RepL K H (cutD ds lo hi) (aHk xs lo hi):=by unfold cutD aHk;rw[r.len];exact(r.drop _).take _
def POd(X:Cx)(sd:List Slot)(e:Option Expr)(o:Option Int):Prop:=match e,o with
 |none,none=>True
 |some e,some i=>PEd X sd e (.val<|.int i)
 |_,_=>False
theorem vK{eo:Option Expr}{o:Option Int}(h:POd X sd eo o):∃t:TO,PO X eo t/\∀ (σ:St) (F H:Hp),StF X.K X.B₀ F H σ sd->∀Q:Option Int->Hp->Prop,(∀F' H',StF X.K X.B₀ F' H' σ sd->Same F F'->Q o H')->t σ H Q:=by
 cases eo with
 |none=>
  cases o with
  |none=>exact⟨_,aJE,λσ F H S Q k=>k F H S<|Same.refl _⟩
  |some i=>exact h.elim
 |some e=>
  cases o with
  |none=>exact h.elim
  |some i=>have h:PEd X sd e (.val<|.int i):=h;refine⟨_,aIQ gI,λσ F H S Q k=>(h σ F H S).imp λv H1 ⟨F1,S1,s1,q1⟩=> ?_⟩;simp only[ResOk,Rep] at q1;exact⟨i,q1,k F1 H1 S1 s1⟩
theorem wF{lo hi:Option Expr}{ol oh:Option Int}{p2:Pos}(ha:PEd X sd a (.bor ds))(hl:POd X sd lo ol)(hh:POd X sd hi oh):PEd X sd (.Subscript a (.Slice lo hi none p2) pos) (.own<|cutD ds ol oh):=.mk λσ F H S=>by obtain⟨tl,pl,kl⟩:=vK hl;obtain⟨th,ph,kh⟩:=vK hh;refine(aBS aEj gI pl ph).to<|(ha σ F H S).imp λv H1 ⟨F1,S1,s1,q1⟩=>kl σ F1 H1 S1 _ λF2 H2 S2 s2=>kh σ F2 H2 S2 _ λF3 H3 S3 s3=> ?_;obtain⟨l,xs,rfl,hl',rl,_⟩:=ResOk.keep (r:=.bor ds) trivial q1 S3<|s2.trans s3;refine⟨l,xs,rfl,.of hl',λp hp=> ?_⟩;obtain⟨S4,fp,no⟩:=S3.layO (xs:=aHk xs ol oh) hp;exact⟨F3,S4,(s1.trans s2).trans s3,p,_,rfl,fp,cD,rl.cut ol oh,no⟩
theorem iB{body:List BN}{P:Hp->Hp->Prop}(Sd:Nat->List Slot->Prop)(hi:PId X sd P tg iter ds)(h0:∃sd0,Le sd sd0/\Sd 0 sd0)
  (hb:∀k d sdk,ds[k]? =some d->Sd k sdk->∃sdt,PGd X sdk tg d sdt/\PSd X sdt body {E with nx:=λsd'=>∃sd2,Le sd' sd2/\Sd (k+1) sd2,ct:=λsd'=>∃sd2,Le sd' sd2/\Sd (k+1) sd2,bk:=E.nx}) (hE:∀sdn,Sd ds.length sdn->E.nx sdn) (hP:∀k sdk σ F H,Sd k sdk->StF X.K X.B₀ F H σ sdk->P F H:=by intros;trivial)
  (hc:X.calm=true:=by rfl) (hp:PassesOwn (AF X.prog X.w) X.A X.env X.xe:=by exact PassesOwn.never) (hs:∀x,Ag iter X.env x=pure x:=by intro _;rfl):PSd1 X sd (.For tg iter body [] pos) E:=.mk λσ F H S=>
 (aHQ hp hc aOs aNj wX hs).to (by
  intro pins s I;refine thn (hi σ F H S pins s I) λv s1 h1=>thn h1 λitv s2 h2=> ?_
  obtain⟨it,fp,tn,J,H2,e,I2,T,st2,f2,F1,S1,s1',itd⟩:=h2;refine⟨it,fp,tn,J,H2,e,I2,T,st2,f2, ?_⟩;obtain⟨sd0,le0,q0⟩:=h0;refine⟨λi m σ' H'=>m=ds.length-i/\i<=ds.length/\∃sdi F',StF X.K X.B₀ F' H' σ' sdi/\Same F1 F'/\Sd i sdi,⟨ds.length,by simp,bI _,sd0,F1,S1.le le0,Same.refl _,q0⟩, ?_⟩;rintro i m σ' H' ⟨rfl,hil,sdi,F',S',s',qi⟩;obtain⟨g1,g2,g3⟩:=itd F' H' s' S'.sub S'.smp (hP _ _ _ _ _ qi S') i
  by_cases hlt:i<ds.length
  ·refine .inr ⟨g1 hlt,λσ2 H2=>∃sd2 F2,StF X.K X.B₀ F2 H2 σ2 sd2/\Same F1 F2/\Sd (i+1) sd2,λσ2 H2 ⟨sd2,F2,S2,s2,q2⟩=>⟨ds.length-(i+1),by omega,rfl,hlt,sd2,F2,S2,s2,q2⟩,λx H2 y=> ?_⟩;have hd:ds[i]? =some ds[i]:=by simp[hlt]
   obtain⟨F2,s2,rp,up⟩:=g3 x H2 ds[i] hd y;obtain⟨sdt,hg,hbb⟩:=hb i _ sdi hd qi;refine(hg σ' F2 H2 x (up _ _ _ S') rp).imp λσ3 H3 ⟨F3,S3,s3⟩=> ?_
   have base:Same F1 F3:=(s'.trans s2).trans s3;refine(hbb σ3 F3 H3 S3).imp ?_ ?_ ?_ ?_
   ·rintro σ4 H4 ⟨sd4,F4,S4,s4,sd5,le,q5⟩;exact⟨sd5,F4,S4.le le,base.trans s4,q5⟩
   ·exact λv H4 q=>q
   ·rintro σ4 H4 ⟨sd4,F4,S4,s4,q⟩;exact⟨sd4,F4,S4,(s1'.trans base).trans s4,q⟩
   ·rintro σ4 H4 ⟨sd4,F4,S4,s4,sd5,le,q5⟩;exact⟨sd5,F4,S4.le le,base.trans s4,q5⟩
  ·have e:i=ds.length:=by omega
   subst e
   exact .inl ⟨g2 (aG _),sdi,F',S',s1'.trans s',hE sdi qi⟩)
noncomputable def hW(m:Nat):Nat->List (List Int)
 |0=>[[]]
 |k+1=>(hW m k).flatMap λs=>(bK m).map λ(w:Nat)=>s++[(w:Int)]
noncomputable def aT(s:List Int):D:=.tup<|s.map D.int
noncomputable def aHg(m:Int)(ws:List Int):Int:=ws.foldl (λn w=>n*m+w) 0
noncomputable def aMZ(b k:Nat):Bool:=let L:=hW (2^b) k;L.length==2^(b*k)&&(bK L.length).all λi=>let f:=L.getD i [];f.length==k&&f.all (λw=>decide (0<=w)&&decide (w<2^b))&&decide (aHg (2^b) f=i)&&(i==0||HT.lexLt (L.getD (i-1) []) f)
theorem aKW:∀p∈bX,aMZ p.1.toNat p.2.toNat=true:=by decide+kernel
theorem sC:∀p∈bX,1<=p.1/\p.1<=6/\1<=p.2/\p.2<=6/\p.1*p.2<=6:=by decide+kernel
theorem vO{m:Nat}:∀ {k:Nat}{ws:List Int},ws.length=k->(∀w∈ws,0<=w/\w<m)->ws∈hW m k
 |0,ws,h,_=>by have:ws=[]:=fG.mp h;subst this;simp[hW]
 |k+1,ws,h,hw=>by
  have hne:ws≠[]:=by intro z;subst z;simp at h
  have e:ws=ws.dropLast++[ws.getLast hne]:=(yX hne).symm;have hl:=hw (ws.getLast hne)<|List.getLast_mem hne;have ih:ws.dropLast∈hW m k:=vO (by rw[List.length_dropLast,h];rfl) λw hm=>hw w<|List.dropLast_subset _ hm
  show ws∈(hW m k).flatMap λs=>(bK m).map λ(w:Nat)=>s++[(w:Int)]
  refine fR.mpr ⟨_,ih,aH.mpr ⟨(ws.getLast hne).toNat,bB.mpr<|by omega, ?_⟩⟩;have:(((ws.getLast hne).toNat:Nat):Int)=ws.getLast hne:=by omega
  rw[this];exact e.symm
structure aKU(b k:Nat):Prop where
 len:(hW (2^b) k).length=2^(b*k)
 at_:∀i,i<2^(b*k)->((hW (2^b) k).getD i []).length=k/\(∀w∈(hW (2^b) k).getD i [],0<=w/\w<2^b)/\aHg (2^b) ((hW (2^b) k).getD i [])=i/\(i=0\/HT.lexLt ((hW (2^b) k).getD (i-1) []) ((hW (2^b) k).getD i [])=true)
theorem aIj{b k:Nat}(h:aMZ b k=true):aKU b k:=by unfold aMZ at h;simp only[bH,beq_iff_eq,bN,bB,decide_eq_true_eq,jT] at h;obtain⟨h1,h2⟩:=h;refine⟨h1,λi hi=> ?_⟩;obtain⟨⟨⟨a,b⟩,c⟩,d⟩:=h2 i (by omega);exact⟨a,b,c,d⟩
theorem aLZ{b k:Nat}(h:aKU b k){ws:List Int}(hl:ws.length=k)(hw:∀w∈ws,0<=w/\w<((2^b:Nat):Int)):0<=aHg (2^b) ws/\(aHg (2^b) ws).toNat<2^(b*k)/\(hW (2^b) k).getD (aHg (2^b) ws).toNat []=ws:=by
 have hm:=vO hl hw;obtain⟨i,hi,e⟩:=List.mem_iff_getElem.mp hm;have e':(hW (2^b) k).getD i []=ws:=by simp[bF,hi,e]
 rw[h.len] at hi;have hn:=(h.at_ i hi).2.2.1;rw[e'] at hn;rw[hn];refine⟨by omega,by simpa using hi, ?_⟩;simpa using e'
theorem aBM:∀ (ws vs:List Int),mV (ws.map D.int) (vs.map D.int)=decide (ws=vs)
 |[],[]=>by simp[mV]
 |[],_::_=>by simp[mV]
 |_::_,[]=>by simp[mV]
 |w::ws,v::vs=>by
  simp only[aR,mV,deq,aBM ws vs]
  by_cases h1:w=v<;>by_cases h2:ws=vs<;>simp[h1,h2]
theorem sP(ws vs:List Int):deq (aT ws) (aT vs)=decide (ws=vs):=by unfold aT;simp only[deq,aBM]
theorem aBQ:∀ws:List Int,plL (ws.map D.int)=true
 |[]=>rfl
 |w::ws=>by simp[plL,pl,aBQ ws]
theorem aAm:∀ws:List Int,pH (ws.map D.int)=0
 |[]=>rfl
 |w::ws=>by simp[pH,dep,aAm ws]
theorem nH(ws:List Int):pl (aT ws)=true:=by simp[aT,pl,aBQ]
theorem aCl(ws:List Int):dep (aT ws)=1:=by simp[aT,dep,aAm]
theorem vS:∀L:List (List Int),plL (L.map aT)=true
 |[]=>rfl
 |w::ws=>by simp[plL,nH,vS ws]
theorem tM:∀L:List (List Int),pH (L.map aT)<=1
 |[]=>by simp[pH]
 |w::ws=>by have:=tM ws;simp only[aR,pH,aCl];omega
theorem aFN{i j:Int}(h1: -(2^64)<j)(h2:j<2^64):IntMulOk i j:=.of_right<|intBits_le_64 h1 h2
theorem aIT:∀n:Nat,n<=6->([.int 1,.int 2,.int 4,.int 8,.int 16,.int 32,.int 64]:List D)[n]? =some (.int<|((2^n:Nat):Int)):=by
 intro n hn
 match n,hn with
 |0,_=>rfl
 |1,_=>rfl
 |2,_=>rfl
 |3,_=>rfl
 |4,_=>rfl
 |5,_=>rfl
 |6,_=>rfl
theorem pX{L:List (List Int)}{k:Nat}(h:(L.map aT)[k]? =some d):k<L.length/\d=aT (L.getD k []):=by
 rw[bL] at h;cases e:L[k]? with
 |none=>rw[e] at h;cases h
 |some z=>rw[e] at h;refine⟨(aZ.mp e).1, ?_⟩;rw[<-bT.inj h,bF,e];rfl
theorem aGS{k1 k2 k3 kx:Str}{v1 v2 v3 vx:Int}{e1 e2 e3 ix:Expr}{j1 j2 j3:Nat}{p1 p2 p3 pd:Pos}(ho:cF sd=[])(h1:PEd X sd e1 (.val<|.int v1))(h2:PEd X sd e2 (.val<|.int v2))(h3:PEd X sd e3 (.val<|.int v3))(hi:PEd X sd ix (.val<|.str kx))
  (hv:lP (lJ [] [((.inr k1:Key),V.int v1),(.inr k2,.int v2),(.inr k3,.int v3)]) (.inr kx)=some (.int vx)) (hu:X.A.units+1<AR) (hs:aNf ix):
  PEd X sd (.Subscript (.Dict [some<|.Constant (.str k1) j1 p1,some<|.Constant (.str k2) j2 p2,some<|.Constant (.str k3) j3 p3] [e1,e2,e3] pd) ix pos) (.val<|.int vx):=.mk λσ F H S=>
 (aIX hu (aIR (xO pe_str gI (xO pe_str gI (xO pe_str gI aKa))) rfl rfl (by simp) (by simp)) gI hs).to (by
  intro p hp;have fp:F p=none:=S.sub.free hp;obtain⟨S1,s1⟩:=S.lay (o:=.dK []) hp trivial;refine(h1 σ _ _ S1).imp λx1 H1 ⟨F1,T1,t1,q1⟩=>(h2 σ F1 H1 T1).imp λx2 H2 ⟨F2,T2,t2,q2⟩=>(h3 σ F2 H2 T2).imp λx3 H3 ⟨F3,T3,t3,q3⟩=> ?_
  simp only[ResOk,Rep] at q1 q2 q3;subst q1 q2 q3;have sF:Same (upd F p<|.dK []) F3:=(t1.trans t2).trans t3;have hp3:H3 p=some (.dK []):=T3.sub _ _<|sF _ _ cD;refine⟨hp3,[((.inr k1:Key),V.int v1),(.inr k2,.int v2),(.inr k3,.int v3)],rfl,by simp, ?_⟩;generalize lJ [] [((.inr k1:Key),V.int v1),(.inr k2,.int v2),(.inr k3,.int v3)]=kvs at hv ⊢;have s5:Same F (upd F p<|.dK kvs):=λb u g=>by rw[bU<|cA g fp];exact g
  have T4:StF X.K X.B₀ (upd F p<|.dK kvs) (upd H3 p<|.dK kvs) σ sd:=by
   refine⟨λb u g=>s5 _ _<|S.base _ _ g,λb u g=> ?_,λb u g=> ?_,S.slots.mono s5 λl hl=> ?_,S.nd⟩
   ·by_cases hb:b=p
    ·subst hb;rw[cD] at g ⊢;exact g
    ·rw[bU hb] at g ⊢;exact T3.sub _ _ (sF _ _<|s1 _ _ g)
   ·by_cases hb:b=p
    ·subst hb;rw[cD] at g;cases g;trivial
    ·rw[bU hb] at g;exact T3.smp _ _ g
   ·rw[ho] at hl;cases hl
  refine(hi σ _ _ T4).imp λy H4 ⟨F4,T5,t5,q5⟩=> ?_
  simp only[ResOk,Rep] at q5;subst q5;have hp4:H4 p=some (.dK kvs):=T5.sub _ _<|t5 _ _ cD;refine⟨p,.int vx,rfl, ?_,F4,T5,s5.trans t5,by simp only[ResOk,Rep]⟩;have:=DGet.k (k:=(.inr kx:Key)) hp4;rw[hv] at this
  exact this)
theorem aBY{p:Pos}(hg:Gl X "list")(hm:X.mg "list"=none)(ha:PEd X sd e (.val<|.tup ds))(hst:AD [e] X.env=(false,eval e X.env)::AD [] X.env:=by rfl):PEd X sd (.Call (.Name "list" p) [e] [] pos) (.own ds):=
 qS (he:=hst) sT hg hm PyProof.Rows.boot_list (aD ha aS trivial hst) λσ F H vs Q S q k=>by
  cases q with
  |cons q1 q2=>cases q2;simp only[ResOk,Rep] at q1;obtain⟨p,xs,rfl,hp,rl⟩:=q1;refine⟨p,xs,rfl,.inr (.of<|S.sub _ _ hp),λl hl=> ?_⟩;obtain⟨S2,fp,no⟩:=S.layO (xs:=xs) hl;exact k _ F _ S2 (Same.refl _) ⟨l,xs,rfl,fp,cD,rl,no⟩
theorem aJJ{p:Pos}{i j:Int}(hg:Gl X "max")(hm:X.mg "max"=none)(ha:PEd X sd a (.val<|.int i))(hb:PEd X sd b (.val<|.int j))(hc:X.calm=true:=by rfl)(hst:AD [a,b] X.env=(false,eval a X.env)::AD [b] X.env:=by rfl)(hst2:AD [b] X.env=(false,eval b X.env)::AD [] X.env:=by rfl)(hpl:(Ak pos<|AD [b] X.env).any (·.1)=false:=by rfl):PEd X sd (.Call (.Name "max" p) [a,b] [] pos) (.val<|.int (if j>i then j else i)):=
 sX (he:=hst) (hpl:=hpl) (aFj hc) hg hm boot_max (aD ha (aD hb aS trivial hst2) trivial hst) λσ F H vs Q S q k=>by
  cases q with
  |cons q1 q2=>
   cases q2 with
   |cons q2 q3=>cases q3;simp only[ResOk,Rep] at q1 q2;subst q1 q2;exact⟨i,j,rfl,k _ F H S (Same.refl _)<|by simp only[ResOk,Rep]⟩
theorem uC(i:Nat){x:Str}{p tp:Pos}{ix:Expr}{l:BJ}{n:Nat}(hs:sd[i]? =some (.own l ds))(hx:PE X (.Name x p) (qY i))(h:PEd X sd e (.val d))(hi:PEd X sd ix (.val<|.int (n:Int)))(hn:n<ds.length)(hE:E.nx (sd.set i (.own l<|ds.set n d)))
  (ha:∀v,assign (.Subscript (.Name x p) ix tp) X.env v=(do
   let ov <-holding [v] (eval (.Name x p) X.env)
   let iv <-holding [v,ov] (eval ix X.env)
   standAt tp
   holding [v,ov,iv] (setItem ov iv v)
   release [v,ov,iv] []):=by intro _;rfl)
  (hs1:swapsWithSole [.Subscript (.Name x p) ix tp] e pos.line X.env=pure false:=by rfl) (hw:swappedStores [.Subscript (.Name x p) ix tp] e X.env=pure none:=by rfl)
  (h1:(Ay [.Subscript (.Name x p) ix tp] X.env).map (·.2)=[assign (.Subscript (.Name x p) ix tp) X.env]:=by rfl):PSd1 X sd (.Assign [.Subscript (.Name x p) ix tp] e pos) E:=.mk λσ F H S=>
 (aHq gI (aMw hx gI aGm ha) hs1 hw h1).to ((h σ F H S).imp fun v H1 ⟨F1,S1,s1,q1⟩=>by
  obtain⟨o,g1,g2,n1,xs,q,rl⟩:=S1.slots.get hs;refine⟨.ref l,by rw[g1,g2],(hi σ F1 H1 S1).imp λy H2 ⟨F2,S2,s2,q2⟩=> ?_⟩;simp only[ResOk,Rep] at q2;subst q2;obtain⟨o',g1',g2',n',xs',q',rl'⟩:=S2.slots.get hs;have lx:n<xs'.length:=by rw[rl'.len];exact hn
  refine⟨l,xs',(n:Int),n,rfl,rfl,q', ?_,_,F2,S2.wr hs<|rl'.set (Rep.mono s2 q1) n,s1.trans s2,hE⟩;unfold ixN
  rw[if_pos (by omega),if_pos (by omega),dG])
def stepNames:List Str:=["and","or","xor","add","take","copy","put","not","up","down"]
noncomputable def nm(k:Nat):Str:=stepNames.getD k "down"
noncomputable def mW(k:Nat)(i j n:Int):D:=if k<6 then .tup [.str<|nm k,.int i,.int j] else if k=6 then .tup [.str<|nm k,.int i,.int n] else .tup [.str<|nm k,.int i]
noncomputable def aNl(k:Nat)(m a:Int):Int:=match k with
 |7=>m-1-a
 |8=>a*2%m
 |_=>a / 2
noncomputable def xR(k:Nat)(m a c:Int):Int:=match k with
 |0=>Builtin.bitAnd a c
 |1=>Builtin.bitOr a c
 |2=>Builtin.bitXor a c
 |3=>(a+c)%m
 |4=>(a-c)%m
 |_=>c
noncomputable def aIy(k:Nat)(m a c n:Int):Int:=if k=6 then n else if 7<=k then aNl k m a else xR k m a c
noncomputable def bop(k:Nat)(h t:Int):Int:=match k with
 |0=>h*t
 |1=>if t>h then t else h
 |_=>(h+t)%2
noncomputable def pows:List Int:=[1,2,4,8,16,32,64]
noncomputable def wY(k:Nat)(ps:List Int)(a c:Int):Int:=ps.foldl (λacc p=>acc+p*bop k (a / p%2) (c / p%2)) 0
theorem aFS:∀b,b<7->∀a,a<2^b->∀c,c<2^b->∀k,k<3->xR k 0 ((a:Nat):Int) ((c:Nat):Int)=wY k (pows.take b) a c:=by decide+kernel
theorem aJV:∀k,k<10->decide (V.str (nm k)=V.str "take")=decide (k=4):=by decide+kernel
theorem aJz:∀k,k<10->decide (V.str (nm k)=V.str "copy")=decide (k=5):=by decide+kernel
theorem aDs:∀k,k<10->decide (V.str (nm k)=V.str "put")=decide (k=6):=by decide+kernel
theorem aDW:∀k,k<10->inV (V.str<|nm k) [V.str "not",V.str "up",V.str "down"]=decide (7<=k):=by decide+kernel
theorem aFP:∀b,b<7->∀a,a<2^b->∀c,c<2^b->∀k,k<3->0<=xR k 0 ((a:Nat):Int) ((c:Nat):Int)/\xR k 0 ((a:Nat):Int) ((c:Nat):Int)<((2^b:Nat):Int):=by decide+kernel
theorem aLn{k:Nat}(h:k<3)(m a c:Int):xR k m a c=xR k 0 a c:=by
 match k,h with
 |0,_=>rfl
 |1,_=>rfl
 |2,_=>rfl
theorem aGK{b k:Nat}{a c n:Int}(hb:b<7)(hk:k<10)(ha:0<=a/\a<((2^b:Nat):Int))(hc:0<=c/\c<((2^b:Nat):Int))(hn:0<=n/\n<((2^b:Nat):Int)):0<=aIy k ((2^b:Nat):Int) a c n/\aIy k ((2^b:Nat):Int) a c n<((2^b:Nat):Int):=by
 have ea:a=((a.toNat:Nat):Int):=by omega
 have ec:c=((c.toNat:Nat):Int):=by omega
 have la:a.toNat<2^b:=by have:=ha.2;generalize 2^b=q at *;omega
 have lc:c.toNat<2^b:=by have:=hc.2;generalize 2^b=q at *;omega
 have tab:∀k,k<3->0<=xR k ((2^b:Nat):Int) a c/\xR k ((2^b:Nat):Int) a c<((2^b:Nat):Int):=λk hk=>by rw[aLn hk,ea,ec];exact aFP b hb _ la _ lc k hk
 have mpos:(0:Int)<((2^b:Nat):Int):=by omega
 match k,hk with
 |0,_=>exact tab 0<|by decide
 |1,_=>exact tab 1<|by decide
 |2,_=>exact tab 2<|by decide
 |3,_=>exact⟨bP _<|kQ mpos,bM _ mpos⟩
 |4,_=>exact⟨bP _<|kQ mpos,bM _ mpos⟩
 |5,_=>exact hc
 |6,_=>exact hn
 |7,_=>show 0<=((2^b:Nat):Int)-1-a/\((2^b:Nat):Int)-1-a<((2^b:Nat):Int);generalize ((2^b:Nat):Int)=q at *;omega
 |8,_=>exact⟨bP _<|kQ mpos,bM _ mpos⟩
 |9,_=>show 0<=a / 2/\a / 2<((2^b:Nat):Int);generalize ((2^b:Nat):Int)=q at *;omega
theorem val3{k1 k2 k3:Str}(h12:k1≠k2)(h13:k1≠k3)(h23:k2≠k3)(x y z:V):lP (lJ [] [((.inr k1:Key),x),(.inr k2,y),(.inr k3,z)]) (.inr k1)=some x/\lP (lJ [] [((.inr k1:Key),x),(.inr k2,y),(.inr k3,z)]) (.inr k2)=some y/\lP (lJ [] [((.inr k1:Key),x),(.inr k2,y),(.inr k3,z)]) (.inr k3)=some z:=by
 have e:lJ [] [((.inr k1:Key),x),(.inr k2,y),(.inr k3,z)]=[((.inr k1:Key),x),(.inr k2,y),(.inr k3,z)]:=by simp[lJ,rD,h12,h13,h23]
 rw[e];simp[lP,iJ,h12,h13,h23,h12.symm,h13.symm,h23.symm]
theorem RepL.strs:∀ {ss:List Str}{xs:List V},RepL K H (ss.map D.str) xs->xs=ss.map V.str
 |[],xs,r=>by simpa only[dD,RepL] using r
 |n::ns,xs,r=>by rw[aR] at r;obtain⟨y,ys,rfl,a,rl⟩:=r.uncons;simp only[Rep] at a;rw[a,RepL.strs rl];rfl
theorem aEl{ss:List Str}(ha:PEd X sd a (.val d))(hb:PEd X sd b (.val (.tup<|ss.map D.str)))(hd:flt d=some v)(fv:pZ v=true)(hk:Ae .In b=false:=by with_unfolding_all rfl):PTd X sd (.Compare a [.In] [b] pos) (inV v<|ss.map V.str):=
 jX aER ha hb trivial hk λσ F H x u Q S q1 q2 k=>by have e:=oH hd q1;subst e;simp only[ResOk,Rep] at q2;obtain⟨p,xs,rfl,hp,rl⟩:=q2;rw[rl.strs] at hp;refine⟨p,_,rfl,.inr (.of<|S.sub _ _ hp),fv, ?_,k F H S<|Same.refl _⟩;rw[bN];intro y hy;obtain⟨z,_,rfl⟩:=aH.mp hy;rfl
theorem aHz{i j:Int}(ha:PEd X sd a (.val<|.int i))(hb:PEd X sd b (.val<|.int j)):PEd X sd (.Compare a [.Eq] [b] pos) (.val<|.bl (decide<|i=j)):=
 uY aFL ha hb trivial (kO _) λσ F H v u Q S q1 q2 k=>by
  simp only[ResOk,Rep] at q1 q2;subst q1;subst q2;refine⟨rfl, ?_⟩;have e:decide (V.int i=V.int j)=decide (i=j):=by rw[sE,lG]
  rw[e];exact k F H S<|Same.refl _
variable {o:Expr}
theorem PEd.ic{i j:Int}(h:PEd X sd e (.val<|.int i))(q:i=j):PEd X sd e (.val<|.int j):=q▸h
theorem PWd.cast{k k':Bool}(h:PWd X sd e k)(q:k=k'):PWd X sd e k':=q▸h
mutual
noncomputable def noL:D->Bool
 |.tup ds=>pY ds
 |.lst _=>false
 |.scr _=>false
 |.dic=>false
 |.dki _ _=>false
 |.any _=>false
 |_=>true
noncomputable def pY:List D->Bool
 |[]=>true
 |d::ds=>noL d&&pY ds
end
noncomputable def del(F:Hp)(l:BJ):Hp:=λb=>if b=l then none else F b
theorem qA{l b:BJ}(h:b≠l):del F l b=F b:=by unfold del;rw[if_neg h]
theorem yN{l:BJ}:del F l l=none:=by unfold del;rw[if_pos rfl]
mutual
theorem Rep.del{K:aB}{F:Hp}{l:BJ}{xs:List V}(hl:F l=some (.lst xs)):∀ {d:D}{v:V},noL d=true->Rep K F d v->Rep K (del F l) d v
 |.non,_,_,r=>by simpa only[Rep] using r
 |.bl _,_,_,r=>by simpa only[Rep] using r
 |.int _,_,_,r=>by simpa only[Rep] using r
 |.str _,_,_,r=>by simpa only[Rep] using r
 |.tup ds,v,h,r=>by
  simp only[Rep] at r ⊢;obtain⟨a,ys,e,q,rl⟩:=r
  have ne:a≠l:=λz=>by rw[z,hl] at q;cases q
  exact⟨a,ys,e,by rw[qA ne];exact q,RepL.del hl (by simpa only[noL] using h) rl⟩
 |.lst _,_,h,_=>by simp[noL] at h
 |.dic,_,h,_=>by simp[noL] at h
 |.dki _ _,_,h,_=>by simp[noL] at h
 |.any _,_,h,_=>by simp[noL] at h
 |.scr _,_,h,_=>by simp[noL] at h
theorem RepL.del{K:aB}{F:Hp}{l:BJ}{xs:List V}(hl:F l=some (.lst xs)):∀ {ds:List D}{ys:List V},pY ds=true->RepL K F ds ys->RepL K (del F l) ds ys
 |[],_,_,r=>by simpa only[RepL] using r
 |d::ds,ys,h,r=>by simp only[pY,bH] at h;obtain⟨y,zs,rfl,a,rl⟩:=r.uncons;exact .cons (Rep.del hl h.1 a)<|RepL.del hl h.2 rl
end
theorem aCi{K:aB}{F H:Hp}:∀ {sd:List Slot}{σ:St},σ.length=sd.length->(∀ (k:Nat) (z:Slot),sd[k]? =some z->∃o,σ[k]? =some o/\oU K F H z o)->SlotsOk K F H sd σ
 |[],[],_,_=>rfl
 |z::zs,o::r,hl,h=>by
  obtain⟨o',e,q⟩:=h 0 z rfl;have:o=o':=by simpa using e
  subst this
  exact ⟨o,r,rfl,q,aCi (by simpa using hl) fun k z hz=>by
   obtain⟨o',e,q⟩:=h (k+1) z (by simpa using hz)
   exact⟨o',by simpa using e,q⟩⟩
 |[],_::_,hl,_=>by simp at hl
 |_::_,[],hl,_=>by simp at hl
noncomputable def aNu:R->Bool
 |.val d=>noL d
 |.own ds=>pY ds
 |.bor _=>false
 |.pr _ _=>false
 |.ox _=>false
noncomputable def okS:Slot->Bool
 |.own _ ds=>pY ds
 |.od _ _ ds=>pY ds
 |.ox _ _=>false
 |_=>true
def Oth(sd:List Slot)(i:Nat):Prop:=∀ (k:Nat) (z:Slot),k≠i->sd[k]? =some z->okS z=true
variable {i:Nat}{l:BJ}{xs:List V}
theorem StF.lend(S:StF K H₀ F H σ sd)(hs:sd[i]? =some (.own l ds))(hx:H l=some (.lst xs)):StF K H₀ (upd F l<|.lst xs) H σ (sd.set i (.val<|.lst ds)):=by obtain⟨o,h1,h2,n,ys,q,rl⟩:=S.slots.get hs;rw[hx] at q;cases q;have S0:=S.le<|kJ sd i;obtain⟨S1,s1⟩:=S0.freeze hx n<|qU S.nd hs;have S2:=S1.set (d:=.lst ds) (v:=.ref l) i (by simp only[Rep];exact⟨l,xs,rfl,cD,rl.mono s1⟩);rw[qO,sV<|by rw[h1,h2]] at S2;exact S2
theorem StF.back(S:StF K H₀ F H σ sd)(hs:sd[i]? =some (.own l ds))(hx:H l=some (.lst xs))(ho:Oth sd i)(S':StF K H₀ F' H' σ (sd.set i (.val<|.lst ds)))(s:Same (upd F l<|.lst xs) F'):StF K H₀ (del F' l) H' σ sd/\Same F (del F' l)/\F' l=some (.lst xs):=by
 obtain⟨o,h1,h2,n,ys,q,rl⟩:=S.slots.get hs;rw[hx] at q;cases q;have fl:F' l=some (.lst xs):=s _ _ cD
 have sF:Same F (del F' l):=λb u e=>by have ne:b≠l:=cA e n;rw[qA ne];exact s _ _ (by rw[bU ne];exact e)
 refine⟨⟨λb u e=>sF _ _<|S.base _ _ e,λb u e=> ?_,S'.smp, ?_,S.nd⟩,sF,fl⟩
 ·by_cases h:b=l
  ·subst h;rw[yN] at e;cases e
  ·rw[qA h] at e;exact S'.sub _ _ e
 ·refine aCi S.slots.len λk z hz=> ?_
  by_cases hk:k=i
  ·subst hk;rw[hs] at hz;cases hz;exact⟨o,h1,h2,yN,xs,S'.sub _ _ fl,rl.mono sF⟩
  ·obtain⟨o1,g1,g2⟩:=S.slots.get hz;obtain⟨o2,g3,g4⟩:=S'.slots.get (i:=k) (z:=z) (by rw[iW<|Ne.symm hk];exact hz);rw[g1] at g3;cases g3;refine⟨o1,g1, ?_⟩;cases z with
   |un=>trivial
   |val d=>obtain⟨v,e,r⟩:=g2;exact⟨v,e,r.mono sF⟩
   |gh d G=>obtain⟨v,e,r,g⟩:=g2;exact⟨v,e,r.mono sF,λF2 s2=>g F2<|sF.trans s2⟩
   |own l' ds'=>
    obtain⟨e,n',ys,q',rl'⟩:=g4
    have ne:l'≠l:=λe2=>by rw[e2,fl] at n';cases n'
    exact⟨e,by rw[qA ne];exact n',ys,q',RepL.del fl (ho k _ hk hz) rl'⟩
   |od l' ks ds'=>
    obtain⟨e,n',ys,q',ln,rl'⟩:=g4
    have ne:l'≠l:=λe2=>by rw[e2,fl] at n';cases n'
    exact⟨e,by rw[qA ne];exact n',ys,q',ln,RepL.del fl (ho k _ hk hz) rl'⟩
   |ox ls G=>exact absurd (ho k _ hk hz) (by simp[okS])
theorem PEd.lend(i:Nat)(hs:sd[i]? =some (.own l ds))(ho:Oth sd i)(hf:aNu r=true)(h:PEd X (sd.set i (.val<|.lst ds)) e r):PEd X sd e r:=.mk λσ F H S=>by
 obtain⟨o,h1,h2,n,xs,q,rl⟩:=S.slots.get hs;refine(h σ _ H<|S.lend hs q).imp λv H' ⟨F',S',s',res⟩=> ?_
 obtain⟨S2,s2,fl⟩:=S.back hs q ho S' s';refine⟨del F' l,S2,s2, ?_⟩;cases r with
 |val d=>exact Rep.del fl hf res
 |own ds'=>
  obtain⟨l',xs',e,n',q',rl',no⟩:=res
  have ne:l'≠l:=λe2=>by rw[e2,fl] at n';cases n'
  refine⟨l',xs',e,by rw[qA ne];exact n',q',RepL.del fl hf rl',λhm=>no ?_⟩;obtain⟨z,hz,ez⟩:=fR.mp hm;obtain⟨k,hk⟩:=gY hz
  have ki:k≠i:=λy=>by subst y;rw[hs] at hk;cases hk;have:l=l':=(bA.mp ez).symm;exact ne this.symm
  exact fR.mpr ⟨_,cU (by rw[iW<|Ne.symm ki];exact hk),ez⟩
 |bor _=>cases hf
 |pr _ _=>cases hf
 |ox _=>cases hf
theorem PTd.cast{k k':Bool}(h:PTd X sd e k)(q:k=k'):PTd X sd e k':=q▸h
noncomputable def aNc:List Slot->Nat->Bool
 |[],_=>true
 |_::zs,0=>zs.all okS
 |z::zs,i+1=>okS z&&aNc zs i
theorem aKI:∀ {sd:List Slot}{i:Nat},aNc sd i=true->Oth sd i
 |[],_,_,k,y,_,hz=>by simp at hz
 |z::zs,0,h,k,y,hk,hz=>by
  cases k with
  |zero=>exact absurd rfl hk
  |succ k=>exact bN.mp (show zs.all okS=true from h) _ (cU<|by simpa using hz)
 |z::zs,i+1,h,k,y,hk,hz=>by
  have h':(okS z&&aNc zs i)=true:=h;rw[bH] at h';cases k with
  |zero=>
   have:z=y:=by simpa using hz
   subst this;exact h'.1
  |succ k=>exact aKI h'.2 k y (λq=>hk<|by rw[q]) (by simpa using hz)
theorem aGa(i j:Nat){x y:Str}{p q:Pos}(hs:sd[j]? =some (.own l ds))(hN:X.N.Nodup)(hi:X.N[i]? =some x)(hx:Loc X.env.scope x)(hy:PE X (.Name y q) (qY j))(hE:E.nx ((sd.set j .un).set i<|.own l ds))(hsw:Af (.Name y q) (some<|.Name x p) pos.line X.env=pure false:=by rfl)
  (hf:X.fn x=true\/X.env.scope.names.lookup x=some .local:=by first|exact .inl rfl|exact .inr rfl|assumption):PSd1 X sd (.Assign [.Name x p] (.Name y q) pos) E:=.mk λσ F H S=>
 (tS hN hi hx hy hsw hf).to (by
  obtain⟨o,h1,h2,n,xs,g,rl⟩:=S.slots.get hs
  exact⟨.ref l,by rw[h1,h2],_,F,(S.le (kJ sd j)).setO i n g rl (qU S.nd hs),Same.refl _,hE⟩)
theorem aDz(ha:PEd X sd a ra)(hb:PEd X sd b rb)(ka:ra.keeps)(kb:rb.keeps)(hs:(isT ra.toD=true/\isT rb.toD=true)\/(isL ra.toD=true/\isL rb.toD=true))(p1:pl ra.toD=true)(p2:pl rb.toD=true)(hu:X.A.units+dep ra.toD+1<AR):PTd X sd (.Compare a [.Eq] [b] pos) (deq ra.toD rb.toD):=
 jX (aLt X.K _ _ hs p1 p2 hu) ha hb ka (kO _) λσ F H v u Q S q1 q2 k=>⟨q1.rep S ka,q2.rep S kb,k F H S<|Same.refl _⟩
theorem aEE:pV X (.type "int") (λxs H Q=>∃k,xs=[.bl k]/\Q (.int (if k then 1 else 0)) H):=by intro pins s σ H xs us Q I r h;obtain⟨k,rfl,q⟩:=h;obtain⟨u,rfl,ru⟩:=uM r;cases(show u=Value.bool k from ru);exact call_int_bool ⟨.int _,H,I.kept λb o g=>g,⟨_,rfl⟩,q⟩
theorem aDY{p:Pos}{k:Bool}(hg:Gl X "int")(hm:X.mg "int"=none)(ha:PEd X sd e (.val<|.bl k))(hst:AD [e] X.env=(false,eval e X.env)::AD [] X.env:=by rfl):PEd X sd (.Call (.Name "int" p) [e] [] pos) (.val<|.int (if k then 1 else 0)):=
 qS (he:=hst) aEE hg hm PyProof.Rows.boot_int (aD ha aS trivial hst) λσ F H vs Q S q kk=>by
  cases q with
  |cons q1 q2=>cases q2;simp only[ResOk,Rep] at q1;subst q1;exact⟨k,rfl,kk _ F H S (Same.refl _)<|by simp only[ResOk,Rep]⟩
noncomputable def aOg(z:Str):BH->Bool
 |.str y _=>eqV (.str y)<|.str z
 |_=>false
theorem aGn:MtR X "list.index" (λx xs H Q=>∃ (l:BJ) (ss:List Str) (z:Str) (j:Nat),x=.ref l/\xs=[.str z]/\SqL X.K H l (ss.map V.str)/\ss[j]? =some z/\(∀m,m<j->∀y,ss[m]? =some y->y≠z)/\Q (.int (j:Int)) H):=by
 intro pins s σ H x xs v us Q I rx rs h;obtain⟨l,ss,z,j,rfl,rfl,hq,hj,hn,k⟩:=h;cases rx;obtain⟨u,rfl,t,rfl⟩:=uM rs;obtain⟨its,rv,⟨⟨cls,dd,data,sl⟩,n,ho,hc,hd,hs⟩,hz⟩:=I.list hq;have ln:=rv.length;rw[aA] at ln;simp only at hc hd hs;subst hc;obtain⟨jl,je⟩:=aZ.mp hj
 have at_:∀ (m:Nat) (y:Str),ss[m]? =some y->∃t,its[m]? =some (.str y t):=λm y hy=>by obtain⟨u,h1,t,h2⟩:=rv.get (i:=m) (x:=.str y) (by rw[bL,hy];rfl);exact⟨t,by rw[h1,h2]⟩
 have sz:its.toArray.size=ss.length:=by rw[aQ,ln]
 have eqz:∀y:Str,eqV (.str y) (.str z)=true↔y=z:=λy=>by show(y==z)=true↔_;simp
 obtain⟨tj,hjt⟩:=at_ j z hj
 have cells:∀ (m:Nat) (hm:m<its.toArray.size),∃y t,ss[m]? =some y/\its.toArray[m]=.str y t:=λm hm=>by
  have hm':m<ss.length:=by omega
  obtain⟨t,ht⟩:=at_ m ss[m] (by simp[hm']);refine⟨ss[m],t,by simp[hm'], ?_⟩;have:its.toArray[m]? =some (.str ss[m] t):=by simpa using ht
  exact(iV.mp this).2
 have jsmall:(j:Int)<2^63-1:=by rw[aA,AU] at hz;omega
 refine call_meets jQ ⟨_,ho,rfl⟩ zR (zG _ _) (SeqAt.list_indexAt l its.toArray n dd sl (.str z t) (aOg z) j (by omega) jsmall ?_ ?_) ⟨by rw[ho];simp[hd,hs],λy hy=> ?_,⟨.int (j:Int),H,I.kept λb o g=>g,⟨_,rfl⟩,k⟩⟩
 ·obtain⟨y,t2,e1,e2⟩:=cells j (by omega);rw[hj] at e1;cases e1;rw[e2];exact(eqz z).mpr rfl
 ·intro m hm hlt;obtain⟨y,t2,e1,e2⟩:=cells m hm;rw[e2];have:=hn m hlt y e1;show eqV (.str y) (.str z)=false;cases q:eqV (.str y) (.str z) with
  |false=>rfl
  |true=>exact absurd ((eqz y).mp q) this
 ·obtain⟨m,hm,rfl⟩:=Array.mem_iff_getElem.mp hy;obtain⟨y,t2,e1,e2⟩:=cells m hm;rw[e2];exact tW (y:=.str y) (x:=.str z) ⟨_,rfl⟩ ⟨_,rfl⟩ rfl rfl
theorem aGA{ss:List Str}{z:Str}{j:Nat}{apos cpos:Pos}(h:PEd X sd o (.bor<|ss.map D.str))(hz:PEd X sd e (.val<|.str z))(hj:ss[j]? =some z)(hn:∀m,m<j->∀y,ss[m]? =some y->y≠z)
  (hst:AD (e::[]) X.env=(false,eval e X.env)::AD [] X.env:=by rfl) (hm:PE X (.Call (.Attribute o "index" apos) [e] [] cpos) (tBM X.K "list" (λx xs H Q=>∃ (l:BJ) (ss:List Str) (z:Str) (j:Nat),x=.ref l/\xs=[.str z]/\SqL X.K H l (ss.map V.str)/\ss[j]? =some z/\(∀m,m<j->∀y,ss[m]? =some y->y≠z)/\Q (.int (j:Int)) H) (wE X o)<|xI (wE X e) aKl):=by exact aFO jP jQ aAx aGn gI (lZ gI pa_nil)):
  PEd X sd (.Call (.Attribute o "index" apos) [e] [] cpos) (.val<|.int (j:Int)):=.mk λσ F H S=>
 hm.to ((h σ F H S).imp fun v H1 ⟨F1,S1,s1,q1⟩=>by
  obtain⟨l,xs,rfl,hl,rl,q⟩:=q1;have ex:=rl.strs;subst ex;refine⟨.inl ⟨rfl,_,.of hl⟩,(hz σ F1 H1 S1).imp λu H2 ⟨F2,S2,s2,q2⟩=> ?_⟩;simp only[ResOk,Rep] at q2;subst q2;obtain⟨l2,xs2,e2,hl2,rl2,_⟩:=ResOk.keep (r:=.bor<|ss.map D.str) trivial ⟨l,_,rfl,hl,rl,q⟩ S2 s2;cases e2;have ex2:=rl2.strs;subst ex2
  exact⟨l,ss,z,j,rfl,rfl,.of hl2,hj,hn,F2,S2,s1.trans s2,by simp only[ResOk,Rep]⟩)
theorem aMd{ns:List Int}{lo hi:Option Expr}{ol oh:Option Int}{p2:Pos}(ha:PEd X sd a (.val<|.scr ns))(hl:POd X sd lo ol)(hh:POd X sd hi oh):PEd X sd (.Subscript a (.Slice lo hi none p2) pos) (.own<|DL.cutD (ns.map D.int) ol oh):=.mk λσ F H S=>by
 obtain⟨tl,pl,kl⟩:=vK hl;obtain⟨th,ph,kh⟩:=vK hh;refine(aBS aEj gI pl ph).to<|(ha σ F H S).imp λv H1 ⟨F1,S1,s1,q1⟩=>kl σ F1 H1 S1 _ λF2 H2 S2 s2=>kh σ F2 H2 S2 _ λF3 H3 S3 s3=> ?_;have q1:=Rep.mono (s2.trans<|s3.trans S3.sub) q1;simp only[Rep] at q1;obtain⟨l,rfl,hl'⟩:=q1;refine⟨l,_,rfl,hl',λp hp=> ?_⟩;obtain⟨S4,fp,no⟩:=S3.layO (xs:=aHk (ns.map V.int) ol oh) hp
 have rl:RepL X.K F3 (ns.map D.int) (ns.map V.int):=by
  have g:∀l:List Int,RepL X.K F3 (l.map D.int) (l.map V.int):=λl=>by
   induction l with
   |nil=>exact .nil
   |cons k l ih=>exact .cons (by simp only[Rep]) ih
  exact g ns
 exact⟨F3,S4,(s1.trans s2).trans s3,p,_,rfl,fp,cD,rl.cut ol oh,no⟩
noncomputable def oO(x:Int):Nat->Int
 |0=>x
 |k+1=>(oO x k*oO x k+48271*oO x k+(k:Int))%2147483647
noncomputable def rY(x:Int)(m:Nat):List Int:=(bK m).map λ(k:Nat)=>(oO x (k+1)*40692+7*(k:Int))%2147483399
noncomputable def cK(c:Int)(m:Nat):List Int:=if c%2=1 then zI (c / 2) (dM m 2147483647) else(rY (c / 2%2147483647+48271)<|m+1).drop 1
theorem mL(c:Int)(m:Nat):(cK c m).length=m:=by
 unfold cK
 split
 ·rw[xV,qX]
 ·simp[rY]
theorem aCj:∀ (ns:List Int) (x:Int),(∀n∈ns,n=2147483647)->∀z∈zI x ns,0<=z/\z<2147483647
 |[],x,_,z,hz=>by cases hz
 |n::ns,x,h,z,hz=>by
  have en:=h n aK;subst en
  rcases aV.mp hz with rfl|hz
  ·exact⟨bP _<|by decide,bM _<|by decide⟩
  ·exact aCj ns _ (λn hn=>h n<|aO _ hn) z hz
theorem aCy(c:Int)(m:Nat):∀z∈cK c m,0<=z/\z<2147483647:=by
 unfold cK
 split
 ·exact aCj _ _ λn hn=>(List.mem_replicate.mp hn).2
 ·intro z hz;have hz:=iX hz;obtain⟨k,_,rfl⟩:=aH.mp hz;have h1:=bP (oO (c / 2%2147483647+48271) (k+1)*40692+7*(k:Int)) (show(2147483399:Int)≠0 by decide);have h2:=bM (oO (c / 2%2147483647+48271) (k+1)*40692+7*(k:Int)) (show(0:Int)<2147483399 by decide);exact⟨h1,by omega⟩
theorem aEM(c:Int){m:Nat}(h:i<m):0<=(cK c m).getD i 0/\(cK c m).getD i 0<2147483647:=aCy c m _ (getD_mem<|by rw[mL];exact h)
theorem aCq(x:Int)(hx:0<=x/\x<2147600000):∀k,0<=oO x k/\oO x k<2147600000
 |0=>hx
 |k+1=>by have h1:=bP (oO x k*oO x k+48271*oO x k+(k:Int)) (show(2147483647:Int)≠0 by decide);have h2:=bM (oO x k*oO x k+48271*oO x k+(k:Int)) (show(0:Int)<2147483647 by decide);exact⟨h1,by show _%_<_;omega⟩
theorem aFn(x:Int)(m:Nat):rY x (m+1)=rY x m++[(oO x (m+1)*40692+7*(m:Int))%2147483399]:=by unfold rY;rw[aKo,aI];rfl
def aIF:List D->R->Prop:=λds r=>∃ (ns:List Int) (k:Nat),ds=[.scr ns,.int (k:Int)]/\k<=1000/\r=.val (.int<|ns.getD k 0)
def vJ:List D->R->Prop:=λds r=>∃ (c:Int) (m:Nat),ds=[.int c,.int (m:Int)]/\m<=200/\r=.own ((cK c m).map D.int)
noncomputable def sizesB:List (Int×Int):=[(2,2),(1,2),(2,1),(1,3),(3,1),(1,4),(4,1),(1,1),(2,3),(3,2),(1,5),(5,1),(1,6),(6,1)]
noncomputable def vZ(c:Int):Int×Int:=sizesB.getD (c%14).toNat (2,2)
theorem aCA:∀p∈sizesB,p∈bX:=by decide+kernel
theorem aEP(c:Int):vZ c∈bX:=by have h0:=bP c (show(14:Int)≠0 by decide);have h1:=bM c (show(0:Int)<14 by decide);exact aCA _ (getD_mem<|by show _<14;omega)
def aIn:List D->R->Prop:=λds r=>∃c,ds=[.int c]/\r=.val (cH<|vZ c)
def aKx:List D->R->Prop:=λds r=>∃k:Int,ds=[.int k]/\0<=k/\k<=6/\r=.val (.int ((2^k.toNat:Nat):Int))
noncomputable abbrev SQ:=Nat×Int×Int×Int
noncomputable def sqD(q:SQ):D:=mW q.1 q.2.1 q.2.2.1 q.2.2.2
noncomputable def rR(p:Int×Int)(x:Int):SQ:=((x%10).toNat,x / 10%p.2,x / 60%p.2,x / 360%((2^p.1.toNat:Nat):Int))
structure aIw(p:Int×Int)(q:SQ):Prop where
 sz:p∈bX
 k10:q.1<10
 i0:0<=q.2.1/\q.2.1<p.2
 j0:0<=q.2.2.1/\q.2.2.1<p.2
 n0:0<=q.2.2.2/\q.2.2.2<((2^p.1.toNat:Nat):Int)
theorem pw0(n:Nat):(0:Int)<((2^n:Nat):Int):=by have:0<2^n:=Nat.pow_pos (by decide);generalize 2^n=q at this ⊢;omega
theorem aIU{p:Int×Int}(hp:p∈bX)(x:Int):aIw p (rR p x):=by
 obtain⟨h1,h2,h3,h4,h5⟩:=sC p hp;have p20:(0:Int)<p.2:=by omega
 have m0:=pw0 p.1.toNat;have d1:=bM x (show(0:Int)<10 by decide);exact⟨hp,by show(x%10).toNat<10;omega,⟨bP _<|kQ p20,bM _ p20⟩,⟨bP _<|kQ p20,bM _ p20⟩,⟨bP _<|kQ m0,bM _ m0⟩⟩
def aIc:List D->R->Prop:=λds r=>∃x p,p∈bX/\ds=[.int x,cH p]/\r=.val (sqD<|rR p x)
noncomputable abbrev SK:=SQ×Int
noncomputable def skD(s:SK):D:=.tup [sqD s.1,.int s.2]
noncomputable def mI(xs:List Int):Int:=if xs.getD 0 0 / 7%2=0 then 3 else 9
noncomputable def mY(p:Int×Int)(xs:List Int):Nat->List SK
 |0=>[]
 |k+1=>if(mY p xs k).any (λs=>deq (sqD s.1)<|sqD (rR p<|xs.getD (2*k) 0)) then mY p xs k else mY p xs k++[(rR p<|xs.getD (2*k) 0,1+xs.getD (2*k+1) 0%mI xs)]
noncomputable def aKz(p:Int×Int)(c:Int)(m:Nat):List SK:=mY p (cK c<|2*m+1) (1+((cK c<|2*m+1).getD (2*m) 0%(m:Int)).toNat)
structure aDe(p:Int×Int)(L:List SK):Prop where
 pos:0<L.length
 le:L.length<=8
 st:∀s∈L,aIw p s.1/\1<=s.2/\s.2<=9
theorem aEx(xs:List Int):mI xs=3\/mI xs=9:=by
 unfold mI
 split
 ·exact .inl rfl
 ·exact .inr rfl
theorem aBa{p:Int×Int}(hp:p∈bX)(xs:List Int):∀k,(mY p xs k).length<=k/\(0<k->0<(mY p xs k).length)/\∀s∈mY p xs k,aIw p s.1/\1<=s.2/\s.2<=9
 |0=>⟨aG _,λh=>by omega,λs hs=>by cases hs⟩
 |k+1=>by
  obtain⟨a,b,c⟩:=aBa hp xs k;have e:mY p xs (k+1)=if(mY p xs k).any (λs=>deq (sqD s.1)<|sqD (rR p<|xs.getD (2*k) 0)) then mY p xs k else mY p xs k++[(rR p<|xs.getD (2*k) 0,1+xs.getD (2*k+1) 0%mI xs)]:=rfl
  rw[e];clear e
  by_cases h:(mY p xs k).any (λs=>deq (sqD s.1)<|sqD (rR p<|xs.getD (2*k) 0))=true
  ·rw[if_pos h];refine⟨by omega,λ_=> ?_,c⟩;cases e:mY p xs k with
   |nil=>rw[e] at h;simp at h
   |cons _ _=>simp
  ·rw[if_neg h];refine⟨by rw[bR];simp;omega,λ_=>by rw[bR];simp,λs hs=> ?_⟩
   rcases aJ.mp hs with hs|hs
   ·exact c s hs
   ·have e:s=(rR p<|xs.getD (2*k) 0,1+xs.getD (2*k+1) 0%mI xs):=by simpa using hs
    subst e;refine⟨aIU hp _, ?_⟩;have d:=aEx xs
    rcases d with d|d
    ·rw[d];omega
    ·rw[d];omega
theorem aIP{p:Int×Int}(hp:p∈bX)(c:Int){m:Nat}(h0:0<m)(h8:m<=8):aDe p (aKz p c m):=by obtain⟨a,b,d⟩:=aBa hp (cK c<|2*m+1) (1+((cK c<|2*m+1).getD (2*m) 0%(m:Int)).toNat);have h1:=bP ((cK c<|2*m+1).getD (2*m) 0) (show(m:Int)≠0 by omega);have h2:=bM ((cK c<|2*m+1).getD (2*m) 0) (show(0:Int)<m by omega);exact⟨b<|by omega,cP a<|by omega,d⟩
def aEf:List D->R->Prop:=λds r=>∃ (c:Int) (p:Int×Int) (m:Nat),p∈bX/\0<m/\m<=8/\ds=[.int c,cH p,.int (m:Int)]/\r=.own ((aKz p c m).map skD)
structure Fil(p:Int×Int)(ws:List Int):Prop where
 len:ws.length=p.2.toNat
 wd:∀w∈ws,0<=w/\w<((2^p.1.toNat:Nat):Int)
noncomputable def nwQ(p:Int×Int)(q:SQ)(ws:List Int):Int:=aIy q.1 ((2^p.1.toNat:Nat):Int) (ws.getD q.2.1.toNat 0) (ws.getD q.2.2.1.toNat 0) q.2.2.2
noncomputable def onQ(p:Int×Int)(q:SQ)(ws:List Int):List Int:=ws.set q.2.1.toNat<|nwQ p q ws
noncomputable def pK(p:Int×Int)(L:List SK)(row:List Nat)(ws:List Int):List Int:=row.foldl (λf t=>onQ p (L.getD t default).1 f) ws
theorem aJt{p:Int×Int}{q:SQ}{ws:List Int}(O:aIw p q)(G:Fil p ws):0<=nwQ p q ws/\nwQ p q ws<((2^p.1.toNat:Nat):Int):=by obtain⟨h1,h2,h3,h4,h5⟩:=sC p O.sz;exact aGK (by omega) O.k10 (G.wd _ (getD_mem<|by have:=O.i0;rw[G.len];omega)) (G.wd _ (getD_mem<|by have:=O.j0;rw[G.len];omega)) O.n0
theorem aJM{p:Int×Int}{q:SQ}{ws:List Int}(O:aIw p q)(G:Fil p ws):Fil p (onQ p q ws):=by
 refine⟨by unfold onQ;rw[gU];exact G.len,λw hw=> ?_⟩
 rcases nU hw with hw|rfl
 ·exact G.wd w hw
 ·exact aJt O G
theorem xW{p:Int×Int}{L:List SK}(S:aDe p L):∀ (row:List Nat) (ws:List Int),(∀t∈row,t<L.length)->Fil p ws->Fil p (pK p L row ws)
 |[],ws,_,G=>G
 |t::row,ws,h,G=>by have ht:=h t aK;exact xW S row _ (λu hu=>h u<|aO _ hu)<|aJM (S.st _<|getD_mem ht).1 G
theorem aEK(p:Int×Int)(L:List SK)(row:List Nat)(t:Nat)(ws:List Int):pK p L (row++[t]) ws=onQ p (L.getD t default).1 (pK p L row ws):=by unfold pK;rw[uO];rfl
theorem hJ{p:Int×Int}(hp:p∈bX){ws:List Int}(h:ws∈hW (2^p.1.toNat) p.2.toNat):Fil p ws:=by
 have g:∀ (m k:Nat),∀s∈hW m k,s.length=k/\∀x∈s,0<=x/\x<(m:Int):=λm k=>by
  induction k with
  |zero=>
   intro s h;have:s=[]:=by simpa[hW] using h
   subst this;exact⟨rfl,λx hx=>by cases hx⟩
  |succ k ih=>
   intro s h;obtain⟨t,ht,hs⟩:=fR.mp h;obtain⟨w,hw,rfl⟩:=aH.mp hs;obtain⟨a,b⟩:=ih t ht;refine⟨by rw[bR,a];rfl,λx hx=> ?_⟩
   rcases aJ.mp hx with hx|hx
   ·exact b x hx
   ·have e:x=(w:Int):=by simpa using hx
    have:=bB.mp hw;omega
 obtain⟨a,b⟩:=g _ _ ws h;exact⟨a,b⟩
def aCc:List D->R->Prop:=λds r=>∃p q ws,aIw p q/\Fil p ws/\ds=[sqD q,.int p.1,aT ws]/\r=.val (aT<|onQ p q ws)
def aHY:List D->R->Prop:=λds r=>∃p q ws,aIw p q/\Fil p ws/\ds=[sqD q,.int p.1,aT ws]/\r=.val (.int<|nwQ p q ws)
def aIm:List D->R->Prop:=λds r=>∃ (b k:Nat) (a c:Int),b<7/\k<3/\(0<=a/\a<((2^b:Nat):Int))/\(0<=c/\c<((2^b:Nat):Int))/\ds=[.int a,.int c,.int (k:Int),.int (b:Int)]/\r=.val (.int<|xR k 0 a c)
noncomputable def lX(row:List Nat):List D:=row.map λ(t:Nat)=>D.int (t:Int)
noncomputable def jC(ns:List Int)(st m:Nat)(c:Int):List Int:=if c%8=5 then cK (c / 8) m else(ns.drop st).take m
def aHl:List D->R->Prop:=λds r=>∃ (ns:List Int) (st m:Nat) (c:Int),m<=200/\st<=200/\ns.length<=63/\ds=[.scr ns,.int (st:Int),.int (m:Int),.int c]/\r=.own ((jC ns st m c).map D.int)
theorem yH(ns:List Int)(st m:Nat)(c:Int):(jC ns st m c).length<=m:=by
 unfold jC
 split
 ·rw[mL];exact aG _
 ·rw[cW];omega
noncomputable def prcL(L:List SK)(row:List Nat):List Int:=row.map λt=>(L.getD t default).2
noncomputable def sumI(l:List Int):Int:=preSum (λi=>l.getD i 0) l.length
theorem aMj{d1 d2:D}{x y:V}{k:Bool}(ha:PEd X sd a (.val d1))(hb:PEd X sd b (.val d2))(h1:flt d1=some x)(h2:flt d2=some y)(hs:aKw x y=true)(hk:decide (x=y)=k):PEd X sd (.Compare a [.Eq] [b] pos) (.val<|.bl k):=
 uY aFL ha hb trivial (kO _) λσ F H v u Q S q1 q2 kk=>by have e1:=oH h1 q1;have e2:=oH h2 q2;subst e1 e2;exact⟨hs,by rw[hk];exact kk F H S<|Same.refl _⟩
theorem aBX{p:Pos}(hg:Gl X "list")(hm:X.mg "list"=none)(ha:PEd X sd e (.bor ds))(hst:AD [e] X.env=(false,eval e X.env)::AD [] X.env:=by rfl):PEd X sd (.Call (.Name "list" p) [e] [] pos) (.own ds):=
 qS (he:=hst) sT hg hm PyProof.Rows.boot_list (aD ha aS trivial hst) λσ F H vs Q S q k=>by
  cases q with
  |cons q1 q2=>cases q2;obtain⟨p,xs,rfl,hp,rl,_⟩:=q1;refine⟨p,xs,rfl,.inl<|.of hp,λl hl=> ?_⟩;obtain⟨S2,fp,no⟩:=S.layO (xs:=xs) hl;exact k _ F _ S2 (Same.refl _) ⟨l,xs,rfl,fp,cD,rl,no⟩
mutual
theorem aCn:∀d:D,pl d=true->deq d d=true
 |.non,_=>rfl
 |.bl b,_=>by simp[deq]
 |.int i,_=>by simp[deq]
 |.str x,_=>by simp[deq]
 |.tup ds,h=>by simp only[deq];exact tX ds (by simpa only[pl] using h)
 |.lst ds,h=>by simp only[deq];exact tX ds (by simpa only[pl] using h)
 |.dic,h=>by simp[pl] at h
 |.dki _ _,h=>by simp[pl] at h
 |.any _,h=>by simp[pl] at h
 |.scr _,h=>by simp[pl] at h
theorem tX:∀ds:List D,plL ds=true->mV ds ds=true
 |[],_=>rfl
 |d::ds,h=>by simp only[plL,bH] at h;simp only[mV,bH];exact⟨aCn d h.1,tX ds h.2⟩
end
theorem aGu:∀t:Nat,t<7->pows.take (t+1)=pows.take t++[((2^t:Nat):Int)]:=by
 intro t ht
 match t,ht with
 |0,_=>rfl
 |1,_=>rfl
 |2,_=>rfl
 |3,_=>rfl
 |4,_=>rfl
 |5,_=>rfl
 |6,_=>rfl
theorem aGU{b k:Nat}{a c:Int}(hb:b<7)(hk:k<3)(ha:0<=a/\a<((2^b:Nat):Int))(hc:0<=c/\c<((2^b:Nat):Int)):wY k (pows.take b) a c=xR k 0 a c:=by
 have ea:a=((a.toNat:Nat):Int):=by omega
 have ec:c=((c.toNat:Nat):Int):=by omega
 have la:a.toNat<2^b:=by have:=ha.2;generalize 2^b=q at *;omega
 have lc:c.toNat<2^b:=by have:=hc.2;generalize 2^b=q at *;omega
 rw[ea,ec];exact(aFS b hb _ la _ lc k hk).symm
theorem aCK:∀k,k<10->(decide (V.str (nm k)=V.str "add")||decide (V.str (nm k)=V.str "take"))=decide (k=3\/k=4):=by decide+kernel
theorem aDA{row:List Nat}{k:Nat}(h:(lX row)[k]? =some d):k<row.length/\d=.int ((row.getD k 0:Nat):Int):=by
 unfold lX at h;rw[bL] at h;cases e:row[k]? with
 |none=>rw[e] at h;cases h
 |some z=>rw[e] at h;refine⟨(aZ.mp e).1, ?_⟩;rw[<-bT.inj h,bF,e];rfl
theorem aMc{L:List SK}{t:Nat}(h:t<L.length):(L.map skD)[t]? =some (skD<|L.getD t default):=by rw[bL];simp[bF,h]
theorem aGy{row:List Nat}{k:Nat}(h:k<row.length):row.take (k+1)=row.take k++[row.getD k 0]:=by rw[dO];simp[bF,h]
def ItAt(tp:Bool)(h:BL)(it src:BJ)(i:Nat):Prop:=match tp with
 |true=>h.IsTupleIter it src i
 |false=>h.IsListIter it src i
def SqAt(tp:Bool)(h:BL)(src:BJ)(xs:Array BH):Prop:=match tp with
 |true=>h.IsTuple src xs
 |false=>h.IsList src xs
theorem ItAt.ex{tp:Bool}{h:BL}{it src:BJ}(x:ItAt tp h it src i):∃o,h.get? it=some o/\∀v,o.data≠ .cell v:=by
 cases tp with
 |true=>obtain⟨o,e,_,d⟩:=(show h.IsTupleIter it src i from x);exact⟨o,e,λv z=>by rw[d] at z;cases z⟩
 |false=>obtain⟨o,e,_,d⟩:=(show h.IsListIter it src i from x);exact⟨o,e,λv z=>by rw[d] at z;cases z⟩
theorem ItAt.keep{tp:Bool}{h h':BL}{it src:BJ}(x:ItAt tp h it src i)(k:∀o,h.get? it=some o->h'.get? it=some o):ItAt tp h' it src i:=by
 cases tp with
 |true=>exact Heap.IsTupleIter.at (show h.IsTupleIter it src i from x) k
 |false=>exact Heap.IsListIter.at (show h.IsListIter it src i from x) k
theorem SqAt.keep{tp:Bool}{h h':BL}{src:BJ}{xs:Array BH}(x:SqAt tp h src xs)(k:∀o,h.get? src=some o->h'.get? src=some o):SqAt tp h' src xs:=by
 cases tp with
 |true=>exact Heap.IsTuple.at (show h.IsTuple src xs from x) k
 |false=>exact Heap.IsList.at (show h.IsList src xs from x) k
theorem SqAt.lt{tp:Bool}{h:BL}{src:BJ}{xs:Array BH}(x:SqAt tp h src xs):src<h.objs.size:=by
 cases tp with
 |true=>obtain⟨o,e,_⟩:=(show h.IsTuple src xs from x);exact aM e
 |false=>obtain⟨o,e,_⟩:=(show h.IsList src xs from x);exact aM e
variable {prog:AI}{A:BK}{E:BH->BI->Prop}
theorem aGN{it t:BJ}{items:Array BH}{x:BH}{Q:BH->BI->Prop}(hit:s.heap.IsTupleIter it t i)(hl:s.heap.IsTuple t items)(hx:items[i]? =some x)(hQ:∀h',h'.IsTupleIter it t (i+1)->Heap.SameBut it s.heap h'->Q x {s with heap:=h'}):AG (AF prog w) A (Builtin.SmallTypes.nextOf<|.ref it) Q E s:=by unfold Builtin.SmallTypes.nextOf;obtain⟨o,ho,hc,hd⟩:=id hit;obtain⟨ol,hol,_,nl,hdl⟩:=hl;refine AA<|Ai (name:=Str.ofString "__next__") hit.typeIs F.slot_tuple_iterator_next (AY F.slot_tuple_iterator_next hit.typeIs F.entry_tuple_iterator_next ?_<|F.args_tuple_iterator_next_1 _);show AG _ _ (field (.ref it) 0>>=λl=>if(l==Value.none)=true then _ else field (.ref it) 1>>=_) _ _ s;refine AA<|AX ho hd (x:=.ref t) rfl ?_;rw[if_neg<|by exact bS];refine AA<|AX ho hd (x:=.int i 0) rfl (show AG _ _ (seqItems? (.ref t)>>=_) _ _ s from AA (Ac hol hdl ?_));simp only[dG,hx];refine AA (At ho hd (by simp)<|AB ⟨x,rfl,AB (hQ _ ⟨_,cY _ ho (Obj.isFreed_of_fields<|Obj.data_mapFields hd _),(Obj.cls_mapFields ..).trans hc, ?_⟩<|Heap.SameBut.update ..)⟩);rw[Obj.data_mapFields hd];simp[Al]
theorem aJl{it t:BJ}{items:Array BH}{Q:BH->BI->Prop}(hh:A.handled=none)(hit:s.heap.IsTupleIter it t i)(hl:s.heap.IsTuple t items)(hx:items[i]? =none)
  (hE:∀h' e,Heap.ExtBut it s.heap h'->(∃o,h'.get? e=some o/\o.cls=.type "StopIteration")->E (.ref e) {s with heap:=h'}):AG (AF prog w) A (Builtin.SmallTypes.nextOf<|.ref it) Q E s:=by
 unfold Builtin.SmallTypes.nextOf;obtain⟨o,ho,hc,hd⟩:=id hit;obtain⟨ol,hol,_,nl,hdl⟩:=hl;refine AA<|Ai (name:=Str.ofString "__next__") hit.typeIs F.slot_tuple_iterator_next (AY F.slot_tuple_iterator_next hit.typeIs F.entry_tuple_iterator_next ?_<|F.args_tuple_iterator_next_1 _);show AG _ _ (field (.ref it) 0>>=λl=>if(l==Value.none)=true then _ else field (.ref it) 1>>=_) _ _ s;refine AA<|AX ho hd (x:=.ref t) rfl ?_;rw[if_neg<|by exact bS];refine AA<|AX ho hd (x:=.int i 0) rfl (show AG _ _ (seqItems? (.ref t)>>=_) _ _ s from AA (Ac hol hdl ?_));simp only[dG,hx];refine AA<|Az (AA<|At ho hd (by simp) (show AG _ _ (newExc (.type "StopIteration") []>>=_) _ _ _ from AA ?_));simp only[newExc,newTuple];refine AA (Ah (AA (m:=firstArgMember _ _)<|wpAny_of_eq (a:=Value.none) (by first|rfl|(simp only[firstArgMember];rfl)) (Ah ?_<|by size_fits))<|by size_fits);simp only[raiseNew];refine AA<|wpAny_handled ?_;rw[show A.in1.handled=none from hh];exact AA<|AB (wpAny_throw<|hE _ _ (((Heap.SameBut.update ..).extBut.push _).push _) ⟨_,bE _ rfl,rfl⟩)
theorem aAP{tp:Bool}{it t:BJ}{items:Array BH}{x:BH}{Q:BH->BI->Prop}(hit:ItAt tp s.heap it t i)(hl:SqAt tp s.heap t items)(hx:items[i]? =some x)(hQ:∀h',ItAt tp h' it t (i+1)->Heap.SameBut it s.heap h'->Q x {s with heap:=h'}):AG (AF prog w) A (Builtin.SmallTypes.nextOf<|.ref it) Q E s:=by
 cases tp with
 |true=>exact aGN hit hl hx hQ
 |false=>exact wpAny_nextOf_list_item hit hl hx hQ
theorem aHy{tp:Bool}{it t:BJ}{items:Array BH}{Q:BH->BI->Prop}(hh:A.handled=none)(hit:ItAt tp s.heap it t i)(hl:SqAt tp s.heap t items)(hx:items[i]? =none)
  (hE:∀h' e,Heap.ExtBut it s.heap h'->(∃o,h'.get? e=some o/\o.cls=.type "StopIteration")->E (.ref e) {s with heap:=h'}):AG (AF prog w) A (Builtin.SmallTypes.nextOf<|.ref it) Q E s:=by
 cases tp with
 |true=>exact aJl hh hit hl hx hE
 |false=>exact wpAny_nextOf_list_end hh hit hl hx hE
theorem aJO{p1 p2:Bool}{z TI TO i1 i2 l1 l2:BJ}{k1 k2:Nat}{xs ys:Array BH}{x y a b:BH}{Q:BH->BI->Prop}(D:ZipApart z TI TO i1 i2 l1 l2)
  (hz:IsZip s.heap z TI TO .none) (hTI:As s.heap TI (.ref i1) (.ref i2)) (hTO:As s.heap TO a b) (h1:ItAt p1 s.heap i1 l1 k1) (h2:ItAt p2 s.heap i2 l2 k2) (hl1:SqAt p1 s.heap l1 xs) (hl2:SqAt p2 s.heap l2 ys) (hx:xs[k1]? =some x) (hy:ys[k2]? =some y)
  (hQ:∀h',IsZip h' z TI TO (Al s.heap.objs.size)->As h' TO x y->ItAt p1 h' i1 l1 (k1+1)->ItAt p2 h' i2 l2 (k2+1)->As h' s.heap.objs.size x y->h'.objs.size=s.heap.objs.size+1->(∀c o,c≠z->c≠TO->c≠i1->c≠i2->s.heap.get? c=some o->h'.get? c=some o)->Q (.ref s.heap.objs.size) {s with heap:=h'}):
  AG (AF prog w) A (Builtin.«zip.__next__» ⟨[.ref z],[]⟩) (λfin s'=>∃v,fin=.done (.ret v)/\Q v s') E s:=by
 refine(show AG _ _ (field (.ref z) 2>>=λ_=>field (.ref z) 3>>=_) _ _ _ from AA (AX hz rfl (x:=.bool false) rfl (AA<|AX hz rfl (x:=.ref TI) rfl (AA<|Ac hTI rfl ?_))));refine(show AG _ _ (Builtin.SmallTypes.ownedTupleIsFree (.ref z)>>=_) _ _ _ from AA ?_);unfold Builtin.SmallTypes.ownedTupleIsFree;refine AA (AX hz rfl (x:=.none) rfl<|AB ?_);simp only[if_true];refine AA<|Az (AA<|AX hz rfl (x:=.ref TO) rfl (AA<|An hz (by simp) λg1 hz1 s1=> ?_))
 replace hz1:IsZip g1 z TI TO .ellipsis:=hz1
 refine AA ?_;simp only[vP,aKp,jS,nK];have s1':=s1.extBut;refine AA (AA<|wpAny_onRaise (show AG _ _ (Builtin.SmallTypes.nextOf (.ref i1)>>=_) _ _ _ from AA (aAP (h1.keep λo e=>s1' _ _ D.i1z e) (hl1.keep λo e=>s1' _ _ D.l1z e) hx λg2 n1 s2=>AB ?_)));have s2':=s2.extBut;have o2:As g2 TO a b:=s2' _ _ D.TOi1<|s1' _ _ D.TOz hTO;refine AA (Ac o2 rfl<|AA (wpAny_updateSeq_pair o2 λg3 o3 s3=>AA (wpAny_letGo<|AB ?_)))
 replace o3:As g3 TO x b:=o3
 have s3':=s3.extBut;refine AA (AA<|wpAny_onRaise (show AG _ _ (Builtin.SmallTypes.nextOf (.ref i2)>>=_) _ _ _ from AA (aAP (h2.keep λo e=>s3' _ _ D.TOi2.symm (s2' _ _ D.i12.symm<|s1' _ _ D.i2z e)) (hl2.keep λo e=>s3' _ _ D.l2TO (s2' _ _ D.l2i1<|s1' _ _ D.l2z e)) hy λg4 n2 s4=>AB ?_)));have s4':=s4.extBut;have o4:As g4 TO x b:=s4' _ _ D.TOi2 o3;refine AA (Ac o4 rfl<|AA (wpAny_updateSeq_pair o4 λg5 o5 s5=>AA<|wpAny_letGo (AB<|AB ?_)))
 replace o5:As g5 TO x y:=o5
 have s5':=s5.extBut;refine AA<|Ac o5 rfl (AA<|wpAny_newTuple ?_);have sz:g5.objs.size=s.heap.objs.size:=by rw[s5.1,s4.1,s3.1,s2.1,s1.1]
 have z5:IsZip g5 z TI TO .ellipsis:=s5' _ _ D.TOz.symm<|s4' _ _ D.i2z.symm (s3' _ _ D.TOz.symm<|s2' _ _ D.i1z.symm hz1);have k5:∀c o,c≠z->c≠TO->c≠i1->c≠i2->s.heap.get? c=some o->g5.get? c=some o:=λc o c1 c2 c3 c4 e=>s5' _ _ c2 (s4' _ _ c4<|s3' _ _ c2 (s2' _ _ c3<|s1' _ _ c1 e))
 have m1:ItAt p1 g5 i1 l1 (k1+1):=n1.keep λo e=>s5' _ _ D.TOi1.symm (s4' _ _ D.i12<|s3' _ _ D.TOi1.symm e)
 have m2:ItAt p2 g5 i2 l2 (k2+1):=n2.keep λo e=>s5' _ _ D.TOi2.symm e
 have zlt:z<g5.objs.size:=aM z5;refine(show AG _ _ (Builtin.SmallTypes.ownedTupleHandOut (.ref z) (.ref g5.objs.size)>>=_) _ _ _ from AA ?_);unfold Builtin.SmallTypes.ownedTupleHandOut;refine AA<|An (show IsZip (g5.push {cls:=.type "tuple",data:=.seq #[x,y]}) z TI TO .ellipsis from aE _ z5) (by simp) λg7 z7 s7=> ?_
 replace z7:IsZip g7 z TI TO (Al g5.objs.size):=z7
 refine An z7 (by simp) λg8 z8 s8=> ?_
 replace z8:IsZip g8 z TI TO (Al g5.objs.size):=z8
 have up:∀c o,c≠z->g5.get? c=some o->g8.get? c=some o:=λc o c1 e=>s8.extBut _ _ c1 (s7.extBut _ _ c1<|aE _ e)
 have t8:As g8 g5.objs.size x y:=s8.extBut _ _ (gG zlt) (s7.extBut _ _ (gG zlt)<|bE _ rfl);have q8:g8.objs.size=g5.objs.size+1:=by rw[s8.1,s7.1,kF]
 rw[sz] at z8 t8 q8;refine AB ⟨_,rfl,show Q (.ref g5.objs.size) _ from ?_⟩;rw[sz];exact hQ g8 z8 (up _ _ D.TOz o5) (m1.keep λo e=>up _ o D.i1z e) (m2.keep λo e=>up _ o D.i2z e) t8 q8 λc o c1 c2 c3 c4 e=>up c o c1<|k5 c o c1 c2 c3 c4 e
theorem aLz{p1 p2:Bool}{z TI TO i1 i2 l1 l2:BJ}{k1 k2:Nat}{xs ys:Array BH}{a b:BH}{Q:Fin->BI->Prop}(hh:A.handled=none)(D:ZipApart z TI TO i1 i2 l1 l2)
  (hz:IsZip s.heap z TI TO .none) (hTI:As s.heap TI (.ref i1) (.ref i2)) (hTO:As s.heap TO a b) (h1:ItAt p1 s.heap i1 l1 k1) (h2:ItAt p2 s.heap i2 l2 k2) (hl1:SqAt p1 s.heap l1 xs) (hl2:SqAt p2 s.heap l2 ys) (hend:xs[k1]? =none\/ys[k2]? =none)
  (hE:∀h' e,(∀c o,c≠z->c≠TO->c≠i1->c≠i2->s.heap.get? c=some o->h'.get? c=some o)->(∃o,h'.get? e=some o/\o.cls=.type "StopIteration")->E (.ref e) {s with heap:=h'}):
  AG (AF prog w) A (Builtin.«zip.__next__» ⟨[.ref z],[]⟩) Q E s:=by
 refine(show AG _ _ (field (.ref z) 2>>=λ_=>field (.ref z) 3>>=_) _ _ _ from AA (AX hz rfl (x:=.bool false) rfl (AA<|AX hz rfl (x:=.ref TI) rfl (AA<|Ac hTI rfl ?_))));refine(show AG _ _ (Builtin.SmallTypes.ownedTupleIsFree (.ref z)>>=_) _ _ _ from AA ?_);unfold Builtin.SmallTypes.ownedTupleIsFree;refine AA (AX hz rfl (x:=.none) rfl<|AB ?_);simp only[if_true];refine AA<|Az (AA<|AX hz rfl (x:=.ref TO) rfl (AA<|An hz (by simp) λg1 hz1 s1=> ?_))
 replace hz1:IsZip g1 z TI TO .ellipsis:=hz1
 refine AA ?_;simp only[vP,aKp,jS,nK];have s1':=s1.extBut;refine AA (AA<|wpAny_onRaise (show AG _ _ (Builtin.SmallTypes.nextOf (.ref i1)>>=_) _ _ _ from ?_));cases hx:xs[k1]? with
 |none=>
  refine AA<|aHy hh (h1.keep λo e=>s1' _ _ D.i1z e) (hl1.keep λo e=>s1' _ _ D.l1z e) hx λg2 e s2 he=> ?_;obtain⟨oe,hoe,hce⟩:=he;have z2:IsZip g2 z TI TO .ellipsis:=s2 _ _ D.i1z.symm hz1;have ne:e≠z:=λx=>by subst x;rw[z2] at hoe;cases hoe;simp at hce
  exact An z2 (by simp) λg3 _ s3=>hE g3 e (λc o c1 _ c3 _ x=>s3.extBut _ _ c1 (s2 _ _ c3<|s1' _ _ c1 x)) ⟨oe,s3.extBut _ _ ne hoe,hce⟩
 |some x=>
  have hy:ys[k2]? =none:=by
   rcases hend with h|h
   ·rw[hx] at h;cases h
   ·exact h
  refine AA<|aAP (h1.keep λo e=>s1' _ _ D.i1z e) (hl1.keep λo e=>s1' _ _ D.l1z e) hx λg2 n1 s2=>AB ?_;have s2':=s2.extBut;have o2:As g2 TO a b:=s2' _ _ D.TOi1<|s1' _ _ D.TOz hTO;refine AA (Ac o2 rfl<|AA (wpAny_updateSeq_pair o2 λg3 o3 s3=>AA (wpAny_letGo<|AB ?_)));have s3':=s3.extBut;refine AA (AA<|wpAny_onRaise (show AG _ _ (Builtin.SmallTypes.nextOf (.ref i2)>>=_) _ _ _ from AA (aHy hh (h2.keep λo e=>s3' _ _ D.TOi2.symm (s2' _ _ D.i12.symm<|s1' _ _ D.i2z e)) (hl2.keep λo e=>s3' _ _ D.l2TO (s2' _ _ D.l2i1<|s1' _ _ D.l2z e)) hy λg4 e s4 he=> ?_)));obtain⟨oe,hoe,hce⟩:=he;have z4:IsZip g4 z TI TO .ellipsis:=s4 _ _ D.i2z.symm (s3' _ _ D.TOz.symm<|s2' _ _ D.i1z.symm hz1);have ne:e≠z:=λx=>by subst x;rw[z4] at hoe;cases hoe;simp at hce
  exact An z4 (by simp) λg5 _ s5=>hE g5 e (λc o c1 c2 c3 c4 x=>s5.extBut _ _ c1 (s4 _ _ c4<|s3' _ _ c2 (s2' _ _ c3<|s1' _ _ c1 x))) ⟨oe,s5.extBut _ _ ne hoe,hce⟩
theorem aGz{p1 p2:Bool}{z TI TO i1 i2 l1 l2:BJ}{k1 k2:Nat}{xs ys:Array BH}{x y a b:BH}{Q:Option BH->BI->Prop}(D:ZipApart z TI TO i1 i2 l1 l2)
  (hz:IsZip s.heap z TI TO .none) (hTI:As s.heap TI (.ref i1) (.ref i2)) (hTO:As s.heap TO a b) (h1:ItAt p1 s.heap i1 l1 k1) (h2:ItAt p2 s.heap i2 l2 k2) (hl1:SqAt p1 s.heap l1 xs) (hl2:SqAt p2 s.heap l2 ys) (hx:xs[k1]? =some x) (hy:ys[k2]? =some y)
  (hQ:∀h',IsZip h' z TI TO (Al s.heap.objs.size)->As h' TO x y->ItAt p1 h' i1 l1 (k1+1)->ItAt p2 h' i2 l2 (k2+1)->As h' s.heap.objs.size x y->h'.objs.size=s.heap.objs.size+1->(∀c o,c≠z->c≠TO->c≠i1->c≠i2->s.heap.get? c=some o->h'.get? c=some o)->Q (some<|.ref s.heap.objs.size) {s with heap:=h'}):
  AG (AF prog w) A (pyNext<|.ref z) Q E s:=by
 have hT:s.TypeIs (.ref z) "zip":=⟨_,hz,rfl⟩;unfold pyNext;exact AA (wpAny_attempt<|Ai (name:=Str.ofString "__next__") hT F.slot_zip_next (AY F.slot_zip_next hT F.entry_zip_next (aJO D hz hTI hTO h1 h2 hl1 hl2 hx hy λh' a1 a2 a3 a4 a5 a6 a7=>AB<|hQ h' a1 a2 a3 a4 a5 a6 a7)<|F.args_zip_next_1 _))
theorem aJL{p1 p2:Bool}{z TI TO i1 i2 l1 l2:BJ}{k1 k2:Nat}{xs ys:Array BH}{a b:BH}{Q:Option BH->BI->Prop}(hh:A.handled=none)(D:ZipApart z TI TO i1 i2 l1 l2)
  (hz:IsZip s.heap z TI TO .none) (hTI:As s.heap TI (.ref i1) (.ref i2)) (hTO:As s.heap TO a b) (h1:ItAt p1 s.heap i1 l1 k1) (h2:ItAt p2 s.heap i2 l2 k2) (hl1:SqAt p1 s.heap l1 xs) (hl2:SqAt p2 s.heap l2 ys) (hend:xs[k1]? =none\/ys[k2]? =none)
  (hQ:∀h',(∀c o,c≠z->c≠TO->c≠i1->c≠i2->s.heap.get? c=some o->h'.get? c=some o)->Q none {s with heap:=h'}):AG (AF prog w) A (pyNext<|.ref z) Q E s:=by
 have hT:s.TypeIs (.ref z) "zip":=⟨_,hz,rfl⟩;unfold pyNext;refine AA (wpAny_attempt<|Ai (name:=Str.ofString "__next__") hT F.slot_zip_next (AY F.slot_zip_next hT F.entry_zip_next (aLz hh D hz hTI hTO h1 h2 hl1 hl2 hend λh' e hk he=> ?_)<|F.args_zip_next_1 _));obtain⟨o,ho,hc⟩:=he;exact AA<|BD (T:="StopIteration") (b:=true) ⟨o,ho,hc⟩ isSubtype_stop (AB<|hQ _ hk)
theorem aIl{pins:List (BJ×BM)}{h':BL}{t':Nat}{ch:List BJ}(I:Inv X pins σ H s)(k:∀b o,b∉ch->s.heap.get? b=some o->h'.get? b=some o)(f:∀b∈ch,uF X pins H b):Inv X pins σ H {s with heap:=h',toks:=t'}:=by
 have nit:∀b u,H b=some u->b∉ch:=λb u q hb=>by rw[(f b hb).1] at q;cases q
 refine I.step (g':=s.gens) (d':=s.drawn) (ch:=ch) (λb hb=> ?_) (λb o _ _ hc q _=>k b o hc q) (λb o _ _ hc q _=>⟨o.slots,k b o hc q⟩) (λ_ _ _ _ n=>n) (λb o hc q=>⟨o,k b o hc q⟩) (λ_ _ q=>q) (λ_ _ _ q=>q) (λb ps q=>⟨#[],by rw[q];simp⟩) (λm hm=> ?_) (λb u q=> ?_) I.bare
 ·have z:=f b hb;exact⟨z.2.2.2.1,z.2.1,z.2.2.2.2.1,z.2.2.2.2.2⟩
 ·obtain⟨o,es,ep,ho,r⟩:=hm;exact⟨o,es,ep,k _ o (λhb=>(f _ hb).2.1 rfl) ho,r⟩
 ·refine(I.hok b u q).stay (λc v hc g=> ?_) (λ_ g=>g) λ_ _ g=>g
  rcases hc with z|z
  ·rw[z] at g ⊢;exact k b v (nit b u q) g
  ·exact k c v (nit c _ z) g
def SqB(tp:Bool)(K:aB)(H:Hp)(a:BJ)(xs:List V):Prop:=match tp with
 |true=>SqT K H a xs
 |false=>SqL K H a xs
theorem tV{pins:List (BJ×BM)}{tp:Bool}{a:BJ}(I:Inv X pins σ H s)(h:SqB tp X.K H a xs):∃its:List BH,Vals xs its/\SqAt tp s.heap a its.toArray:=by
 cases tp with
 |true=>obtain⟨its,rv,p,_⟩:=I.tuple (show SqT X.K H a xs from h);exact⟨its,rv,p⟩
 |false=>obtain⟨its,rv,p,_⟩:=I.list (show SqL X.K H a xs from h);exact⟨its,rv,p.isList⟩
theorem aEc{pins:List (BJ×BM)}{tp:Bool}{a:BJ}{ys:List V}(I:Inv X pins σ H s)(h:SqB tp X.K H a xs)(g:SqB tp X.K H a ys):xs=ys:=by
 cases tp with
 |true=>exact I.tuple_inj h g
 |false=>exact I.list_inj h g
noncomputable def Itz(p1 p2:Bool)(K:aB)(a b:BJ):It:=
 ⟨λi H=>∃xs ys x y,SqB p1 K H a xs/\SqB p2 K H b ys/\xs[i]? =some x/\ys[i]? =some y,λi H v H'=>∃p x y,v=.ref p/\H p=none/\H'=upd H p (.tup [x,y])/\(∀xs,SqB p1 K H a xs->xs[i]? =some x)/\∀ys,SqB p2 K H b ys->ys[i]? =some y,λi H=>∃xs ys,SqB p1 K H a xs/\SqB p2 K H b ys/\(xs.length<=i\/ys.length<=i)⟩
theorem aGD{elts:List Expr}{kk:Nat}{p1 p2:Bool}(a b z TI TO i1 i2:BJ)(D:ZipApart z TI TO i1 i2 a b):aHh P w K (.Tuple elts kk pos) (Itz p1 p2 K a b) [z,TO,i1,i2,TI] z (λi h=>IsZip h z TI TO .none/\As h TI (.ref i1) (.ref i2)/\(∃c d,As h TO c d)/\ItAt p1 h i1 a i/\ItAt p2 h i2 b i) where
 mem:=by simp
 obj:=λi h st c hc=>by
  obtain⟨hz,hTI,⟨x,y,hTO⟩,h1,h2⟩:=st;simp only[aV,gH,or_false] at hc
  rcases hc with rfl|rfl|rfl|rfl|rfl
  ·exact⟨_,hz,λv q=>by cases q⟩
  ·exact⟨_,hTO,λv q=>by cases q⟩
  ·exact h1.ex
  ·exact h2.ex
  ·exact⟨_,hTI,λv q=>by cases q⟩
 keep:=λi h h' st k=>by obtain⟨hz,hTI,⟨x,y,hTO⟩,h1,h2⟩:=st;exact⟨k z (by simp) _ hz,k TI (by simp) _ hTI,⟨x,y,k TO (by simp) _ hTO⟩,h1.keep λo q=>k i1 (by simp) o q,h2.keep λo q=>k i2 (by simp) o q⟩
 item:=by
  intro X hP hw hK hc i pins s σ H E I hf st hg;subst hP hw hK;obtain⟨hz,hTI,⟨c,d,hTO⟩,h1,h2⟩:=st;obtain⟨xs,ys,x,y,qx,qy,ex,ey⟩:=hg;obtain⟨its,rv,sx⟩:=tV I qx;obtain⟨jts,rw',sy⟩:=tV I qy;obtain⟨u,hu,ru⟩:=rv.get ex;obtain⟨v,hv,rv'⟩:=rw'.get ey;refine aGz D hz hTI hTO h1 h2 sx sy (x:=u) (y:=v) (by simpa using hu) (by simpa using hv) λg1 z1 o1 n1 n2 t1 sz1 k1=> ?_
  refine⟨_,rfl,wpAny_letOwnedTupleGo_zip z1 λg2 z2 s2=> ?_⟩;have s2':=s2.extBut
  have lt:∀b∈[z,TO,i1,i2,TI],b<s.heap.objs.size:=λb hb=>by
   simp only[aV,gH,or_false] at hb
   rcases hb with rfl|rfl|rfl|rfl|rfl
   ·exact aM hz
   ·exact aM hTO
   ·obtain⟨_,q,_⟩:=h1.ex;exact aM q
   ·obtain⟨_,q,_⟩:=h2.ex;exact aM q
   ·exact aM hTI
  have I1:Inv X pins σ H {s with heap:=g2}:=aIl (t':=s.toks) (ch:=[z,TO,i1,i2]) I (fun b o hb q=>by
   simp only[aV,gH,or_false,not_or] at hb
   exact s2' _ _ hb.1 (k1 b o hb.1 hb.2.1 hb.2.2.1 hb.2.2.2 q)) λb hb=>hf b (by simp only[aV,gH,or_false] at hb ⊢;rcases hb with q|q|q|q<;>simp[q])
  have hn:H s.heap.objs.size=none:=I.hok.fresh<|aG _;have t2:g2.get? s.heap.objs.size=some {cls:=.type "tuple",data:=.seq #[u,v]}:=s2' _ _ (gG (lt z<|by simp)) t1
  have I2:Inv X pins σ (upd H s.heap.objs.size<|.tup [x,y]) {s with heap:=g2}:=by
   refine I1.track hn I.sz (gG I.lt) (λy c q=> ?_) (λy hy=> ?_) ⟨by show 2<=AN;decide,[u,v],.cons ru<|.cons rv' .nil,⟨_,t2,rfl,⟨_,rfl⟩,rfl⟩⟩
   ·obtain⟨v,o,ho,_⟩:=I.cell y c q;exact bQ<|aM ho
   ·exact bQ<|aM (I.pin y hy).1
  refine⟨.ref s.heap.objs.size,_,I2,rfl,⟨_,x,y,rfl,hn,rfl,λzs hz=>by rw[aEc I hz qx];exact ex,λzs hz=>by rw[aEc I hz qy];exact ey⟩,⟨z2,s2' _ _ D.TIz<|k1 _ _ D.TIz D.TITO D.TIi1 D.TIi2 hTI,⟨_,_,s2' _ _ D.TOz o1⟩,n1.keep λo q=>s2' _ _ D.i1z q,n2.keep λo q=>s2' _ _ D.i2z q⟩,λb hb=> ?_⟩;rw[bU (bQ<|lt b hb)];exact(hf b hb).1
 done:=by
  intro X hP hw hK hc i pins s σ H E I hf st hg;subst hP hw hK;obtain⟨hz,hTI,⟨c,d,hTO⟩,h1,h2⟩:=st;obtain⟨xs,ys,qx,qy,hl⟩:=hg;obtain⟨its,rv,sx⟩:=tV I qx;obtain⟨jts,rw',sy⟩:=tV I qy;have l1:=rv.length;have l2:=rw'.length
  refine aJL (I.ok.hd hc) D hz hTI hTO h1 h2 sx sy (by
   rcases hl with q|q
   ·left;simp;omega
   ·right;simp
    omega) λh' k=>⟨rfl, ?_⟩
  exact aIl (t':=s.toks) (ch:=[z,TO,i1,i2]) I (fun b o hb q=>by
   simp only[aV,gH,or_false,not_or] at hb
   exact k b o hb.1 hb.2.1 hb.2.2.1 hb.2.2.2 q) λb hb=>hf b (by simp only[aV,gH,or_false] at hb ⊢;rcases hb with q|q|q|q<;>simp[q])
 self:=λ_ _ _ _ _ st h=>by obtain⟨hz,_⟩:=st;exact wpAny_pyIter_zip hz h
noncomputable def itO(tp:Bool)(l:BJ):BM:=match tp with
 |true=>{cls:=.type "tuple_iterator",data:=.fields #[.ref l,.int 0 0]}
 |false=>{cls:=.type "list_iterator",data:=.fields #[.ref l,.int 0 0]}
theorem aIb{tp:Bool}{h:BL}{it:BJ}(e:h.get? it=some (itO tp l)):ItAt tp h it l 0:=by
 cases tp with
 |true=>exact⟨_,e,rfl,rfl⟩
 |false=>exact⟨_,e,rfl,rfl⟩
theorem aHD(tp:Bool)(l:BJ):(itO tp l).isFreed=false:=by cases tp<;>rfl
theorem pyI{tp:Bool}{xs:Array BH}{Q:BH->BI->Prop}(h:SqAt tp s.heap l xs)(hQ:Q (.ref s.heap.objs.size) {s with heap:=s.heap.push (itO tp l)}):AG (AF prog w) A (pyIter<|.ref l) Q E s:=by
 cases tp with
 |true=>exact wpAny_pyIter_tuple h hQ
 |false=>exact wpAny_pyIter_list h hQ
noncomputable abbrev zA(p:Bool)(h:BL)(l:BJ):BL:=h.push<|itO p l
noncomputable abbrev zB(p q:Bool)(h:BL)(l m:BJ):BL:=(zA p h l).push<|itO q m
noncomputable abbrev zC(p q:Bool)(h:BL)(l m:BJ):BL:=(zB p q h l m).push {cls:=.type "tuple",data:=.seq #[.ref h.objs.size,.ref (zA p h l).objs.size]}
noncomputable abbrev zD(p q:Bool)(h:BL)(l m:BJ):BL:=(zC p q h l m).push {cls:=.type "tuple",data:=.seq #[.none,.none]}
noncomputable abbrev zE(p q:Bool)(h:BL)(l m:BJ):BL:=(zD p q h l m).push {cls:=.type "zip",data:=.fields #[.none,.bool false,.bool false,.ref (zB p q h l m).objs.size,.ref (zC p q h l m).objs.size]}
theorem aLP(p q:Bool)(l m:BJ)(xs ys:Array BH):Meets (Builtin.«zip.__new__» ⟨[.type "zip",.ref l,.ref m],[]⟩) (λ_ R s=>SqAt p s.heap l xs/\SqAt q s.heap m ys/\R (.ok (.ret<|.ref (zD p q s.heap l m).objs.size)) {s with heap:=zE p q s.heap l m}):=
 .of_wp λprog w A R s h=>by
  obtain⟨hp,g,d,tk,os⟩:=s;obtain⟨a1,a2,h⟩:=h;have hsub:=sub_zip;have b1:SqAt p (Shared.heap ⟨hp,g,d,tk,os⟩) l xs:=a1;have b2:SqAt q (Shared.heap ⟨hp.push<|itO p l,g,d,tk,os⟩) m ys:=SqAt.keep a2 λo e=>aE _ e
  wp_walk using pyI b1,pyI b2
  exact⟨_,rfl,h⟩
theorem aJF{p q:Bool}{m:BJ}{xs ys:Array BH}{Q:BH->BI->Prop}(a1:SqAt p s.heap l xs)(a2:SqAt q s.heap m ys)
  (h:∀h',IsZip h' (s.heap.objs.size+4) (s.heap.objs.size+2) (s.heap.objs.size+3) .none->As h' (s.heap.objs.size+2) (.ref s.heap.objs.size) (.ref<|s.heap.objs.size+1)->As h' (s.heap.objs.size+3) .none .none->ItAt p h' s.heap.objs.size l 0->ItAt q h' (s.heap.objs.size+1) m 0->(∀c o,s.heap.get? c=some o->h'.get? c=some o)->Q (.ref<|s.heap.objs.size+4) {s with heap:=h'}):
  AG (AF prog w) A (call (.type "zip") [.ref l,.ref m]) Q E s:=by
 refine callType_new F.called_zip (by decide) (F.typeCall_zip_2 _ _) (F.newCall_zip_2 _ _) (λobj=>F.args_object_init_3 obj _ _) F.entry_zip_new (aLP p q l m xs ys) ⟨a1,a2, ?_⟩;have z1:(zA p s.heap l).objs.size=s.heap.objs.size+1:=kF ..;have z2:(zB p q s.heap l m).objs.size=s.heap.objs.size+2:=by rw[kF,z1]
 have z3:(zC p q s.heap l m).objs.size=s.heap.objs.size+3:=by rw[kF,z2]
 have z4:(zD p q s.heap l m).objs.size=s.heap.objs.size+4:=by rw[kF,z3]
 have g5:(zE p q s.heap l m).get? (zD p q s.heap l m).objs.size=some _:=bE _ rfl;have g4:(zE p q s.heap l m).get? (zC p q s.heap l m).objs.size=some _:=aE _<|bE _ rfl;have g3:(zE p q s.heap l m).get? (zB p q s.heap l m).objs.size=some _:=aE _ (aE _<|bE _ rfl);have g2:(zE p q s.heap l m).get? (zA p s.heap l).objs.size=some (itO q m):=aE _ (aE _<|aE _ (bE _<|aHD q m));have g1:(zE p q s.heap l m).get? s.heap.objs.size=some (itO p l):=aE _<|aE _ (aE _<|aE _ (bE _<|aHD p l));show _/\_;rw[z2,z3,z4] at g5;rw[z1,z2] at g3;rw[z3] at g4;rw[z1] at g2;rw[z4];exact⟨⟨_,g5,rfl⟩,h _ g5 g3 g4 (aIb g1) (aIb g2) λc o x=>aE _ (aE _<|aE _ (aE _<|aE _ x))⟩
variable {E:jM}
theorem aLW{elts:List Expr}{kk:Nat}{tp:Pos}{ta:TA}{p:Pos}{p1 p2:Bool}(hg:Gl X "zip")(hm:X.mg "zip"=none)(ha:PA X [a,b] ta)(hs:AD [a,b] X.env=[(false,eval a X.env),(false,eval b X.env)]:=by rfl)(hs2:AD [b] X.env=[(false,eval b X.env)]:=by rfl):
  PI X (.Tuple elts kk tp) (.Call (.Name "zip" p) [a,b] [] pos) (λσ H R=>ta σ H λvs H1=>∃l m,vs=[.ref l,.ref m]/\(∃xs,SqB p1 X.K H1 l xs)/\(∃ys,SqB p2 X.K H1 m ys)/\R (Itz p1 p2 X.K l m) H1):=by
 intro pins s σ H R I h;refine Call_<|qG I hg hm PyProof.Rows.boot_zip (PyProof.Rows.callWith_type1 (thn (ha pos pins s σ H _ I h) λus s1 ⟨vs,H1,I1,r1,q1⟩=> ?_) (by rw[hs,hs2])<|by rw[hs2];rfl);obtain⟨l,m,rfl,⟨xs,qx⟩,⟨ys,qy⟩,k⟩:=q1;cases r1 with
 |cons r rr=>
  cases rr with
  |cons r2 rr2=>
   cases rr2;cases r;cases r2;obtain⟨its,rv,sx⟩:=tV I1 qx;obtain⟨jts,rw',sy⟩:=tV I1 qy;refine aJF sx sy λh' a1 a2 a3 a4 a5 kp=>wpAny_pyIter_zip a1 ?_
   have I2:Inv X pins σ H1 {s1 with heap:=h'}:=I1.kept (t':=s1.toks) kp;have lx:=sx.lt;have ly:=sy.lt
   have ap:ZipApart (s1.heap.objs.size+4) (s1.heap.objs.size+2) (s1.heap.objs.size+3) s1.heap.objs.size (s1.heap.objs.size+1) l m:=by
    refine⟨?_, ?_, ?_, ?_, ?_, ?_, ?_, ?_, ?_, ?_, ?_, ?_, ?_, ?_, ?_, ?_, ?_, ?_⟩
    all_goals first|(exact bQ<|by omega)|(exact gG<|by omega)|(exact bQ lx)|(exact bQ ly)|(exact bQ (aW lx<|yR _ _))|(exact bQ (aW ly<|yR _ _))
   refine⟨s1.heap.objs.size+4,_,_,Itz p1 p2 X.K l m,H1,rfl,I2,aGD l m _ _ _ _ _ ap,⟨a1,a2,⟨_,_,a3⟩,a4,a5⟩,λb hb=> ?_,k⟩
   have hb2:s1.heap.objs.size<=b:=by
    simp only[aV,gH,or_false] at hb
    rcases hb with rfl|rfl|rfl|rfl|rfl<;>omega
   exact I1.fpOk hb2<|I1.hok.fresh hb2
noncomputable def mS(ds es:List D):List D:=(bK<|min ds.length es.length).map λ(i:Nat)=>D.tup [ds.getD i .non,es.getD i .non]
theorem mH(ds es:List D):(mS ds es).length=min ds.length es.length:=by simp[mS]
theorem nY{es:List D}(h:(mS ds es)[i]? =some d):∃x y,ds[i]? =some x/\es[i]? =some y/\d=.tup [x,y]:=by
 unfold mS at h;rw[bL] at h
 by_cases hi:i<min ds.length es.length
 ·rw[rV hi] at h;have h1:i<ds.length:=by omega
  have h2:i<es.length:=by omega
  refine⟨ds[i],es[i],by simp[h1],by simp[h2], ?_⟩;rw[<-bT.inj h];simp[bF,h1,h2]
 ·rw[cO<|by simpa using hi] at h;cases h
noncomputable def aKA(tp:Bool)(ds:List D):D:=match tp with
 |true=>.tup ds
 |false=>.lst ds
theorem aDK{tp:Bool}(h:Rep K F (aKA tp ds) v):∃a xs,v=.ref a/\RepL K F ds xs/\∀ {F' H:Hp},Same F F'->Same F' H->SqB tp K H a xs:=by
 cases tp with
 |true=>simp only[aKA,Rep] at h;obtain⟨a,xs,e,ha,rl⟩:=h;exact⟨a,xs,e,rl,λs1 s2=>.of (s2 _ _<|s1 _ _ ha)⟩
 |false=>simp only[aKA,Rep] at h;obtain⟨a,xs,e,ha,rl⟩:=h;exact⟨a,xs,e,rl,λs1 s2=>.of (s2 _ _<|s1 _ _ ha)⟩
theorem tD{elts:List Expr}{kk:Nat}{tp p:Pos}{es2:List D}(p1 p2:Bool)(hg:Gl X "zip")(hm:X.mg "zip"=none)(ha:PEd X sd a (.val<|aKA p1 ds))(hb:PEd X sd b (.val<|aKA p2 es2))(hst:AD [a,b] X.env=[(false,eval a X.env),(false,eval b X.env)]:=by rfl)(hst2:AD [b] X.env=[(false,eval b X.env)]:=by rfl):
  PId X sd PT0 (.Tuple elts kk tp) (.Call (.Name "zip" p) [a,b] [] pos) (mS ds es2):=.mk λσ F H S=>
 (aLW (p1:=p1) (p2:=p2) hg hm aFE hst hst2).to ((aD ha (aD hb aS trivial (by rw [hst2]; rfl)) trivial (by rw [hst,hst2]) σ F H S).imp fun vs H1 ⟨F1,S1,s1,q1⟩=>by
  cases q1 with
  |cons q1 q2=>
   cases q2 with
   |cons q2 q3=>
    cases q3;obtain⟨l,xs,rfl,rx,sx⟩:=aDK (show Rep _ _ _ _ from q1);obtain⟨m,ys,rfl,ry,sy⟩:=aDK (show Rep _ _ _ _ from q2);refine⟨l,m,rfl,⟨xs,sx (Same.refl _) S1.sub⟩,⟨ys,sy (Same.refl _) S1.sub⟩,F1,S1,s1,λF' H' sF sH sm _ i=>⟨λhi=> ?_,λhi=> ?_,λx H2 d hd y=> ?_⟩⟩
    ·rw[mH] at hi;exact⟨xs,ys,xs[i]'(by rw[rx.len];omega),ys[i]'(by rw[ry.len];omega),sx sF sH,sy sF sH,by simp,by simp⟩
    ·rw[mH] at hi;refine⟨xs,ys,sx sF sH,sy sF sH, ?_⟩;rw[rx.len,ry.len];omega
    ·obtain⟨q,u,v,rfl,hq,rfl,hu,hv⟩:=y;obtain⟨du,dv,e1,e2,rfl⟩:=nY hd;have hu:=hu xs<|sx sF sH;have hv:=hv ys<|sy sF sH;obtain⟨u',h1,ru⟩:=rx.get e1;obtain⟨v',h2,rv⟩:=ry.get e2;rw[hu] at h1;rw[hv] at h2;cases h1;cases h2;have fq:F' q=none:=sH.free hq;have s2:Same F' (upd F' q<|.tup [u,v]):=λb o g=>by rw[bU<|cA g fq];exact g
     refine⟨upd F' q<|.tup [u,v],s2, ?_,λH₀ σ sd S=>(S.lay (o:=.tup [u,v]) hq trivial).1⟩;simp only[Rep]
     exact⟨q,_,rfl,cD,.cons ((ru.mono sF).mono s2) (.one ((rv.mono sF).mono s2))⟩)
theorem qE(L:List (List Int))(m:Nat):(L.flatMap λs=>(bK m).map λ(w:Nat)=>s++[(w:Int)]).length=L.length*m:=by
 induction L with
 |nil=>simp
 |cons s L ih=>rw[List.flatMap_cons,bR,ih,aA,dP,cM,aFv,Nat.add_comm]
theorem vN:∀ (m k:Nat),(hW m k).length=m^k
 |_,0=>rfl
 |m,k+1=>by show((hW m k).flatMap _).length=_;rw[qE,vN m k,uS]
theorem xZ:∀ (m k:Nat),∀s∈hW m k,s.length=k
 |_,0,s,h=>by
  have:s=[]:=by simpa[hW] using h
  subst this;rfl
 |m,k+1,s,h=>by obtain⟨t,ht,hs⟩:=fR.mp h;obtain⟨w,_,rfl⟩:=aH.mp hs;rw[bR,xZ m k t ht];rfl
theorem aAj:∀p∈bX,∀k,k<p.2.toNat->((2^p.1.toNat)^k)*2^p.1.toNat<=900:=by decide+kernel
noncomputable def aKi(p:Int×Int)(L:List SK)(row:List Nat):List (List Int):=(hW (2^p.1.toNat) p.2.toNat).map λws=>pK p L row ws
theorem aGh(p:Int×Int)(L:List SK)(row:List Nat):(aKi p L row).length=(hW (2^p.1.toNat) p.2.toNat).length:=aA _
theorem iR{p:Int×Int}(hp:p∈bX):(hW (2^p.1.toNat) p.2.toNat).length<=64:=by
 have:∀p∈bX,(2^p.1.toNat)^p.2.toNat<=64:=by decide+kernel
 rw[vN];exact this p hp
theorem wZ{L:List (List Int)}(h:d∈L.map aT):∃ws∈L,d=aT ws:=by obtain⟨ws,hw,rfl⟩:=aH.mp h;exact⟨ws,hw,rfl⟩
theorem aGg{p:Int×Int}(hp:p∈bX){L:List SK}(S:aDe p L){row:List Nat}(h:∀t∈row,t<L.length):∀ws∈aKi p L row,Fil p ws:=λws hw=>by obtain⟨v,hv,rfl⟩:=aH.mp hw;exact xW S row v h<|hJ hp hv
noncomputable def kK:D->List Int
 |.tup ds=>ds.map λd=>match d with | .int i=>i|_=>0
 |_=>[]
theorem jL(ws:List Int):kK (aT ws)=ws:=by
 show(ws.map D.int).map _=ws;rw[aX]
 induction ws with
 |nil=>rfl
 |cons w ws ih=>rw[aR,ih];rfl
noncomputable def isN:D->Bool
 |.non=>true
 |_=>false
theorem aAS(h:Rep K H d v):decide (v=.non)=isN d:=by
 cases d with
 |non=>simp only[Rep] at h;subst h;rfl
 |bl=>simp only[Rep] at h;subst h;rfl
 |int=>simp only[Rep] at h;subst h;rfl
 |str=>simp only[Rep] at h;subst h;rfl
 |tup=>simp only[Rep] at h;obtain⟨a,xs,rfl,_⟩:=h;rfl
 |lst=>simp only[Rep] at h;obtain⟨a,xs,rfl,_⟩:=h;rfl
 |dic=>simp only[Rep] at h;obtain⟨a,rfl,_⟩:=h;rfl
 |dki=>simp only[Rep] at h;obtain⟨a,xs,rfl,_⟩:=h;rfl
 |any=>simp only[Rep] at h;obtain⟨⟨a,rfl⟩,_⟩:=h;rfl
 |scr=>simp only[Rep] at h;obtain⟨a,rfl,_⟩:=h;rfl
theorem fO(ha:PEd X sd a (.val d))(hb:PEd X sd b (.val .non)):PTd X sd (.Compare a [.Is] [b] pos) (isN d):=
 jX aHL ha hb trivial (kO _) λσ F H v u Q S q1 q2 k=>by simp only[ResOk,Rep] at q2;have q1:Rep _ _ _ _:=q1;exact⟨q2,by rw[aAS q1];exact k F H S<|Same.refl _⟩
theorem nW(ha:PEd X sd a (.val d))(hb:PEd X sd b (.val .non)):PTd X sd (.Compare a [.IsNot] [b] pos) (!isN d):=
 jX aIV ha hb trivial (kO _) λσ F H v u Q S q1 q2 k=>by simp only[ResOk,Rep] at q2;have q1:Rep _ _ _ _:=q1;exact⟨q2,by rw[aAS q1];exact k F H S<|Same.refl _⟩
theorem aBE(ha:PEd X sd a (.val d))(hb:PEd X sd b (.val .non)):PEd X sd (.Compare a [.Is] [b] pos) (.val (.bl<|isN d)):=
 uY aHL ha hb trivial (kO _) λσ F H v u Q S q1 q2 k=>by simp only[ResOk,Rep] at q2;have q1:Rep _ _ _ _:=q1;exact⟨q2,by rw[aAS q1];exact k F H S<|Same.refl _⟩
structure FunD(K:aB)(x qual:Str)(st:BN)(f:BJ)(fd:AV):Prop where
 ex:∃ (oc:BH) (od:Option BJ) (T:BJ) (kV doc pm:BH) (an:Option BJ) (cdv ct:BH) (osl:Array (Option BH)) (tc:BH) (td:Option BJ) (n:Nat) (tsl:Array (Option BH)),
  fd=eQ x qual (iS st) (fV st) (bJ st) (.ref T) kV doc pm an cdv ct/\K.lookup f=some ⟨oc,od,.func fd,osl⟩/\iP K cdv qual=true/\K.lookup T=some ⟨tc,td,.seq #[.none] n,tsl⟩
 kp:eJ K (.ref f)=true
structure aOl(P:AI)(w:AL)(K:aB)(mg:Str->Option BH)(base:BL)(x:Str)(k n:Nat)(C:List D->R->Prop):Prop where
 ex:∃ (f:BJ) (fd:AV) (ps:List Str),mg x=some (.ref f)/\eJ K (.ref f)=true/\Binds K fd ps []/\Binds K fd ps [.none]/\FnOk P w K mg base CX0 k f fd ps (spC K n C)
noncomputable def bC(p:Int×Int):List (List Int):=hW (2^p.1.toNat) p.2.toNat
noncomputable def aMJ:Option (List Int)->D
 |none=>.non
 |some ws=>aT ws
structure nV(p:Int×Int)(T:List (List Int)):Prop where
 len:T.length=(bC p).length
 fil:∀ws∈T,Fil p ws
theorem aGL{V:List Int}{k:Nat}(h:k<V.length):(V.map D.int)[k]? =some (.int<|V.getD k 0):=by simp[bF,h]
theorem oK{V:List (List Int)}{k:Nat}(h:k<V.length):(V.map aT)[k]? =some (aT<|V.getD k []):=by simp[bF,h]
theorem aEW(d:D)(ds:List D)(p1:pl d=true)(p2:plL ds=true)(hu:X.A.units+1+pH ds<AR):OpR X (Aa .NotIn) (λx y H Q=>Rep X.K H (.lst ds) y/\Rep X.K H d x/\Q (.bl<|!ds.any λz=>deq z d) H):=by
 intro pins s σ H x y v u Q I rx ry h;obtain⟨hl,hd,k⟩:=h;obtain⟨a,xs,its,rfl,rfl,rl,rv,ht⟩:=lO I.hok hl ry
 have hat:∀ (j:Nat) (w:BH),its[j]? =some w->∃z v,ds[j]? =some z/\xs[j]? =some v/\Rep X.K H z v/\RelV v w:=λj w hw=>by
  have hj:j<its.length:=(aZ.mp hw).1;have hx:j<xs.length:=by rw[Vals.length rv];exact hj
  have hd:j<ds.length:=by rw[<-rl.len];exact hx
  obtain⟨v,hv,rz⟩:=rl.get (i:=j) (d:=ds[j]) (by simp[hd])
  exact ⟨ds[j],v,by simp [hd],hv,rz,by
   have:=rv.get hv;obtain⟨w',hw',r⟩:=this;rw[hw] at hw';cases hw'
   exact r⟩
 have dc:=λw:BH=>Classical.propDecidable (∃ (j:Nat) (z:D),its[j]? =some w/\ds[j]? =some z/\deq z d=true)
 refine SeqAt.notIn_listAt (λw=> @decide _<|dc w) ht (λw hw=> ?_) ⟨.bl _,H,I,rfl, ?_⟩
 ·by_cases q:∃ (j:Nat) (z:D),its[j]? =some w/\ds[j]? =some z/\deq z d=true
  ·obtain⟨j,z,e1,e2,e3⟩:=q;obtain⟨z',v,f1,f2,f3,f4⟩:=hat j w e1;rw[e2] at f1;cases f1;have: @decide _ (dc w)=true:=by rw[decide_eq_true_eq];exact⟨j,z,e1,e2,e3⟩
   rw[this,<-e3];exact aBt I.hok z (aAQ p2 e2) p1 f3 hd f4 rx (by have:=vR e2;show X.A.units+1+dep z<AR;omega)
  ·have hw':w∈its:=by simpa using hw
   obtain⟨j,hj,rfl⟩:=eW hw';obtain⟨z,v,f1,f2,f3,f4⟩:=hat j its[j] (by simp[hj])
   have e3:deq z d=false:=by
    cases h:deq z d with
    |false=>rfl
    |true=>exact(q ⟨j,z,by simp[hj],f1,h⟩).elim
   have: @decide _ (dc its[j])=false:=by rw[decide_eq_false_iff_not];exact q
   rw[this,<-e3];exact aBt I.hok z (aAQ p2 f1) p1 f3 hd f4 rx (by have:=vR f1;show X.A.units+1+dep z<AR;omega)
 ·have e:its.toArray.any (λw=> @decide _<|dc w)=ds.any λz=>deq z d:=by
   rw[eP,List.any_toArray,pD,pD]
   constructor
   ·rintro⟨w,hw,q⟩;rw[decide_eq_true_eq] at q;obtain⟨j,z,e1,e2,e3⟩:=q;exact⟨z,cU e2,e3⟩
   ·rintro⟨z,hz,e3⟩;obtain⟨j,hj,rfl⟩:=eW hz;have hi:j<its.length:=by rw[<-Vals.length rv,rl.len];exact hj
    exact⟨its[j],eU hi,by rw[decide_eq_true_eq];exact⟨j,ds[j],by simp[hi],by simp[hj],e3⟩⟩
  rw[e];exact k
theorem aGP(ha:PEd X sd a (.val d))(hb:PEd X sd b (.val<|.lst ds))(p1:pl d=true)(p2:plL ds=true)(hu:X.A.units+1+pH ds<AR)(hk:Ae .NotIn b=false:=by with_unfolding_all rfl):PTd X sd (.Compare a [.NotIn] [b] pos) (!ds.any λz=>deq z d):=
 jX (aEW d ds p1 p2 hu) ha hb trivial hk λσ F H x u Q S q1 q2 k=>⟨Rep.mono S.sub q2,Rep.mono S.sub q1,k F H S<|Same.refl _⟩
noncomputable def byT(w:AL):Bool:=w.params.followText "set-order"
noncomputable def aOJ(led:Bool)(m mv:Nat)(ks:List Nat):BQ:={mask:=m,place:=ks.toArray,dummies:= #[],finger:=0,led:=led,moves:=mv,plain:=true}
noncomputable def aHi(led:Bool)(ks:List Nat):BQ:=if ks.length<5 then aOJ led 7 0 ks else aOJ led 31 1 ks
structure SmS(w:AL)(o:BM)(ks:List Nat):Prop where
 ex:∃ (es:List (Int×BH)) (ep:Nat),o={cls:=.type "set",dict:=none,data:=.set es.toArray ep (aHi (!byT w) ks)}/\es.map (·.1)=ks.map Int.ofNat/\∀e∈es,∃t,e.2=.int e.1 t
theorem aIK{α:Type}(l:List α)(p:Nat)(y:α):gP l.toArray p y=(l.take p++y::l.drop p).toArray:=by unfold gP;apply oW.mp;simp;exact fJ<|by simp
noncomputable abbrev jR(w:AL):BM:={cls:=.type "set",dict:=none,data:=.set #[] 0 (aHi (!byT w) [])}
theorem newK{E:BH->BI->Prop}(a:BH){Q₁:BH->BI->Prop}(h:Q₁ (.ref s.heap.objs.size) {s with heap:=s.heap.push (jR w)}):
  codeAny (AF prog w) A (.call (.builtin "set.__new__") ⟨[.type "set",a],[]⟩) (wants Q₁ E) s:=by
 refine codeAny_of_tree ?_;refine AA (m:=checkBuiltinCall "set.__new__" _) (wpAny_of_eq (F.newCall_set_1 a)<|AB ⟨plainId_quiet F.plain_set_new _,codeAny_builtin F.entry_set_new ?_⟩);rw[Around.under_plainId F.plain_set_new];unfold Builtin.«set.__new__» Builtin.Frozenset.newClass;have q:=sub_set_self;obtain⟨hp,g,d,tk,os⟩:=s;dsimp only
 wp_walk
 refine Ab<|AB ?_;dsimp only;simp only[newObj];refine AA<|wpAny_alloc (AB<|AB ?_);exact h
theorem aBl:isSubtype (.type "list") (.type "set")=pure false:=by rw[isSubtype_type];kernel_rfl
theorem aCD:isSubtype (.type "list") (.type "frozenset")=pure false:=by rw[isSubtype_type];kernel_rfl
theorem slot_sit_next:PySem.Slot "set_iterator" "__next__" "set_iterator.__next__":=
 .of (owner:="set_iterator") (n:="__next__") (by rw[typeLookup_type,builtinLookup_eq_fast];kernel_rfl) (by decide+kernel) (by decide+kernel) (by decide+kernel) (by first|exact .inl (by decide+kernel)|exact .inr (by decide+kernel)) (by rw[isSubtype_type];kernel_rfl)
theorem wP:entryFor table "set_iterator.__next__"=some Builtin.«set_iterator.__next__»:=entryFor_of_tree (by kernel_rfl)
theorem zK(a:BH):argsOk "set_iterator.__next__" ⟨[a],[]⟩:=by unfold argsOk;kernel_rfl
theorem rJ:PySem.Slot "set_iterator" "__iter__" "set_iterator.__iter__":=
 .of (owner:="set_iterator") (n:="__iter__") (by rw[typeLookup_type,builtinLookup_eq_fast];kernel_rfl) (by decide+kernel) (by decide+kernel) (by decide+kernel) (by first|exact .inl (by decide+kernel)|exact .inr (by decide+kernel)) (by rw[isSubtype_type];kernel_rfl)
theorem xG:entryFor table "set_iterator.__iter__"=some Builtin.«dict_keyiterator.__iter__»:=entryFor_alias (id':="dict_keyiterator.__iter__") (by kernel_rfl) rfl (by decide+kernel) (by kernel_rfl)
theorem zJ(a:BH):argsOk "set_iterator.__iter__" ⟨[a],[]⟩:=by unfold argsOk;kernel_rfl
theorem aCM:entryFor table "set.__iter__"=some Builtin.«frozenset.__iter__»:=entryFor_alias (id':="frozenset.__iter__") (by kernel_rfl) rfl (by decide+kernel) (by kernel_rfl)
noncomputable def pM(w:AL)(S:BJ)(ep:Nat)(es:List (Int×BH)):List (Int×BH):=if byT w then(pickOrder (w.params.setOrder S ep) es.toArray).toList else es
theorem uN{α:Type}:∀ (l:List α) (i:Nat) (h:i<l.length),(l[i]::l.eraseIdx i).Perm l
 |[],_,h=>by simp at h
 |a::l,0,_=>.refl _
 |a::l,i+1,h=>by show(l[i]'(by simpa using h)::a::l.eraseIdx i).Perm (a::l);exact(List.Perm.swap a _ _).trans<|.cons a (uN l i<|by simpa using h)
theorem aBb{α:Type}(f:Nat->Nat):∀ (n k:Nat) (left:List α) (out:Array α),left.length=n->(pickOrder.go f n k left out).toList.Perm (out.toList++left)
 |0,_,left,out,h=>by have:left=[]:=yQ h;subst this;rw[eO];exact List.Perm.refl _
 |n+1,k,left,out,h=>by have hlt:f k%left.length<left.length:=uJ _ (by omega);unfold pickOrder.go;rw[dH hlt];dsimp only;refine(aBb f n (k+1) _ _<|by rw[List.length_eraseIdx_of_lt hlt];omega).trans ?_;rw[iK,gA];exact List.Perm.append_left _<|uN left _ hlt
theorem aAb{S:BJ}{ep:Nat}(es:List (Int×BH)):(pM w S ep es).Perm es:=by
 unfold pM
 split
 ·have:=aBb (w.params.setOrder S ep) es.toArray.size 0 es.toArray.toList #[] (by simp);simpa[pickOrder] using this
 ·exact List.Perm.refl _
noncomputable def stK(w:AL)(ks:List Nat)(i:Nat):Nat:=if byT w then 0 else match i with
 |0=>0
 |j+1=>ks.getD j 0+1
noncomputable def itK(w:AL)(S:BJ)(ks:List Nat)(ep i:Nat):BM:={cls:=.type "set_iterator",data:=.fields #[Al<|stK w ks i,Al i,.ref S,Al ks.length,Al ep]}
variable {E:BH->BI->Prop}
theorem aAc{I S:BJ}{ks:List Nat}{ep:Nat}(h:s.heap.get? I=some (itK w S ks ep i)):s.TypeIs (.ref I) "set_iterator":=⟨_,h,rfl⟩
theorem aNQ{I S:BJ}{ks:List Nat}{ep:Nat}{Q:BH->BI->Prop}(hI:s.heap.get? I=some (itK w S ks ep i))(h:Q (.ref I) s):AG (AF prog w) A (pyIter<|.ref I) Q E s:=by have hT:=aAc hI;refine wpAny_pyIter_slot hT rJ (AY rJ hT xG ?_<|zJ _);exact AB ⟨_,rfl,"set_iterator",_,hT,slot_sit_next.lookup,h⟩
theorem aOc{r:BJ}{Q:Bool->BI->Prop}(hT:s.TypeIs (.ref r) "set")(h:Q false s):AG (AF prog w) A (Builtin.List.listLengthHint<|.ref r) Q E s:=by
 unfold Builtin.List.listLengthHint;refine AA<|wpAny_specialOf hT F.slot_set_len.lookup ?_;generalize q:("set.__len__":String)=i0
 wp_delta
 rw[show splitId i0=some ("set","__len__") from by subst q;decide+kernel];subst q;refine AA (BD (T:="set") (b:=true) hT sub_set_self<|wpAny_ite_split (λz=>absurd z<|by decide) λ_=> ?_);refine wpAny_ite_split (λ_=>AA (wpAny_typeOf hT<|AB h)) λz=>absurd (by decide+kernel) z
theorem aDU:∀ {ns:List Int}{vs:List BH},Vals (ns.map V.int) vs->IntsAre vs ns
 |[],_,.nil=>.nil
 |n::ns,_::_,.cons r t=>by obtain⟨k,rfl⟩:=r;exact .cons n k<|aDU t
def gV(K:aB)(F0:Hp)(d:D):V->Hp->Prop:=λv F=>Rep K F0 d v/\Same F0 F
variable {E:jM}
theorem Inv.retrack2{pins:List (BJ×BM)}{σ0:St}{s':BI}(I0:Inv X pins σ0 H s):∀ (ls:List BJ),ls.Nodup->(∀l∈ls,F l=none/\(∃xs,H l=some xs/\Wr l xs)/\∀o,s.heap.get? l=some o->s'.heap.get? l=some o)->Inv X pins σ F s'->Inv X pins σ (λb=>if b∈ls then H b else F b) s'
 |[],_,_,I=>by simpa using I
 |l::ls,nd,h,I=>by
  obtain⟨nl,nd'⟩:=fB.mp nd;have J:=Inv.retrack2 I0 ls nd' (λl' hl=>h l'<|aO _ hl) I;obtain⟨n,⟨xs,hx,wx⟩,kp⟩:=h l aK
  have e:(λb=>if b∈l::ls then H b else F b)=upd (λb=>if b∈ls then H b else F b) l xs:=by
   funext b;unfold upd
   by_cases hb:b=l
   ·subst hb;simp[hx]
   ·simp[hb]
  rw[e];have n':(λb=>if b∈ls then H b else F b) l=none:=by simp[nl,n]
  have ob:=I0.hok l _ hx;clear e;generalize (λb=>if b∈ls then H b else F b)=G at J n' ⊢;refine⟨J.ok,J.os,J.bare,⟨J.base.keep,J.base.slot,λb u g n0 hx0=> ?_,J.base.there,λb ys g=> ?_,λb u ys g=> ?_,λb ps g=> ?_⟩,J.loc,J.cell, ?_,λx c g=> ?_,λp hp=> ?_,J.hok.track n' ?_,J.len⟩
  ·have hb:b≠l:=λq=>by subst q;have:=I0.base.free b u g n0 hx0;rw[hx] at this;cases this
   rw[bU hb];exact J.base.free b u g n0 hx0
  ·have q:=J.base.tups b ys g;rw[bU<|cA q n'];exact q
  ·have q:=J.base.frzs b u ys g;rw[bU<|cA q n'];exact q
  ·obtain⟨m,q⟩:=J.base.tbls b ps g;exact⟨m,by rw[bU<|cA q n'];exact q⟩
  ·rw[bU λq=>by have:=I0.free;rw[q,hx] at this;cases this];exact J.free
  ·rw[bU λq=>by have:=I0.freeC x c g;rw[q,hx] at this;cases this];exact J.freeC x c g
  ·obtain⟨g,n0,rr⟩:=J.pin p hp;refine⟨g, ?_,rr⟩;rw[bU λq=>by have:=(I0.pin p hp).2.1;rw[q,hx] at this;cases this];exact n0
  ·cases xs with
   |lst xs=>obtain⟨z,its,nn,rv,ho⟩:=ob;exact⟨z,its,nn,rv,kp _ ho⟩
   |dK kvs=>obtain⟨z,y,vs,r,o,es,ep,e,c⟩:=ob;exact⟨z,y,vs,r,o,es,ep,kp _ e,c⟩
   |ext φ=>obtain⟨h1,⟨o1,h2⟩,h3⟩:=ob;exact⟨h3 _ _ h1 kp,⟨o1,kp _ h2⟩,h3⟩
   |_=>exact wx.elim
theorem aFr(i:Nat){elt:Expr}{ifs:List Expr}{scope:Scope}{N M:List Str}{cap:List (Option Nat)}{sc:Scope}{Tb:D->List Slot}{y:Str}{py spos:Pos}(p:D->Bool)(f:D->D)
  (hN:X.N.Nodup) (hi:X.N[i]? =some y) (hy:X.env.scope.names.lookup y=some .local)
  (hsw:Af (.ListComp elt [⟨tg,iter,ifs,0⟩] scope pos) (some<|.Name y py) spos.line X.env=pure true)
  (hit:PId X (unO sd) PT0 tg iter ds) (hl:ds.length<=1000)
  (hsc:X.env.scope=sc) (hcn:mE scope sc=true) (hM:X.N=M) (hcap:lC N M scope sc cap=true) (hk:scope.kind=.function)
  (hg:∀cl C fp s H d,d∈ds->PGd (cxB X N scope cl C fp s H) (jE cap sd) tg d (Tb d))
  (hle:∀d,d∈ds->Le (Tb d) (jE cap sd))
  (ht:∀cl C fp s H d,d∈ds->(ifs=[]/\p d=true)\/∃c,ifs=[c]/\PTd (cxB X N scope cl C fp s H) (Tb d) c (p d))
  (he:∀cl C fp s H d,d∈ds->p d=true->PEd (cxB X N scope cl C fp s H) (Tb d) elt (.val<|f d))
  (hE:∀l,E.nx<|sd.set i (.own l<|(ds.filter p).map f))
  (hc:X.calm=true:=by rfl) (hs:∀x,Ag iter X.env x=pure x:=by intro _;rfl):
  PSd1 X sd (.Assign [.Name y py] (.ListComp elt [⟨tg,iter,ifs,0⟩] scope pos) spos) E:=.mk λσ F H S=>by
 intro pins0 s I0;have I1:Inv X pins0 σ F s:=I0.less S.sub S.base<|S.smp.sub S.sub
 have ob:∀l∈cF sd,∃xs o,H l=some xs/\Wr l xs/\s.heap.get? l=some o/\∀v,o.data≠ .cell v:=λl hl=>by obtain⟨n,xs,q,wx⟩:=S.slots.owns hl;exact aIi wx q<|I0.hok l _ q
 have I:Inv X (pins0++lK (cF sd) s.heap) σ F s:=I1.pins_of λp hp=>(aJ.mp hp).elim (λz=>I1.pin p<|aC _ z) λz=>by
  obtain⟨hb,g⟩:=qR z;obtain⟨xs,o,q,_,ho,hc⟩:=ob p.1 hb;rw[g] at ho;cases ho;refine⟨g,(S.slots.owns hb).1,λy=> ?_,λy=> ?_,hc⟩
  ·have:=I0.free;rw[<-y,q] at this;cases this
  ·obtain⟨_,o',ho',_⟩:=I0.ok.funs.mem y;have:=I0.base.free p.1 o' ho' (I0.ok.frf p.1 y) λz=>I0.ok.exfs p.1 z y
   rw[q] at this;cases this
 have hpins:∀ (s':BI) (σ':St) (F3:Hp),Inv X (pins0++lK (cF sd) s.heap) σ' F3 s'->∀l∈cF sd,F3 l=none/\(∃xs,H l=some xs/\Wr l xs)/\∀o,s.heap.get? l=some o->s'.heap.get? l=some o:=λs' σ' F3 I3 l hl=>by obtain⟨xs,o,q,wx,ho,_⟩:=ob l hl;have:=I3.pin (l,o)<|aC _ (aC _<|iL hl ho);exact⟨this.2.1,⟨xs,q,wx⟩,λo' g=>by rw[ho] at g;cases g;exact this.1⟩
 have S0:StF X.K X.B₀ F F σ (unO sd):=⟨S.base,Same.refl _,S.smp.sub S.sub,qT S.slots,by rw[iE];exact eD⟩;have hpe:∃pins,pins=pins0++lK (cF sd) s.heap:=⟨_,rfl⟩;obtain⟨pins,hpe⟩:=hpe;rw[<-hpe] at I hpins
 have nm:∀y∈scope.names,(y.2=NameKind.free->sc.names.lookup y.1=some NameKind.cell)/\(y.2=NameKind.local->scope.names.lookup y.1=some NameKind.local):=λy hy=>by have q:=bN.mp hcn y hy;simp only[bH,jT,iO,beq_eq_false_iff_ne,ne_eq,beq_iff_eq] at q;exact⟨λe=>q.1.1.resolve_left λz=>z e,λe=>q.2.resolve_left λz=>z e⟩
 have fre:∀y∈scope.names,y.2=.free->∃c,X.env.cells.lookup y.1=some c:=λy hy e=>I.ok.has y.1 (.inl<|by show X.env.scope.names.lookup y.1=_;rw[hsc];exact(nm y hy).1 e)
 rw[exec_Assign_Name_used _ _ _ _ hsw];refine AA (wpAny_standAt<|AA ?_);show AG _ X.A (do let _ <-comprehension (.ListComp elt [⟨tg,iter,ifs,0⟩] scope pos) scope X.env _ (newList []) false (eval iter X.env) (some<|assign (.Name y py) X.env)) _ _ s;refine AA<|AW (Ar (use:=some<|assign (.Name y py) X.env) (Q:=λ_ s'=>SP X pins0 (lft X F E) .next s') rfl hs (oR fre) hk (λy hy=>(nm y hy).2) ?_) (λ_ s' hq=>AB<|AB hq) λ_ _ e=>e;refine thn (hit σ F F S0 pins s I) λv s1 h1=>thn h1 λitv s2 h2=> ?_
 obtain⟨it,fp,tn,J,H2,e,I2,T,st2,f2,F1,S1,s1',itd⟩:=h2;subst e
 have S1b:StF X.K H2 H2 H2 (uA cap σ) (jE cap sd):=⟨Same.refl _,Same.refl _,S1.smp,by
  have q:=sM (sd:=unO sd) (H':=H2) S1.slots S1.sub cap;rw[wR] at q
  exact q,by rw[mJ];exact eD⟩
 refine wK (N:=N) (cap:=cap) (g:=λv σ2 H3 Q=>∀cl C,wG (cxB X N scope cl C fp s2 H2) tg v σ2 H3 Q) (tt:=λσ2 H3 Q=>∀cl C,aKm (cxB X N scope cl C fp s2 H2) ifs σ2 H3 Q) (te:=λσ2 H3 Q=>∀cl C,wE (cxB X N scope cl C fp s2 H2) elt σ2 H3 Q)
  hc hsc hcn (by rw[hM];exact hcap) hk I2 T st2 f2 (λcl C pi s3 σ3 H3 v u Q I3 ru q=>q cl C pi s3 u I3 ru) (λcl C pi s3 σ3 H3 Q I3 q=>q cl C pi s3 I3) (λcl C pi s3 σ3 H3 Q I3 q=>q cl C pi s3 I3)
  (λi m ys σb H3=>m=ds.length-i/\i<=ds.length/\∃Fb,StF X.K H2 Fb H3 σb (jE cap sd)/\RepL X.K Fb (((ds.take i).filter p).map f) ys) ds.length
  ⟨by simp,bI _,H2,S1b,by simpa using RepL.nil⟩ _ ?_
 rintro i' m ys σb H3 ⟨rfl,hil,Fb,Sb,rl⟩;have sF1:Same F1 Fb:=λb o g=>Sb.base _ _<|S1.sub _ _ g
 obtain⟨g1,g2,g3⟩:=itd Fb H3 sF1 Sb.sub Sb.smp trivial i'
 by_cases hlt:i'<ds.length
 ·have hd:ds[i']? =some ds[i']:=by simp[hlt]
  have hm:ds[i']∈ds:=eU hlt
  have ylen:ys.length<=i':=by rw[rl.len,aA];exact cP (lE _ _) (by simp;omega)
  refine .inr ⟨g1 hlt,gO<|by omega,λys' σ' H'=>∃Fb',StF X.K H2 Fb' H' σ' (jE cap sd)/\RepL X.K Fb' (((ds.take<|i'+1).filter p).map f) ys',λys' σ' H' ⟨Fb',Sb',rl'⟩=>⟨ds.length-(i'+1),by omega,rfl,hlt,Fb',Sb',rl'⟩,λx H4 y cl C=> ?_⟩;obtain⟨F4,s4,rp,up⟩:=g3 x H4 ds[i'] hd y;refine(hg cl C fp s2 H2 _ hm σb F4 H4 x (up _ _ _ Sb) rp).imp λσ5 H5 ⟨F5,S5,s5⟩ cl2 C2=> ?_
  have rl5:=rl.mono<|s4.trans s5
  have fin:∀ (b:Bool) (H6:Hp) (F6:Hp),b=p ds[i']->StF X.K H2 F6 H6 σ5 (Tb ds[i'])->Same F5 F6->if b=true then(∀cl C,wE (cxB X N scope cl C fp s2 H2) elt σ5 H6 λv H5=>∃Fb',StF X.K H2 Fb' H5 σ5 (jE cap sd)/\RepL X.K Fb' (((ds.take<|i'+1).filter p).map f) (ys++[v])) else ∃Fb',StF X.K H2 Fb' H6 σ5 (jE cap sd)/\RepL X.K Fb' (((ds.take<|i'+1).filter p).map f) ys:=λb H6 F6 eb S6 s6=>by
   rw[kG p hd,<-eb];cases b with
   |false=>exact aIv ⟨F6,S6.le<|hle _ hm,by simpa using rl5.mono s6⟩
   |true=>
    refine aIz λcl3 C3=>(he cl3 C3 fp s2 H2 _ hm eb.symm σ5 F6 H6 S6).imp λv H7 ⟨F7,S7,s7,q7⟩=>⟨F7,S7.le<|hle _ hm, ?_⟩
    simp only[if_true,aI,aR,dD];exact((rl5.mono s6).mono s7).app<|.one q7
  rcases ht cl2 C2 fp s2 H2 _ hm with⟨e1,e2⟩|⟨c,e1,q⟩
  ·subst e1;exact sJ (fin true H5 F5 e2.symm S5<|Same.refl _)
  ·subst e1;exact xT<|(q σ5 F5 H5 S5).imp λb H6 ⟨eb,F6,S6,s6⟩=>fin b H6 F6 eb S6 s6
 ·have e:i'=ds.length:=by omega
  subst e;refine .inl ⟨g2<|aG _,λD C s' hD hC hDC h0 hL hcc hpp hst ⟨m',ns'⟩ J'=> ?_⟩;have fbD:Fb D=none:=Sb.sub.free hD;have nOw:∀l∈cF sd,(upd H3 D<|.lst ys) l=none:=λl hl=>(hpins _ _ _ J' l hl).1
  have dOw:D∉cF sd:=λhl=>by have:=nOw D hl;rw[cD] at this;cases this
  have S9:StF X.K X.B₀ Fb (λb=>if b∈cF sd then H b else(upd H3 D<|.lst ys) b) σ sd:=by
   refine⟨λb o g=>sF1 _ _<|S1.base _ _ g,λb o g=> ?_,λb o g=> ?_,S.slots.mono (s1'.trans sF1) λl hl=> ?_,S.nd⟩
   ·have nb:b∉cF sd:=λhb=>by have:=nOw b hb;rw[bU<|cA g fbD] at this;rw[Sb.sub _ _ g] at this;cases this
    show(if b∈cF sd then H b else _)=_;rw[if_neg nb,bU<|cA g fbD];exact Sb.sub _ _ g
   ·by_cases hb:b∈cF sd
    ·simp only[hb,if_true] at g;exact S.smp _ _ g
    ·simp only[hb,if_false] at g
     by_cases hb:b=D
     ·subst hb;rw[cD] at g;cases g;trivial
     ·rw[bU hb] at g;exact Sb.smp _ _ g
   ·have:=nOw l hl;rw[bU (show l≠D from λq=>dOw<|q▸hl)] at this;refine⟨Sb.sub.free this,λxs g=> ?_⟩;show(if l∈cF sd then H l else _)=_;rw[if_pos hl];exact g
  have S10:=S9.setO i fbD (by show(if D∈cF sd then _ else _)=_;rw[if_neg dOw];exact cD) rl dOw;obtain⟨oC,esC,epC,hoC,rC⟩:=id ns';have nC:(upd H3 D<|.lst ys) C=none:=by rw[bU<|Ne.symm hDC];exact hC
  have Jp:Inv X (pins++[(C,oC)]) σ (upd H3 D<|.lst ys) s':=J'.pins_of λq hq=>(aJ.mp hq).elim (λz=>J'.pin q<|aC _ z) λz=>by
   have z:q=(C,oC):=by simpa using z
   subst z
   exact ⟨hoC,nC,hL,fun y=>hst (by
    rcases J'.ok.stk with e|⟨e,_⟩
    ·rw[e];exact y
    ·rw[e];unfold frs;rw[fN];cases X.env.frame with
     |none=>exact y
     |some fr=>exact aO _ y),λv z=>by rw[rC.1] at z;cases z⟩
  show AG _ X.A (assign (.Name y py) X.env<|.ref D) _ _ _;refine wpAny_assign_Name (wJ (v:=.ref D) (u:=.ref D) Jp hN hi (.inl hy) rfl (λs3 J3=> ?_)<|.inr hy);have pC:=J3.pin (C,oC) (aC _<|aC _ aK);refine⟨m',⟨oC,esC,epC,pC.1,rC⟩,λh' sb=> ?_⟩;have J4:Inv X pins _ (upd H3 D<|.lst ys) s3:=J3.pins_of λq hq=>J3.pin q (aC _<|aU _ hq)
  have J5:Inv X pins _ (upd H3 D<|.lst ys) {s3 with heap:=h',toks:=s3.toks}:=J4.turned (it:=C) (λb o hb g=>sb.extBut b o hb g) nC hL (.inr h0) hcc hpp;have J6:Inv X pins0 _ (upd H3 D<|.lst ys) {s3 with heap:=h',toks:=s3.toks}:=J5.pins_of λq hq=>J5.pin q (aC _<|by rw[hpe];exact aU _ hq)
  have J7:=Inv.retrack2 I0 (cF sd) S.nd (hpins _ _ _ J5) J6;refine⟨_,_,J7,_,Fb,S10,s1'.trans sF1, ?_⟩;have hE':=hE D;simpa using hE'
variable {ls:List BJ}{nss:List (List Int)}
theorem StF.setX{as:List BJ}{G:V->Hp->Hp->Prop}(S:StF K H₀ F H σ sd)(i:Nat)(q:oU K F H (.ox as G) (some v))(nd:as.Nodup)(no:∀a∈as,a∉cF sd):StF K H₀ F H (σ.set i (some v)) (sd.set i<|.ox as G):=
 ⟨S.base,S.sub,S.smp,S.slots.set (z:=.ox as G) q i,(kN (z:=.ox as G) i S.nd (λl e=>.inl<|no l e) nd).1⟩
noncomputable def inF(F H:Hp)(as:List BJ):Hp:=λb=>if b∈as then H b else F b
theorem aBI{as:List BJ}{b:BJ}(h:b∈as):inF F H as b=H b:=if_pos h
theorem aDt{as:List BJ}{b:BJ}(h:b∉as):inF F H as b=F b:=if_neg h
theorem aEm{as:List BJ}(h:∀a∈as,F a=none):Same F (inF F H as):=λb u e=>by rw[aDt λhb=>by rw[h b hb] at e;cases e];exact e
theorem StF.inN(S:StF K H₀ F H σ sd)(h0:∀a∈l::ls,F a=none)(no:∀a∈l::ls,a∉cF sd):StF K H₀ (inF F H (l::ls)) H σ sd/\Same F (inF F H (l::ls)):=by
 have s1:=aEm (H:=H) h0;refine⟨⟨λb u e=>s1 _ _<|S.base _ _ e,λb u e=> ?_,S.smp,S.slots.mono s1 λa ha=>⟨?_,λob e=>e⟩,S.nd⟩,s1⟩
 ·by_cases h:b∈l::ls
  ·rw[aBI h] at e;exact e
  ·rw[aDt h] at e;exact S.sub _ _ e
 ·rw[aDt λhb=>no a hb ha];exact(S.slots.owns ha).1
noncomputable def aHj(F:Hp):List BJ->Hp
 |[]=>F
 |a::as=>del (aHj F as) a
theorem uW:∀ {as:List BJ}{a:BJ},a∈as->aHj F as a=none
 |b::as,a,h=>by
  show del (aHj F as) b a=none
  by_cases e:a=b
  ·subst e;exact yN
  ·rw[qA e];exact uW<|(aV.mp h).resolve_left e
theorem sL:∀ {as:List BJ}{a:BJ},a∉as->aHj F as a=F a
 |[],_,_=>rfl
 |b::as,a,h=>by show del (aHj F as) b a=F a;rw[qA (show a≠b from λe=>h<|e▸aK)];exact sL λz=>h<|aO _ z
theorem RepL.delN{vs:List V}(hn:pY ds=true)(r:RepL K F ds vs):∀ {as:List BJ},as.Nodup->(∀a∈as,∃xs,F a=some (.lst xs))->RepL K (aHj F as) ds vs
 |[],_,_=>r
 |a::as,nd,h=>by obtain⟨n1,n2⟩:=fB.mp nd;obtain⟨xs,e⟩:=h a aK;exact RepL.del (xs:=xs) (by rw[sL n1];exact e) hn (RepL.delN hn r n2 λb hb=>h b<|aO _ hb)
variable {ns:List Int}
theorem aJn(h:Smp H)(a:BJ):Smp (upd H a<|.lst xs):=λb u e=>by
 by_cases z:b=a
 ·subst z;rw[cD] at e;cases e;trivial
 ·rw[bU z] at e;exact h _ _ e
theorem vX:∀ns:List Int,pY (ns.map D.int)=true
 |[]=>rfl
 |n::ns=>by show(true&&pY (ns.map D.int))=true;rw[vX ns];rfl
noncomputable def InD(K:aB)(F H:Hp):List BJ->List (List D)->Prop
 |[],[]=>True
 |a::as,ds::dss=>(∃xs,H a=some (.lst xs)/\RepL K F ds xs)/\InD K F H as dss
 |_,_=>False
theorem InD.len:∀ {as:List BJ}{dss:List (List D)},InD K F H as dss->as.length=dss.length
 |[],[],_=>rfl
 |[],_::_,h=>h.elim
 |_::_,[],h=>h.elim
 |_::as,_::dss,h=>by rw[cM,cM,InD.len h.2]
theorem InD.of:∀ {as:List BJ}{dss:List (List D)},InD K F H as dss->∀a∈as,∃xs,H a=some (.lst xs)
 |[],[],_,a,ha=>by cases ha
 |[],_::_,h,_,_=>h.elim
 |_::_,[],h,_,_=>h.elim
 |b::as,_::dss,h,a,ha=>by
  rcases aV.mp ha with rfl|ha
  ·exact⟨h.1.choose,h.1.choose_spec.1⟩
  ·exact InD.of h.2 a ha
theorem InD.mono:∀ {as:List BJ}{dss:List (List D)},InD K F F as dss->Same F F'->InD K F' F' as dss
 |[],[],_,_=>trivial
 |[],_::_,h,_=>h.elim
 |_::_,[],h,_=>h.elim
 |_::as,_::dss,h,s=>by obtain⟨⟨xs,e,r⟩,h2⟩:=h;exact⟨⟨xs,s _ _ e,r.mono s⟩,InD.mono h2 s⟩
theorem InD.app:∀ {as bs:List BJ}{dss ess:List (List D)},InD K F H as dss->InD K F H bs ess->InD K F H (as++bs) (dss++ess)
 |[],bs,[],ess,_,h=>h
 |[],_,_::_,_,h,_=>h.elim
 |_::_,_,[],_,h,_=>h.elim
 |a::as,bs,_::dss,ess,h,g=>⟨h.1,InD.app h.2 g⟩
theorem InD.out{cs:List BJ}{Fb:Hp}:∀ {as:List BJ}{dss:List (List D)},InD K Fb Fb as dss->(∀es∈dss,pY es=true)->cs.Nodup->(∀a∈cs,∃xs,Fb a=some (.lst xs))->Same (aHj Fb cs) F'->(∀a∈as,∀ob,Fb a=some ob->H' a=some ob)->InD K F' H' as dss
 |[],[],_,_,_,_,_,_=>trivial
 |[],_::_,h,_,_,_,_,_=>h.elim
 |_::_,[],h,_,_,_,_,_=>h.elim
 |a::as,es::dss,h,hn,nd,fx,s,k=>by obtain⟨⟨xs,e,r⟩,h2⟩:=h;exact⟨⟨xs,k a aK _ e,(RepL.delN (hn es aK) r nd fx).mono s⟩,InD.out h2 (λx hx=>hn x<|aO _ hx) nd fx s λb hb=>k b<|aO _ hb⟩
def GD(K:aB)(l:BJ)(ls:List BJ)(dss:List (List D)):V->Hp->Hp->Prop:=λv F H=>v=.ref l/\H l=some (.lst<|ls.map V.ref)/\InD K F H ls dss
variable {dss:List (List D)}
theorem InD.mono2:∀ {as:List BJ}{dss:List (List D)},InD K F H as dss->Same F F'->(∀a∈as,∀ob,H a=some ob->H' a=some ob)->InD K F' H' as dss
 |[],[],_,_,_=>trivial
 |[],_::_,h,_,_=>h.elim
 |_::_,[],h,_,_=>h.elim
 |a::as,_::dss,h,s,k=>by obtain⟨⟨xs,e,r⟩,h2⟩:=h;exact⟨⟨xs,k a aK _ e,r.mono s⟩,InD.mono2 h2 s λb hb=>k b<|aO _ hb⟩
noncomputable def rM(f:Nat->Bool)(A:List (List Int)):Option (List Int):=((bK A.length).find? f).map λk=>A.getD k []
theorem aCz{f:Nat->Bool}{A:List (List Int)}{k:Nat}(hk:k<A.length)(h:f k=true)(hn:∀j,j<k->f j=false):rM f A=some (A.getD k []):=by
 unfold rM
 have:(bK A.length).find? f=some k:=by rw[aBo];exact⟨h,bB.mpr hk,λj hj=>by rw[hn j hj];rfl⟩
 rw[this];rfl
theorem xN{f:Nat->Bool}{A:List (List Int)}(hn:∀j,j<A.length->f j=false):rM f A=none:=by unfold rM;rw[nL.mpr λk hk=>by rw[hn k<|bB.mp hk];simp];rfl
theorem aCm{α:Type}(f:α->D)(h:∀a,pl (f a)=true):∀l:List α,plL (l.map f)=true
 |[]=>rfl
 |a::l=>by show(pl (f a)&&plL (l.map f))=true;rw[h a,aCm f h l];rfl
theorem zS{α:Type}(f:α->D)(n:Nat)(h:∀a,dep (f a)<=n):∀l:List α,pH (l.map f)<=n
 |[]=>bI _
 |a::l=>Nat.max_le.mpr ⟨h a,zS f n h l⟩
noncomputable def wsD:Option (List<|List Int)->D
 |none=>.non
 |some L=>.lst<|L.map aT
def WsOk(p:Int×Int)(o:Option (List<|List Int)):Prop:=∀L,o=some L->0<L.length/\L.length<=100/\∀ws∈L,Fil p ws
structure aDw(p:Int×Int)(w:List (Option (List<|List Int))):Prop where
 len:w.length=(bC p).length
 ok:∀o∈w,WsOk p o
theorem oZ{w:List (Option (List<|List Int))}{k:Nat}(h:k<w.length):(w.map wsD)[k]? =some (wsD<|w.getD k none):=by simp[bF,h]
theorem aHR{w:List (Option (List<|List Int))}{k:Nat}(h:(w.map wsD)[k]? =some d):k<w.length/\d=wsD (w.getD k none):=by
 have hk:k<w.length:=by have:=(aZ.mp h).1;simpa using this
 rw[oZ hk] at h;exact⟨hk,(bT.inj h).symm⟩
theorem aJo(o:Option (List Int)):isN (aMJ o)=o.isNone:=by cases o<;>rfl
theorem aNp(o:Option (List<|List Int)):pl (wsD o)=true:=by
 cases o with
 |none=>rfl
 |some L=>exact vS L
theorem aMg(o:Option (List<|List Int)):dep (wsD o)<=2:=by
 cases o with
 |none=>exact bI _
 |some L=>exact aKt<|tM L
theorem aMr(w:List (Option (List<|List Int))):plL (w.map wsD)=true:=aCm wsD aNp w
noncomputable def tP(c:Int):Int:=[c / 4%7,c / 4%8,c / 4%10,c / 4%14].getD (c%4).toNat 0
def aHH:List D->R->Prop:=λds r=>∃c,ds=[.int c]/\r=.val (cH (vZ<|tP c))
noncomputable def aIx(w:List (Option (List<|List Int)))(T:List (List Int))(k:Nat):Bool:=match w.getD k none with
 |none=>false
 |some L=> !decide (T.getD k []∈L)
noncomputable def rH(w:List (Option (List<|List Int)))(A T:List (List Int)):Option (List Int):=rM (aIx w T) A
def aKR:List D->R->Prop:=λds r=>∃p w T,p∈bX/\aDw p w/\nV p T/\ds=[cH p,.lst<|w.map wsD,.tup<|T.map aT]/\r=.val (aMJ<|rH w (bC p) T)
def aLb:List D->R->Prop:=λds r=>∃p w T,p∈bX/\aDw p w/\nV p T/\ds=[cH p,.lst<|w.map wsD,.tup<|T.map aT]/\r=.val (.bl (rH w (bC p) T).isNone)
theorem aGM(L:List (List Int))(t:List Int):((L.map aT).any λz=>deq z<|aT t)=decide (t∈L):=by
 induction L with
 |nil=>simp
 |cons a L ih=>
  rw[aR,lQ,ih,sP]
  by_cases h:t=a
  ·simp[h]
  ·have h2:¬ a=t:=λq=>h q.symm
   simp[h,h2]
theorem tQ(ds:List D)(k:Nat):DL.cutD ds none (some (k:Int))=ds.take k:=by
 unfold DL.cutD;rw[HT.sIx_nat,HT.sIx_none]
 by_cases h:k<=ds.length
 ·rw[zN h];simp
 ·rw[yS<|by omega,fJ (show ds.length<=k by omega)];simp
theorem aEC(ds:List D)(k:Nat):DL.cutD ds (some (k:Int)) none=ds.drop k:=by
 unfold DL.cutD;rw[HT.sIx_nat,HT.sIx_none]
 by_cases q:k<=ds.length
 ·rw[zN q];exact fJ<|by simp
 ·rw[yS<|by omega,kE<|aG _,kE<|by omega];simp
structure aOU(n:Nat)(τ:List Nat):Prop where
 len:τ.length=n
 lt:∀b∈τ,b<n
 mem:∀b,b<n->b∈τ
 nd:τ.Nodup
structure SqN(n:Nat)(q:SQ):Prop where
 k10:q.1<10
 i0:0<=q.2.1/\q.2.1<n
 j0:0<=q.2.2.1/\q.2.2.1<n
noncomputable def exO(l:BJ)(o:BM):HO:=.ext λh=>h.get? l=some o
theorem aDp{h:BL}{o:BM}(g:h.get? l=some o):ObjOk P w H h l (exO l o):=⟨g,⟨o,g⟩,λ_ _ q k=>k _ q⟩
def TDo(P:AI)(w:AL)(F:Hp)(l:BJ)(o:BM)(kvs:List (List Key×V)):Prop:=
 kvs.length<=AN/\(l==Aw)=false/\∃xs,KT F kvs xs/\∃es ep,o.ExactDict/\o.data=.dict es ep/\es.toList=xs.map (entryOfKey (Ao<|eC P w))/\(xs.map (·.1)).Nodup
theorem TDo.mono{o:BM}{kvs:List (List Key×V)}(t:TDo P w F l o kvs)(s:Same F F'):TDo P w F' l o kvs:=by obtain⟨z,y,xs,r,q⟩:=t;exact⟨z,y,xs,r.keeps λb ys e=>s _ _ e,q⟩
theorem KT.all{h:BL}(ok:HOk P w H h){l:List (List Key×V)}{m:List (List Key×BJ×BH)}(q:KT H l m):∀x∈m,(Ao<|eC P w).is h x.1 x.2.1:=by
 induction q with
 |nil=>intro x hx;exact nomatch hx
 |@cons p q ps qs hq t ih=>
  intro x hx
  rcases aV.mp hx with e|hx
  ·subst e;exact mO ok (by rw[<-hq.1];exact hq.2.1)
  ·exact ih x hx
noncomputable def kD:Key->D
 |.inl i=>.int i
 |.inr x=>.str x
theorem qD{K:aB}{F:Hp}:∀ {k:List Key}{xs:List V},RepL K F (k.map kD) xs->xs=k.map kV
 |[],xs,r=>by simpa only[dD,RepL] using r
 |a::k,xs,r=>by
  rw[aR] at r;obtain⟨y,ys,rfl,q,rl⟩:=r.uncons;rw[qD rl,aR];congr 1;cases a with
  |inl i=>simp only[kD,Rep] at q;exact q
  |inr x=>simp only[kD,Rep] at q;exact q
def Gt(P:AI)(w:AL)(K:aB)(l:BJ)(ks:List (List Key))(ds:List D):V->Hp->Hp->Prop:=λv F H=>v=.ref l/\∃o xs,H l=some (exO l o)/\(∀v,o.data≠ .cell v)/\RepL K F ds xs/\ks.length=ds.length/\TDo P w F l o (ks.zip xs)
noncomputable def odT(P:AI)(w:AL)(K:aB)(l:BJ)(ks:List (List Key))(ds:List D):Slot:=.ox [l]<|Gt P w K l ks ds
theorem aFh{α β:Type}{xs:List α}{ys:List β}(h:xs.length=ys.length)(x:α)(y:β):(xs++[x]).zip (ys++[y])=xs.zip ys++[(x,y)]:=by rw[List.zip_append h];rfl
theorem aAt{ks:List (List Key)}{k:List Key}(hk:k∉ks):∀ {ks':List (List Key)}{xs:List V},(∀j∈ks',j∈ks)->lP (ks'.zip xs) k=none
 |[],_,_=>rfl
 |_::_,[],_=>rfl
 |j::js,x::xs,h=>by rw[iH,nX (p:=(j,x)) (k:=k) (λe=>hk<|(show j=k from e)▸h j aK)];exact aAt hk λi hi=>h i<|aO _ hi
theorem wQ:∀ {sd:List Slot}{i:Nat}{z:Slot},(cF sd).Nodup->sd[i]? =some z->(jZ z).Nodup
 |[],_,_,_,e=>by simp at e
 |y::zs,0,z,h,e=>by
  have:y=z:=by simpa using e
  subst this;exact(cX.mp (show(jZ y++cF zs).Nodup from h)).1
 |y::zs,i+1,z,h,e=>wQ (sd:=zs) (i:=i) (cX.mp (show(jZ y++cF zs).Nodup from h)).2.1 (by simpa using e)
variable {ks:List (List Key)}
theorem sK(S:StF K H₀ F H σ sd)(hs:sd[i]? =some (odT P w K l ks ds)):σ[i]? =some (some<|.ref l)/\F l=none/\∃o xs,H l=some (exO l o)/\RepL K F ds xs/\ks.length=ds.length/\TDo P w F l o (ks.zip xs):=by
 obtain⟨o,h1,v,h2,h3,h4⟩:=S.slots.get hs;obtain⟨e,ob,xs,a,_,b,c,d⟩:=h4 F H (Same.refl _) λ_ _ _ q=>q
 subst e h2;exact⟨h1,(h3 l<|dN l).1,ob,xs,a,b,c,d⟩
theorem aDr{o:BM}(hF:F l=none)(h1:H l=some (exO l o))(nc:∀v,o.data≠ .cell v)(h2:RepL K F ds xs)(h3:ks.length=ds.length)(h4:TDo P w F l o (ks.zip xs)):oU K F H (odT P w K l ks ds) (some<|.ref l):=
 ⟨.ref l,rfl,fun a ha=>by
  rw[bA.mp ha]
  exact⟨hF,_,h1,o,rfl,nc⟩,λF' H' s k=>⟨rfl,o,xs,k l (dN l) _ h1,nc,h2.mono s,h3,h4.mono s⟩⟩
theorem StF.setT{as:List BJ}{G:V->Hp->Hp->Prop}(S:StF K H₀ F H σ sd)(i:Nat)(q:oU K F H (.ox as G) (some v))(nd:as.Nodup)(no:∀a∈as,a∉cF sd):StF K H₀ F H (σ.set i (some v)) (sd.set i<|.ox as G):=
 ⟨S.base,S.sub,S.smp,S.slots.set (z:=.ox as G) q i,(kN (z:=.ox as G) i S.nd (λl e=>.inl<|no l e) nd).1⟩
theorem StF.reT{z z':Slot}{o:Option V}(S:StF K H₀ F H σ sd)(hs:sd[i]? =some z)(ho:σ[i]? =some o)(keep:∀b ob,b∉jZ z->H b=some ob->H' b=some ob)(sm:Smp H')(q:oU K F H' z' o)(nd:(jZ z').Nodup)(no:∀a∈jZ z',a∈jZ z\/a∉cF sd):StF K H₀ F H' σ (sd.set i z'):=by
 have S0:=S.le<|kJ sd i;have mz:∀a∈jZ z,a∈cF sd:=λa ha=>fR.mpr ⟨z,cU hs,ha⟩
 refine⟨S.base,λb u e=> ?_,sm, ?_, ?_⟩
 ·refine keep b u (λhb=> ?_)<|S.sub _ _ e;have:=(S.slots.owns<|mz b hb).1;rw[e] at this;cases this
 ·have q1:SlotsOk K F H' (sd.set i .un) σ:=S0.slots.mono (Same.refl _) λa ha=>⟨(S0.slots.owns ha).1,λob e=>keep a ob (λhb=>oS S.nd hs hb ha) e⟩
  have q2:=q1.set (z:=z') (o:=o) q i;rw[qO,sV ho] at q2;exact q2
 ·have:=kN (z:=z') i S0.nd (fun a ha=>by
   rcases no a ha with h|h
   ·exact .inl<|oS S.nd hs h
   ·exact .inl λhm=>h ((kJ sd i).own.subset hm)) nd
  rw[qO] at this;exact this.1
theorem xC{o:BM}(h:Smp H)(a:BJ):Smp (upd H a<|exO a o):=λb u e=>by
 by_cases z:b=a
 ·subst z;rw[cD] at e;cases e;trivial
 ·rw[bU z] at e;exact h _ _ e
variable {k:List Key}
noncomputable def aID:BM:={cls:=.type "dict",data:=.dict #[]}
theorem aGQ:PE X (.Dict [] [] pos) (λ_ H Q=>∀p,H p=none->(p==Aw)=false->Q (.ref p) (upd H p<|exO p aID)):=λpins s σ H Q I h=>wpAny_Dict_empty ⟨.ref s.heap.objs.size,_,I.laid (a:=s.heap.objs.size) (o:=exO s.heap.objs.size aID) (t':=s.toks) (λ_ _ q=>aE _ q) (aG _) (aDp<|bE _ rfl),rfl,h _ (I.hok.fresh<|aG _)<|beq_eq_false_iff_ne.mpr (Ne.symm<|bQ I.big)⟩
theorem aAg(i:Nat){x:Str}{p p2:Pos}(hN:X.N.Nodup)(hi:X.N[i]? =some x)(hx:Loc X.env.scope x)(hE:∀l,E.nx (sd.set i<|odT X.prog X.w X.K l [] []))(hs:Af (.Dict [] [] p2) (some<|.Name x p) pos.line X.env=pure false:=by rfl)
  (hf:X.fn x=true\/X.env.scope.names.lookup x=some .local:=by first|exact .inl rfl|exact .inr rfl|assumption):PSd1 X sd (.Assign [.Name x p] (.Dict [] [] p2) pos) E:=.mk λσ F H S=>
 (tS hN hi hx aGQ hs hf).to λq hq hm=>by
  have fp:F q=none:=S.sub.free hq
  have no:q∉cF sd:=λhl=>by obtain⟨_,ob,h,_⟩:=S.slots.owns hl;rw[hq] at h;cases h
  have S1:StF X.K X.B₀ F (upd H q<|exO q aID) σ sd:=by
   refine⟨S.base,λb u e=> ?_,xC S.smp q,S.slots.mono (Same.refl _) λl hl=> ?_,S.nd⟩
   ·rw[bU<|cA e fp];exact S.sub _ _ e
   ·obtain⟨n,ys,y,_⟩:=S.slots.owns hl;have hne:l≠q:=cA y hq;exact⟨n,λys e=>by rw[bU hne];exact e⟩
  refine⟨_,F,S1.setT i (aDr (P:=X.prog) (w:=X.w) (K:=X.K) (ks:=[]) (ds:=[]) (xs:=[]) fp cD (λv z=>by cases z) .nil rfl ⟨bI _,hm,[],.nil, #[],0,⟨rfl,rfl,rfl⟩,rfl,rfl,eD⟩) (by simp) λa ha=> ?_,Same.refl _,hE q⟩;rw[bA.mp ha];exact no
theorem aAq(i:Nat){x:Str}{p p2:Pos}(hu:X.A.units+1<AR)(hs:sd[i]? =some (odT X.prog X.w X.K l ks ds))(hx:PE X (.Name x p) (qY i))(h:PEd X sd e (.val d))(hb:PEd X sd b (.val (.tup<|k.map kD)))(hk:k∉ks)(hl:ds.length<=1000)(hE:E.nx (sd.set i (odT X.prog X.w X.K l (ks++[k])<|ds++[d])))
  (hsw:Af e (some<|.Subscript (.Name x p) b p2) pos.line X.env=pure false:=by rfl):PSd1 X sd (.Assign [.Subscript (.Name x p) b p2] e pos) E:=.mk λσ F H S pins s I=>by
 refine wpAny_Assign_Subscript (thn (h σ F H S pins s I) λr s1 ⟨v,H1,I1,rv,F1,S1,sF1,q1⟩=> ?_) hsw;obtain⟨h1,_⟩:=sK S1 hs;refine thn (hx pins s1 σ H1 (λv H2=>v=.ref l/\H2=H1) I1 ⟨.ref l,h1,rfl,rfl⟩) λu s2 ⟨y,H2,I2,ry,e1,e2⟩=> ?_
 subst e1 e2;obtain rfl:u=Value.ref l:=ry;refine thn (hb σ F1 H2 S1 pins s2 I2) λiv s3 ⟨y,H3,I3,ry,F3,S3,sF3,q3⟩=> ?_
 obtain⟨g1,g2,o,xs,g3,g4,g5,z,hm,ts,kt,es,ep,t1,t2,t3,t4⟩:=sK S3 hs;simp only[ResOk,Rep] at q3;obtain⟨ad,ys,rfl,ha,rl⟩:=q3;rw[qD rl] at ha;obtain rfl:iv=Value.ref ad:=ry;have ho:s3.heap.get? l=some o:=(I3.hok l _ g3).1;have ktH:KT H3 (ks.zip xs) ts:=kt.keeps λb ys e=>S3.sub _ _ e
 have dd:s3.heap.DictOfH (Ao<|eC X.prog X.w) l ts:=⟨o,es,ep,ho,t1,t2,t3,KT.all I3.hok ktH,t4⟩;have lz:ks.length=xs.length:=by rw[g5,g4.len]
 have hz:ts.length<=AN:=by rw[<-Paired.length kt];exact z
 have zl:(ks.zip xs).length=ds.length:=by rw[yY,<-lz,nA,g5]
 have vn:lP (ks.zip xs) k=none:=aAt hk λ_ z=>z
 have hl2:(rD (ks.zip xs) k v).length<=AN:=by rw[aCo v vn,bR,zl];have:=gO hl;show ds.length+1<=AN;omega
 refine wpAny_setItem_heap (hsz:=hz) (BG hu) (mO I3.hok<|S3.sub _ _ ha) dd λh' dd' hsm=> ?_
 obtain⟨q,es',ep',hq,u2,u3,u4,_,u5⟩:=dd';have I4:=aAV (t':=s3.toks+(Ao<|eC X.prog X.w).draws k) I3 (ob:=exO l q) (by rw[g3];exact True.intro) hsm ⟨q,hq⟩<|aDp hq;have kt':=kt.put k ha rv;rw[aCo v vn,<-aFh lz] at kt' hl2;refine⟨σ,_,I4,_,F3,S3.reT (z':=odT X.prog X.w X.K l (ks++[k])<|ds++[d]) hs g1 (λb ob hb q=> ?_) (xC S3.smp l) (aDr g2 cD (λv z=>by rw[u3] at z;cases z) (g4.app (.one<|Rep.mono sF3 q1)) (by rw[bR,bR,g5];rfl) ⟨hl2,hm,_,kt',es',ep',u2,u3,u4,u5⟩) (show[l].Nodup by simp) λa ha=>.inl ha,sF1.trans sF3,hE⟩;rw[bU (show b≠l from λz=>hb<|z▸dN l)];exact q
section
variable {X:Cx}{o e:Expr}{es:List Expr}{to:TE}{t:TA}{name:Str}{apos cpos:Pos}{id:String}{r:V->List V->Hp->VK->Prop}
theorem aNT(pa:PlainAttrs "dict")(slot:PySem.Slot "dict" name id)(hty:typeOf (.builtin id)=pure (.type "method_descriptor"))(hm:MtR X id r)(ho:PE X o to)(ha:PA X (e::es) t)
  (hbase:attributeBase o name X.env (eval o X.env)=eval o X.env:=by rfl)
  (hfew:((Ak cpos (AD (e::es) X.env)).all (fun x=> !x.1) && (backToKw cpos (keywordEach [] X.env)).all (fun x=>x.1.isSome)
  &&decide ((e::es).length+([]:List Keyword).length+(if([]:List Keyword).isEmpty then 0 else 1)<30))=true:=by rfl)
  (hline:(apos.endLine==cpos.line)=true:=by rfl) (hs:AD (e::es) X.env=(false,eval e X.env)::AD es X.env:=by rfl) (hplain:(Ak cpos<|AD es X.env).any (·.1)=false:=by rfl):
  PE X (.Call (.Attribute o name apos) (e::es) [] cpos) (λσ H Q=>to σ H λx H1=>(∃l ob,x=.ref l/\H1 l=some (exO l ob)/\ob.ExactDict)/\t σ H1 λxs H2=>r x xs H2 Q):=by
 intro pins s σ H Q I h;refine wpAny_Call_method_late hbase hfew hline rfl<|thn (ho pins s σ H _ I h) λv s1 ⟨x,H1,I1,r1,⟨l,ob,e1,e2,e3⟩,q1⟩=> ?_;subst e1;obtain rfl:v=Value.ref l:=r1;have hg:s1.heap.get? l=some ob:=(I1.hok l _ e2).1;refine⟨"dict",id,pa,slot,hty,⟨ob,hg,e3.1⟩,λa q=> ?_, ?_⟩
 ·cases q;exact⟨ob,hg,e3.2.1⟩
 have hA:=ha cpos pins s1 σ H1 _ I1 q1;rw[hs] at hA ⊢;refine Calls.callWith_builtin (by show(false||(Ak cpos<|AD es X.env).any (·.1))=false;rw[hplain]<;>rfl)<|Calls.evalArgs_plain ?_;exact thn hA λus s2 ⟨vs,H2,I2,r2,q2⟩=>hm pins s2 σ H2 (.ref l) vs (.ref l) us Q I2 rfl r2 q2
end
def Gf(P:AI)(w:AL)(K:aB)(ks:List (List Key))(ds:List D):V->Hp->Hp->Prop:=λv F _=>∃l o xs,v=.ref l/\F l=some (exO l o)/\RepL K F ds xs/\ks.length=ds.length/\TDo P w F l o (ks.zip xs)
noncomputable def odF(P:AI)(w:AL)(K:aB)(ks:List (List Key))(ds:List D):Slot:=.ox []<|Gf P w K ks ds
theorem aAp:∀ {ks:List (List Key)}{xs:List V}{k:List Key}{z:V},lP (ks.zip xs) k=some z->∃n:Nat,ks[n]? =some k/\xs[n]? =some z
 |[],_,_,_,h=>by cases h
 |_::_,[],_,_,h=>by cases h
 |j::js,y::ys,k,z,h=>by
  rw[iH] at h
  by_cases e:j=k
  ·rw[pW (p:=(j,y)) e] at h;exact⟨0,by simp[e],by simpa using h⟩
  ·rw[nX (p:=(j,y)) (k:=k) e] at h;obtain⟨n,h1,h2⟩:=aAp h;exact⟨n+1,by simpa using h1,by simpa using h2⟩
theorem aDM:∀ {ks:List (List Key)}{xs:List V}{k:List Key},ks.length=xs.length->lP (ks.zip xs) k=none->k∉ks
 |[],_,_,_,_=>by simp
 |_::_,[],_,h,_=>by cases h
 |j::js,y::ys,k,hl,h=>by
  rw[iH] at h
  by_cases e:j=k
  ·rw[pW (p:=(j,y)) e] at h;cases h
  ·rw[nX (p:=(j,y)) (k:=k) e] at h;have:=aDM (Nat.succ.inj hl) h;exact λhm=>(aV.mp hm).elim (λq=>e q.symm) this
theorem aFZ(i:Nat){x:Str}{p:Pos}{as:List BJ}{G:V->Hp->Hp->Prop}{G':V->List BJ->Hp->Hp->Prop}(hs:sd[i]? =some (.ox as G))(hx:PE X (.Name x p) (qY i))(hG:∀v F H,G v F H->G' v as F H)(hE:E.rt (.ox G')):PSd1 X sd (.Return (some<|.Name x p) pos) E:=.mk λσ F H S=>
 (aBs hx).to (by
  obtain⟨o,h1,v,h2,h3,h4⟩:=S.slots.get hs
  exact⟨v,by rw[h1,h2],.ox G',⟨F,S.base,S.sub,S.smp,as,wQ S.nd hs,λl hl=>⟨(h3 l hl).1,(h3 l hl).2,by simp[cF]⟩,λF' H' s k=>hG _ _ _ (h4 F' H' s k)⟩,hE⟩)
def aKG(K:aB):V->List V->Hp->VK->Prop:=λx xs H Q=>∃ (y:V) (L:List (List Int)) (t:List Int) (j:Nat),xs=[y]/\Rep K H (.lst<|L.map aT) x/\Rep K H (aT t) y/\L[j]? =some t/\(∀m,m<j->∀z,L[m]? =some z->z≠t)/\Q (.int (j:Int)) H
theorem aFb(hu:X.A.units+2<AR):MtR X "list.index" (aKG X.K):=by
 intro pins s σ H x xs v us Q I rx rs h;obtain⟨y,L,t,j,rfl,hl,hy,hj,hn,k⟩:=h;obtain⟨u,rfl,ru⟩:=uM rs;simp only[Rep] at hl;obtain⟨l,xs,rfl,hx,rl⟩:=hl;cases rx;obtain⟨its,rv,⟨⟨cls,dd,data,sl⟩,n,ho,hc,hd,hs⟩,hz⟩:=I.list<|.of hx;simp only at hc hd hs;subst hc;have ln:=rv.length;have ln2:xs.length=L.length:=by rw[rl.len,aA]
 have hat:∀ (m:Nat) (w:BH),its[m]? =some w->∃z a,L[m]? =some z/\w=.ref a/\Rep X.K H (aT z) (.ref a):=λm w hw=>by
  have hm:m<its.length:=(aZ.mp hw).1;have hL:m<L.length:=by omega
  obtain⟨v,hv,rz⟩:=rl.get (i:=m) (d:=aT L[m]) (by simp[hL]);obtain⟨w',hw',r⟩:=rv.get hv;rw[hw] at hw';cases hw';have rz':=rz;unfold aT at rz;simp only[Rep] at rz;obtain⟨a,ys,rfl,_⟩:=rz;cases r;exact⟨L[m],a,by simp[hL],rfl,rz'⟩
 obtain⟨jl,je⟩:=aZ.mp hj;have jI:j<its.length:=by omega
 have dc:=λw:BH=>Classical.propDecidable (∃ (i:Nat),its[i]? =some w/\L[i]? =some t)
 have jsmall:(j:Int)<2^63-1:=by rw[AU] at hz;omega
 have ih:its.toArray[j]'(by simpa using jI)=its[j]:=by simp
 refine call_meets jQ ⟨_,ho,rfl⟩ zR (zG _ _) (SeqAt.list_indexAt l its.toArray n dd sl u (λw=> @decide _<|dc w) j (by simpa using jI) jsmall ?_ ?_) ⟨by rw[ho];simp[hd,hs],λw hw=> ?_,⟨.int (j:Int),H,I.kept λb o g=>g,⟨_,rfl⟩,k⟩⟩
 ·rw[decide_eq_true_eq];exact⟨j,by simp[jI],hj⟩
 ·intro m hm hlt;rw[decide_eq_false_iff_not];rintro⟨i,e1,e2⟩;have hm':m<its.length:=by simpa using hm
  obtain⟨z,a,f1,f2,f3⟩:=hat m its[m] (by simp[hm']);obtain⟨z2,a2,g1,g2,g3⟩:=hat i _ e1;rw[e2] at g1;cases g1;have e3:its.toArray[m]=its[m]:=by simp
  rw[e3,f2] at g2;cases g2;have q:=qB (nH z) f3 g3<|nH t;rw[sP] at q;exact hn m hlt z f1<|of_decide_eq_true q
 ·have hw':w∈its:=by simpa using hw
  obtain⟨m,hm,rfl⟩:=eW hw';obtain⟨z,a,f1,f2,f3⟩:=hat m its[m] (by simp[hm])
  have hb: @decide _ (dc its[m])=deq (aT z) (aT t):=by
   rw[sP]
   by_cases hz:z=t
   ·rw[decide_eq_true hz,decide_eq_true_eq];exact⟨m,by simp[hm],by rw[f1,hz]⟩
   ·rw[decide_eq_false hz,decide_eq_false_iff_not];rintro⟨i,e1,e2⟩;obtain⟨z2,a2,g1,g2,g3⟩:=hat i _ e1;rw[e2] at g1;cases g1;rw[f2] at g2;cases g2;have q:=qB (nH z) f3 g3<|nH t;rw[sP] at q;exact hz<|of_decide_eq_true q
  rw[hb,f2];exact aBt I.hok (aT z) (nH z) (nH t) f3 hy rfl ru (by rw[aCl];show X.A.units+1+1<AR;omega)
theorem aFp{L:List (List Int)}{t:List Int}{j:Nat}{apos cpos:Pos}(hu:X.A.units+2<AR)(h:PEd X sd o (.val (.lst<|L.map aT)))(hz:PEd X sd e (.val<|aT t))(hj:L[j]? =some t)(hn:∀m,m<j->∀z,L[m]? =some z->z≠t)
  (hst:AD (e::[]) X.env=(false,eval e X.env)::AD [] X.env:=by rfl) (hm:PE X (.Call (.Attribute o "index" apos) [e] [] cpos) (tBM X.K "list" (aKG X.K) (wE X o)<|xI (wE X e) aKl):=by exact aFO jP jQ aAx (aFb hu) gI (lZ gI pa_nil)):
  PEd X sd (.Call (.Attribute o "index" apos) [e] [] cpos) (.val<|.int (j:Int)):=.mk λσ F H S=>
 hm.to ((h σ F H S).imp fun v H1 ⟨F1,S1,s1,q1⟩=>by
  have q1':Rep X.K F1 (.lst<|L.map aT) v:=q1;simp only[ResOk,Rep] at q1;obtain⟨l,xs,rfl,hl,rl⟩:=q1;refine⟨.inl ⟨rfl,_,.of<|S1.sub _ _ hl⟩,(hz σ F1 H1 S1).imp λu H2 ⟨F2,S2,s2,q2⟩=> ?_⟩;have q2:Rep X.K F2 (aT t) u:=q2
  exact⟨u,L,t,j,rfl,Rep.mono S2.sub (Rep.mono s2 q1'),Rep.mono S2.sub q2,hj,hn,F2,S2,s1.trans s2,by simp only[ResOk,Rep]⟩)
noncomputable def sI(p:Int×Int)(ws:List Int):Nat:=(aHg (2^p.1.toNat) ws).toNat
theorem aHC{p:Int×Int}(hp:p∈bX){ws:List Int}(G:Fil p ws):aHg (2^p.1.toNat) ws=(sI p ws:Int)/\sI p ws<(bC p).length/\(bC p).getD (sI p ws) []=ws:=by have h:=aIj<|aKW p hp;obtain⟨a,b,c⟩:=aLZ h G.len G.wd;refine⟨by unfold sI;omega, ?_,c⟩;show _<(hW _ _).length;rw[h.len];exact b
theorem aHO{p:Int×Int}(hp:p∈bX)(hi:i<(bC p).length):sI p ((bC p).getD i [])=i:=by
 have h:=aIj<|aKW p hp;have hi':i<2^(p.1.toNat*p.2.toNat):=by rw[<-h.len];exact hi
 have:=(h.at_ i hi').2.2.1;unfold sI;show(aHg (2^p.1.toNat)<|(hW (2^p.1.toNat) p.2.toNat).getD i []).toNat=i;rw[this];exact dG i
theorem aMq{p:Int×Int}(hp:p∈bX){L:List SK}(S:aDe p L){row:List Nat}(h:∀t∈row,t<L.length):nV p (aKi p L row):=⟨aGh p L row,aGg hp S h⟩
def LtAt(A:BK)(s:BI)(x y:BH)(b:Bool):Prop:=∀ (prog:AI) (w:AL) (E:BH->BI->Prop) (Q:BH->BI->Prop),Q (.bool b) s->AG (AF prog w) A (richCompare .Lt x y) Q E s
inductive aML(A:BK)(s:BI)(fin:Bool):List (BH×BH)->Bool->Prop
 |nil:aML A s fin [] fin
 |eq {x y:BH}{r:List (BH×BH)}{b:Bool}:SeqAt.EqAt A.in1 s x y true->aML A s fin r b->aML A s fin ((x,y)::r) b
 |lt {x y:BH}{r:List (BH×BH)}{b:Bool}:SeqAt.EqAt A.in1 s x y false->LtAt A.in1 s x y b->aML A s fin ((x,y)::r) b
section
open PySem.SeqAt
open PySem.AutoSeq1 (wpAny_loadPart')
open PySem.MeetsSeq PySem.MeetsSeq2 PySem.MeetsSeq3
end
mutual
noncomputable def dlt:D->D->Bool
 |.int a,.int b=>decide<|a<b
 |.tup a,.tup b=>aOB a b
 |_,_=>false
noncomputable def aOB:List D->List D->Bool
 |[],[]=>false
 |[],_::_=>true
 |_::_,[]=>false
 |d::ds,e::es=>if deq d e=true then aOB ds es else dlt d e
end
mutual
noncomputable def cmp2:D->D->Bool
 |.int _,.int _=>true
 |.tup a,.tup b=>aOQ a b
 |_,_=>false
noncomputable def aOQ:List D->List D->Bool
 |[],_=>true
 |_::_,[]=>true
 |d::ds,e::es=>cmp2 d e&&aOQ ds es
end
section
variable {prog:AI}{w:AL}{A:BK}{E:BH->BI->Prop}{s:BI}
open HT
end
noncomputable def kY(ws:List Int):List Key:=ws.map Sum.inl
theorem tN(ws:List Int):D.tup ((kY ws).map kD)=aT ws:=by unfold kY aT;rw[aX];rfl
theorem aBz{a b:List Int}(h:kY a=kY b):a=b:=by have:=congrArg (jO λk:Key=>match k with | .inl i=>i | .inr _=>(0:Int)) h;unfold kY at this;rw[aX,aX] at this;have e:((λk:Key=>match k with | .inl i=>i | .inr _=>(0:Int)) ∘ Sum.inl)=id:=rfl;rw[e,oA,oA] at this;exact this
theorem aEz{f:Nat->Bool}{A:List (List Int)}:(rM f A).isNone=true↔∀j,j<A.length->f j=false:=by
 constructor
 ·intro h j hj;cases e:f j with
  |false=>rfl
  |true=>exfalso;unfold rM at h;rw[Option.isNone_map] at h;have:=nL.mp (zO.mp h) j<|bB.mpr hj;exact this e
 ·intro h;rw[xN h];rfl
theorem aCe{ks:List (List Int)}(h:ks.Nodup):(ks.map kY).Nodup:=List.Pairwise.map kY (λa b q e=>q<|aBz e) h
noncomputable def shp{α β:Type}(n:β)(g:α->β):List Bool->List α->List β
 |[],_=>[]
 |false::m,as=>n::shp n g m as
 |true::m,[]=>n::shp n g m []
 |true::m,a::as=>g a::shp n g m as
theorem vM{α β:Type}(n:β)(g:α->β):∀ (m:List Bool) (as:List α),(shp n g m as).length=m.length
 |[],_=>rfl
 |false::m,as=>by simp[shp,vM n g m as]
 |true::m,[]=>by simp[shp,vM n g m []]
 |true::m,a::as=>by simp[shp,vM n g m as]
theorem qQ{α β:Type}(n:β)(g:α->β):∀ (m:List Bool) (as:List α),shp n g (m++[false]) as=shp n g m as++[n]
 |[],as=>by cases as<;>rfl
 |false::m,as=>by simp[shp,qQ n g m as]
 |true::m,[]=>by simp[shp,qQ n g m []]
 |true::m,a::as=>by simp[shp,qQ n g m as]
theorem tY{α β:Type}(n:β)(g:α->β)(a:α):∀ (m:List Bool) (as:List α),as.length=m.count true->shp n g (m++[true]) (as++[a])=shp n g m as++[g a]
 |[],[],_=>rfl
 |[],b::as,h=>by simp at h
 |false::m,as,h=>by simp[shp,tY n g a m as<|by simpa using h]
 |true::m,[],h=>by simp at h
 |true::m,b::as,h=>by simp[shp,tY n g a m as<|by simpa using h]
theorem uZ{α β γ:Type}(n:β)(g:α->β)(k:γ->α):∀ (m:List Bool) (as:List γ),shp n g m (as.map k)=shp n (g ∘ k) m as
 |[],_=>rfl
 |false::m,as=>by simp[shp,uZ n g k m as]
 |true::m,[]=>by have:=uZ n g k m [];simp only[dD] at this;simp[shp,this]
 |true::m,a::as=>by simp[shp,uZ n g k m as]
theorem aAU{α β:Type}(n:β)(g:α->β)(k:Option α->β)(h0:k none=n)(h1:∀a,k (some a)=g a):∀os:List (Option α),shp n g (os.map eK) (os.filterMap id)=os.map k
 |[]=>rfl
 |none::os=>by simp[shp,aAU n g k h0 h1 os,h0]
 |some a::os=>by simp[shp,aAU n g k h0 h1 os,h1]
theorem aAX{α:Type}:∀os:List (Option α),(os.filterMap id).length=(os.map eK).count true
 |[]=>rfl
 |none::os=>by simpa using aAX os
 |some a::os=>by simp[aAX os]
def GO(K:aB)(m:List Bool)(l:BJ)(ls:List BJ)(dss:List (List D)):V->Hp->Hp->Prop:=λv F H=>v=.ref l/\H l=some (.lst<|shp V.non V.ref m ls)/\InD K F H ls dss
noncomputable def ooR(K:aB)(m:List Bool)(dss:List (List D)):R:=.ox λv as F H=>∃l ls,as=l::ls/\GO K m l ls dss v F H
variable {m:List Bool}
theorem vH{G:Hp}:∀ {m:List Bool}{as:List BJ}{dss:List (List D)},InD K G G as dss->RepL K G (shp D.non D.lst m dss) (shp V.non V.ref m as)
 |[],_,_,_=>.nil
 |false::m,as,dss,h=>.cons (by simp only[Rep])<|vH (m:=m) h
 |true::m,[],[],h=>.cons (by simp only[Rep])<|vH (m:=m) h
 |true::m,[],_::_,h=>h.elim
 |true::m,_::_,[],h=>h.elim
 |true::m,a::as,ds::dss,h=>by obtain⟨⟨xs,e,r⟩,h2⟩:=h;refine .cons ?_<|vH (m:=m) h2;simp only[Rep];exact⟨a,xs,rfl,e,r⟩
theorem aJP(h0:∀a∈l::ls,F a=none)(h1:H l=some (.lst<|shp V.non V.ref m ls))(h2:InD K F H ls dss):Rep K (inF F H (l::ls)) (.lst<|shp D.non D.lst m dss) (.ref l):=by
 simp only[Rep];refine⟨l,_,rfl, ?_,vH<|h2.mono2 (aEm h0) λa ha ob e=> ?_⟩
 ·rw[aBI aK];exact h1
 ·rw[aBI<|aO _ ha];exact e
theorem PEd.valO(h:PEd X sd e (ooR X.K m dss)):PEd X sd e (.val (.lst<|shp D.non D.lst m dss)):=.mk λσ F H S=>(h σ F H S).imp λv H' ⟨F',S',s,as,nd,q,g⟩=>by
 obtain⟨l,ls,rfl,rfl,g1,g2⟩:=g F' H' (Same.refl _) λ_ _ _ z=>z
 obtain⟨S2,s2⟩:=S'.inN (λa ha=>(q a ha).1) λa ha=>(q a ha).2.2
 exact⟨_,S2,s.trans s2,aJP (λa ha=>(q a ha).1) g1 g2⟩
theorem aCg{elt:Expr}{ifs:List Expr}{scope:Scope}{N M:List Str}{cap:List (Option Nat)}{sc:Scope}{Tb:D->List Slot}(p:D->Bool)(f:D->Option (List D))(hfl:∀d es,f d=some es->pY es=true)
  (hi:PId X (unO sd) PT0 tg iter ds) (hl:ds.length<=1000)
  (hsc:X.env.scope=sc) (hcn:mE scope sc=true) (hM:X.N=M) (hcap:lC N M scope sc cap=true) (hk:scope.kind=.function)
  (hg:∀cl C fp s H d,d∈ds->PGd (cxB X N scope cl C fp s H) (jE cap sd) tg d (Tb d))
  (hle:∀d,d∈ds->Le (Tb d) (jE cap sd))
  (ht:∀cl C fp s H d,d∈ds->(ifs=[]/\p d=true)\/∃c,ifs=[c]/\PTd (cxB X N scope cl C fp s H) (Tb d) c (p d))
  (he:∀cl C fp s H d,d∈ds->p d=true->PEd (cxB X N scope cl C fp s H) (Tb d) elt (match f d with|none=>.val .non|some es=>.own es))
  (hc:X.calm=true:=by rfl) (hs:∀x,Ag iter X.env x=pure x:=by intro _;rfl):
  PEd X sd (.ListComp elt [⟨tg,iter,ifs,0⟩] scope pos) (ooR X.K (((ds.filter p).map f).map eK)<|((ds.filter p).map f).filterMap id):=.mk λσ F H S=>by
 refine aBK S trivial ?_;have S0:StF X.K X.B₀ F F σ (unO sd):=⟨S.base,Same.refl _,S.smp.sub S.sub,qT S.slots,by rw[iE];exact eD⟩;intro pins s I
 have nm:∀y∈scope.names,(y.2=NameKind.free->sc.names.lookup y.1=some NameKind.cell)/\(y.2=NameKind.local->scope.names.lookup y.1=some NameKind.local):=λy hy=>by have q:=bN.mp hcn y hy;simp only[bH,jT,iO,beq_eq_false_iff_ne,ne_eq,beq_iff_eq] at q;exact⟨λe=>q.1.1.resolve_left λz=>z e,λe=>q.2.resolve_left λz=>z e⟩
 have fre:∀y∈scope.names,y.2=.free->∃c,X.env.cells.lookup y.1=some c:=λy hy e=>I.ok.has y.1 (.inl<|by show X.env.scope.names.lookup y.1=_;rw[hsc];exact(nm y hy).1 e)
 rw[eval_ListComp];refine Ar (use:=none) rfl hs (oR fre) hk (λy hy=>(nm y hy).2) ?_;refine thn (hi σ F F S0 pins s I) λv s1 h1=>thn h1 λitv s2 h2=> ?_
 obtain⟨it,fp,tn,J,H2,e,I2,T,st2,f2,F1,S1,s1',itd⟩:=h2;subst e
 have S1b:StF X.K H2 H2 H2 (uA cap σ) (jE cap sd):=⟨Same.refl _,Same.refl _,S1.smp,by
  have q:=sM (sd:=unO sd) (H':=H2) S1.slots S1.sub cap;rw[wR] at q
  exact q,by rw[mJ];exact eD⟩
 refine wK (N:=N) (cap:=cap) (g:=λv σ2 H3 Q=>∀cl C,wG (cxB X N scope cl C fp s2 H2) tg v σ2 H3 Q) (tt:=λσ2 H3 Q=>∀cl C,aKm (cxB X N scope cl C fp s2 H2) ifs σ2 H3 Q) (te:=λσ2 H3 Q=>∀cl C,wE (cxB X N scope cl C fp s2 H2) elt σ2 H3 Q)
  hc hsc hcn (by rw[hM];exact hcap) hk I2 T st2 f2 (λcl C pi s3 σ3 H3 v u Q I3 ru q=>q cl C pi s3 u I3 ru) (λcl C pi s3 σ3 H3 Q I3 q=>q cl C pi s3 I3) (λcl C pi s3 σ3 H3 Q I3 q=>q cl C pi s3 I3)
  (λi m ys σb H3=>m=ds.length-i/\i<=ds.length/\∃Fb as,StF X.K H2 Fb H3 σb (jE cap sd)/\ys=shp V.non V.ref ((((ds.take i).filter p).map f).map eK) as/\as.Nodup/\(∀a∈as,H2 a=none)/\InD X.K Fb Fb as ((((ds.take i).filter p).map f).filterMap id)) ds.length
  ⟨by simp,bI _,H2,[],S1b,rfl,eD,λa ha=>(by cases ha),(show InD X.K H2 H2 [] [] from trivial)⟩ _ ?_
 rintro i m ys σb H3 ⟨rfl,hil,Fb,as,Sb,rfl,nda,fra,rl⟩;have sF1:Same F1 Fb:=λb o g=>Sb.base _ _<|S1.sub _ _ g
 obtain⟨g1,g2,g3⟩:=itd Fb H3 sF1 Sb.sub Sb.smp trivial i
 by_cases hlt:i<ds.length
 ·have hd:ds[i]? =some ds[i]:=by simp[hlt]
  have hm:ds[i]∈ds:=eU hlt;have cnt:as.length=((((ds.take i).filter p).map f).map eK).count true:=by rw[rl.len,aAX]
  have ylen:(shp V.non V.ref ((((ds.take i).filter p).map f).map eK) as).length<=i:=by rw[vM,aA,aA];exact cP (lE _ _) (by simp;omega)
  refine .inr ⟨g1 hlt,gO<|by omega,λys' σ' H'=>∃Fb' as',StF X.K H2 Fb' H' σ' (jE cap sd)/\ys'=shp V.non V.ref ((((ds.take<|i+1).filter p).map f).map eK) as'/\as'.Nodup/\(∀a∈as',H2 a=none)/\InD X.K Fb' Fb' as' ((((ds.take<|i+1).filter p).map f).filterMap id),λys' σ' H' ⟨Fb',as',q⟩=>⟨ds.length-(i+1),by omega,rfl,hlt,Fb',as',q⟩,λx H4 y cl C=> ?_⟩;obtain⟨F4,s4,rp,up⟩:=g3 x H4 ds[i] hd y;refine(hg cl C fp s2 H2 _ hm σb F4 H4 x (up _ _ _ Sb) rp).imp λσ5 H5 ⟨F5,S5,s5⟩ cl2 C2=> ?_
  have rl5:=rl.mono<|s4.trans s5
  have fin:∀ (b:Bool) (H6:Hp) (F6:Hp),b=p ds[i]->StF X.K H2 F6 H6 σ5 (Tb ds[i])->Same F5 F6->if b=true then(∀cl C,wE (cxB X N scope cl C fp s2 H2) elt σ5 H6 λv H5=>∃Fb' as',StF X.K H2 Fb' H5 σ5 (jE cap sd)/\(shp V.non V.ref ((((ds.take i).filter p).map f).map eK) as++[v])=shp V.non V.ref ((((ds.take<|i+1).filter p).map f).map eK) as'/\as'.Nodup/\(∀a∈as',H2 a=none)/\InD X.K Fb' Fb' as' ((((ds.take<|i+1).filter p).map f).filterMap id)) else ∃Fb' as',StF X.K H2 Fb' H6 σ5 (jE cap sd)/\shp V.non V.ref ((((ds.take i).filter p).map f).map eK) as=shp V.non V.ref ((((ds.take<|i+1).filter p).map f).map eK) as'/\as'.Nodup/\(∀a∈as',H2 a=none)/\InD X.K Fb' Fb' as' ((((ds.take<|i+1).filter p).map f).filterMap id):=λb H6 F6 eb S6 s6=>by
   rw[kG p hd,<-eb];cases b with
   |false=>exact aIv ⟨F6,as,S6.le<|hle _ hm,by simp,nda,fra,by simpa using rl5.mono s6⟩
   |true=>
    have he':=he cl C fp s2 H2 _ hm eb.symm;have rl6:=rl5.mono s6;simp only[if_true,aI,aR,dD,List.filterMap_append];cases hf:f ds[i] with
    |none=>
     intro cl3 C3;have he3:=he cl3 C3 fp s2 H2 _ hm eb.symm;rw[hf] at he3;refine(he3 σ5 F6 H6 S6).imp λv H7 ⟨F7,S7,s7,q⟩=> ?_
     simp only[ResOk,Rep] at q;subst q;exact⟨F7,as,S7.le<|hle _ hm,(qQ V.non V.ref _ as).symm,nda,fra,by simpa using rl6.mono s7⟩
    |some es0=>
     intro cl3 C3;have he3:=he cl3 C3 fp s2 H2 _ hm eb.symm;rw[hf] at he3;refine(he3 σ5 F6 H6 S6).imp λv H7 ⟨F7,S7,s7,l,xs,e,n,q,rlx,no⟩=> ?_
     subst e;obtain⟨S8,s8⟩:=S7.freeze q n no;have rl7:=rl6.mono s7
     have nl:l∉as:=λhm=>by obtain⟨xs',e⟩:=rl7.of l hm;rw[n] at e;cases e
     refine⟨_,as++[l],S8.le<|hle _ hm,(tY V.non V.ref l _ as cnt).symm, ?_,λa ha=> ?_, ?_⟩
     ·rw[cX];refine⟨nda,by simp,λb hb c hc e=> ?_⟩;rw[bA.mp hc] at e;subst e;exact nl hb
     ·rcases aJ.mp ha with ha|ha
      ·exact fra a ha
      ·rw[bA.mp ha];cases g:H2 l with
       |none=>rfl
       |some o=>have:=s7 _ _ (s6 _ _<|s5 _ _ (s4 _ _<|Sb.base _ _ g));rw[n] at this;cases this
     ·exact(rl7.mono s8).app ⟨⟨xs,cD,rlx.mono s8⟩,trivial⟩
  rcases ht cl2 C2 fp s2 H2 _ hm with⟨e1,e2⟩|⟨c,e1,q⟩
  ·subst e1;exact sJ (fin true H5 F5 e2.symm S5<|Same.refl _)
  ·subst e1;exact xT<|(q σ5 F5 H5 S5).imp λb H6 ⟨eb,F6,S6,s6⟩=>fin b H6 F6 eb S6 s6
 ·have e:i=ds.length:=by omega
  subst e;refine .inl ⟨g2<|aG _,λD C s' hD hC hDC h0 hL hcc hpp hst ⟨m',ns'⟩ J'=>⟨m',ns',λh' sb=> ?_⟩⟩;have J2:Inv X pins σ (upd H3 D (.lst<|shp V.non V.ref ((((ds.take ds.length).filter p).map f).map eK) as)) {s' with heap:=h',toks:=s'.toks}:=J'.turned (it:=C) (λb o hb g=>sb.extBut b o hb g) (by rw[bU<|Ne.symm hDC];exact hC) hL (.inr h0) hcc hpp;have fx:∀a∈as,∃xs,Fb a=some (.lst xs):=rl.of
  have neD:∀a∈as,a≠D:=λa ha=>by obtain⟨xs,e⟩:=fx a ha;exact cA (Sb.sub _ _ e) hD
  have rl':InD X.K Fb Fb as (((ds.filter p).map f).filterMap id):=by simpa using rl
  refine⟨.ref D,_,J2,rfl,aHj Fb as,λb o g=> ?_,λb o g=> ?_,aJn Sb.smp D,D::as,fB.mpr ⟨λhm=>neD D hm rfl,nda⟩,λa ha=> ?_,λF' H' sF k=>⟨D,as,rfl,rfl,by rw[k D aK _ cD,fS], ?_⟩⟩
  ·have g2:=S1.sub _ _<|s1' _ _ g;rw[sL λhm=>by rw[fra b hm] at g2;cases g2];exact Sb.base _ _ g2
  ·have nb:b∉as:=λhm=>by rw[uW hm] at g;cases g
   rw[sL nb] at g;have g3:=Sb.sub _ _ g;rw[bU<|cA g3 hD];exact g3
  ·rcases aV.mp ha with rfl|ha
   ·refine⟨?_,⟨_,cD,trivial⟩,by simp[cF]⟩
    by_cases hm:a∈as
    ·exact uW hm
    ·rw[sL hm];exact Sb.sub.free hD
   ·obtain⟨xs,e⟩:=fx a ha;exact⟨uW ha,⟨.lst xs,by rw[bU<|neD a ha];exact Sb.sub _ _ e,trivial⟩,by simp[cF]⟩
  ·refine rl'.out (λes he=> ?_) nda fx sF λa ha ob e=>k a (aO _ ha) ob (by rw[bU<|neD a ha];exact Sb.sub _ _ e)
   obtain⟨o,ho,rfl⟩:=iG.mp he;obtain⟨d,_,hd⟩:=aH.mp ho;exact hfl d _ hd
noncomputable def mkM(W:List (Option (List<|List Int))):List Bool:=W.map eK
noncomputable def mkL(W:List (Option (List<|List Int))):List (List D):=(W.filterMap id).map<|jO aT
theorem yM(W:List (Option (List<|List Int))):shp D.non D.lst (mkM W) (mkL W)=W.map wsD:=by unfold mkM mkL;rw[uZ];exact aAU _ _ wsD rfl (λ_=>rfl) W
theorem aDC(W:List (Option (List<|List Int))):(W.map (lA<|jO aT)).map eK=mkM W:=by
 unfold mkM;rw[aX];refine cI λo _=> ?_
 cases o<;>rfl
theorem vD:∀W:List (Option (List<|List Int)),(W.map (lA<|jO aT)).filterMap id=mkL W
 |[]=>rfl
 |none::W=>by have:=vD W;simpa[mkL] using this
 |some L::W=>by have:=vD W;simpa[mkL] using this
noncomputable def aCw(h:BL)(a:BJ):BL:=h.update a λo=>{o with data:=.freed}
noncomputable def rA(h:BL)(S:List BJ):BL:=S.foldl aCw h
theorem aBm(h:BL){a b:BJ}(ne:b≠a):(aCw h a).get? b=h.get? b:=eV _ _<|Ne.symm ne
theorem aCP(h:BL)(a:BJ):(aCw h a).get? a=none:=by
 cases h;simp only[aCw,Heap.update,Heap.get?,aCW,if_true]
 split
 ·rfl
 ·rename_i hx;generalize hq:lA _ _=q at hx ⊢;cases q with
  |none=>rfl
  |some o=>obtain⟨o',h1,h2⟩:=cS.mp hq;exact(hx _ _ _<|by rw[<-h2]).elim
theorem mP:∀ {S:List BJ}{h:BL}{a:BJ},a∉S->(rA h S).get? a=h.get? a
 |[],_,_,_=>rfl
 |b::S,h,a,hn=>by show(rA (aCw h b) S).get? a=_;rw[mP λz=>hn<|aO _ z,aBm h (λz:a=b=>hn<|z▸aK)]
theorem mB:∀ {S:List BJ}{h:BL}{a:BJ},a∈S->(rA h S).get? a=none
 |b::S,h,a,hm=>by
  show(rA (aCw h b) S).get? a=none
  by_cases hs:a∈S
  ·exact mB hs
  ·have e:a=b:=(aV.mp hm).resolve_right hs;subst e;rw[mP hs,aCP]
theorem pR{S:List BJ}{h:BL}{a:BJ}{o:BM}(q:(rA h S).get? a=some o):a∉S/\h.get? a=some o:=by
 have hn:a∉S:=λz=>by rw[mB z] at q;cases q
 exact⟨hn,by rw[mP hn] at q;exact q⟩
theorem qV{h base base':BL}:∀ {l:List Env},h.FunFrames base l->(∀b∈l.filterMap (·.frame),base'.get? b=none)->h.FunFrames base' l
 |[],_,_=>trivial
 |env::rest,hl,hb=>by
  obtain⟨hk,⟨L,o,hf,hn,ho,hd⟩,hr⟩:=hl;have e:(env::rest).filterMap (·.frame)=L::rest.filterMap (·.frame):=by rw[fN,hf]
  rw[e] at hb;exact⟨hk,⟨L,o,hf,hb L aK,ho,hd⟩,qV hr λb hm=>hb b<|aO _ hm⟩
theorem vY{h:BL}{a:BJ}{o:HO}(x:ObjOk P w H h a o):∃ob,h.get? a=some ob:=by
 cases o with
 |lst xs=>obtain⟨_,_,_,_,e⟩:=x;exact⟨_,e⟩
 |tup xs=>obtain⟨_,_,_,ob,e,_⟩:=x;exact⟨_,e⟩
 |dK kvs=>obtain⟨_,_,_,_,o,_,_,e,_⟩:=x;exact⟨_,e⟩
 |dT kvs=>obtain⟨_,_,_,_,o,_,_,e,_⟩:=x;exact⟨_,e⟩
 |set S n=>obtain⟨o,_,_,_,e,_⟩:=x;exact⟨_,e⟩
 |ins C dx fs=>obtain⟨_,_,_,e,_⟩:=x;exact⟨_,e⟩
 |own y=>obtain⟨_,e⟩:=x;exact⟨_,e⟩
 |xd fs=>obtain⟨_,⟨_,_,_,e,_⟩,_⟩:=x;exact⟨_,e⟩
 |rng lo hi=>obtain⟨_,_,_,e⟩:=x;exact⟨_,e⟩
 |frz ob u=>obtain⟨e,_⟩:=x;exact⟨_,e⟩
 |tbl ps=>exact⟨_,(show h.get? a=some _ from x)⟩
 |met f y=>exact⟨_,(show h.get? a=some _ from x)⟩
 |ext φ=>obtain⟨_,⟨_,e⟩,_⟩:=x;exact⟨_,e⟩
structure Exc(h0 h:BL)(H:Hp)(a T:BJ)(cls:BH):Prop where
 free:H a=none
 new:h0.get? a=none
 freeT:H T=none
 newT:h0.get? T=none
 obj:∃oe vs oT ts a0,h.get? a=some oe/\(oe.cls=cls/\vs[0]? =some a0)/\oe.data=.fields vs/\vs[1]? =some (.ref T)/\T≠a/\h.get? T=some oT/\oT.data=.fields ts/\ts[3]? =some .none
noncomputable def CX1(P:AI)(w:AL)(cls:BH):CXT:=λouter H s E e s'=>∃a T H',e=.ref a/\s'.os=s.os/\AllBare s'.gens/\Un (frs outer) [] H H' s.heap s'.heap/\HOk P w H' s'.heap/\Exc s.heap s'.heap H' a T cls/\E (.ref a) (some a) H'
variable {pins:List (BJ×BM)}{h':BL}{a T:BJ}{cls a0:BH}{S:List BJ}{E:XK}
theorem aDO(I:Inv X pins σ H s)(hex:X.ex=[])(hst:X.stack=X.env::X.outer/\X.env.frame=some X.env.locals)(hS:∀b∈S,H b=none/\X.s₀.heap.get? b=none)(ha:a∈S)(L:Heap.LeftW (rA s.heap<|frs X.stack++S) X.stack a cls a0 s.heap h')(hE:E (.ref a) (some a) H):
  CX1 X.prog X.w cls X.outer X.H₀ X.s₀ E (.ref a) {s with heap:=h'}:=by
 obtain⟨k1,k2,⟨oe,vs,T,oT,ts,he,hc,hd,h1,hnT,hTe,hT,hdT,h3⟩,k4⟩:=L
 have fr:frs X.stack=X.env.locals::frs X.outer:=by unfold frs;rw[hst.1,fN,hst.2]
 have out:∀b o,X.s₀.heap.get? b=some o->b∉frs X.outer->b∉frs X.stack++S:=λb o q hb hm=>by
  rcases aJ.mp hm with hm|hm
  ·rw[fr] at hm
   rcases aV.mp hm with e|hm
   ·have:=I.ok.above;have lt:=aM q;rw[e] at lt;exact absurd lt<|uI.mpr this
   ·exact hb hm
  ·rw[(hS b hm).2] at q;cases q
 have stay:∀b o,b∉frs X.stack++S->s.heap.get? b=some o->h'.get? b=some o:=λb o hb q=>k1 b o (by rw[mP hb];exact q)
 have nex:∀b,b∉X.ex:=λb hb=>by rw[hex] at hb;cases hb
 have slot:∀b o,X.s₀.heap.get? b=some o->X.H₀ b=none->b∈frs X.outer->∃sl,h'.get? b=some {o with slots:=sl}:=λb o q n hb=>by obtain⟨sl,q1⟩:=I.base.slot b o q n hb<|nex b;obtain⟨_,o',q2,nf⟩:=I.ok.funs.mem hb;rw[q] at q2;cases q2;obtain⟨sl2,q3⟩:=k4 b _ q1 nf;exact⟨sl2,q3⟩
 have tr:∀b u,H b=some u->b∉frs X.stack++S:=λb u e hm=>by
  rcases aJ.mp hm with hm|hm
  ·rw[I.env0.frf b hm] at e;cases e
  ·rw[(hS b hm).1] at e;cases e
 have Tn:s.heap.get? T=none\/T∈S:=by
  by_cases hm:T∈frs X.stack++S
  ·rcases aJ.mp hm with hm|hm
   ·obtain⟨_,o,q,nf⟩:=k2.mem hm;rw[hT] at q;cases q;exact(nf ts hdT).elim
   ·exact .inr hm
  ·rw[mP hm] at hnT;exact .inl hnT
 refine⟨a,T,H,rfl,I.os,I.bare,⟨λb o q n hb _=>stay b o (out b o q hb) (I.base.keep b o q n hb<|nex b),λb o q n hb _=>slot b o q n hb,λb o q n _=>I.base.free b o q n<|nex b,λb o q _=> ?_,I.base.tups,I.base.frzs,I.base.tbls⟩,λb u e=> ?_,⟨(hS a ha).1,(hS a ha).2, ?_, ?_,oe,vs,oT,ts,a0,he,hc,hd,h1,hTe,hT,hdT,h3⟩,hE⟩
 ·by_cases hb:b∈frs X.outer
  ·obtain⟨sl,q2⟩:=slot b o q (I.ok.frf b hb) hb;exact⟨_,q2⟩
  ·obtain⟨o1,q1⟩:=I.base.there b o q<|nex b;exact⟨o1,stay b o1 (out b o q hb) q1⟩
 ·refine(I.hok b u e).stay (λc v hc q=>stay c v ?_ q) (λ_ q=>q) λ_ _ q=>q
  rcases hc with z|z
  ·rw[z];exact tr b u e
  ·exact tr c _ z
 ·rcases Tn with q|q
  ·cases g:H T with
   |none=>rfl
   |some u=>obtain⟨ob,q2⟩:=vY<|I.hok T u g;rw[q] at q2;cases q2
  ·exact(hS T q).1
 ·rcases Tn with q|q
  ·cases g:X.s₀.heap.get? T with
   |none=>rfl
   |some o=>obtain⟨o1,q1⟩:=I.base.there T o g<|nex T;rw[q] at q1;cases q1
  ·exact(hS T q).2
theorem aEA{args:List BH}{Ex:BH->BI->Prop}(I:Inv X pins σ H s)(hex:X.ex=[])(hst:X.stack=X.env::X.outer/\X.env.frame=some X.env.locals)(m:Heap.MadeExcOf s.heap h' a cls args)(hE:E (.ref a) (some a) H):
  AG (AF X.prog X.w) X.A (leaving X.env<|.ref a) (λ_ s''=>CX1 X.prog X.w cls X.outer X.H₀ X.s₀ E (.ref a) s'') Ex {s with heap:=h'}:=by
 obtain⟨t,he,ht,_⟩:=m.there;have I':Inv X pins σ H {s with heap:=h'}:=I.kept (t':=s.toks) m.keeps
 have Ha:H a=none:=by
  cases g:H a with
  |none=>rfl
  |some u=>obtain⟨ob,q⟩:=vY<|I.hok a u g;rw[m.new] at q;cases q
 have sa:X.s₀.heap.get? a=none:=by
  cases g:X.s₀.heap.get? a with
  |none=>rfl
  |some o=>obtain⟨o1,q1⟩:=I.base.there a o g (λhb=>by rw[hex] at hb;cases hb);rw[m.new] at q1;cases q1
 have hS:∀b∈[a],H b=none/\X.s₀.heap.get? b=none:=λb hb=>by rw[bA.mp hb];exact⟨Ha,sa⟩
 have fu:Heap.FunFrames h' (rA h'<|frs X.stack++[a]) X.stack:=qV I'.env0.funs λb hb=>mB<|aU _ hb
 have fm:=I'.ok.frames;rw[hst.1] at fm;have fu2:=fu;rw[hst.1] at fu2;refine wpAny_leaving_firstW (base:=rA h'<|frs X.stack++[a]) fm (by rw[hst.1];exact fu2) hst.2 he (λb o q=>(pR q).2) (mB (aC _<|dN a)) rfl rfl rfl λh'' L=> ?_
 rw[<-hst.1] at L;exact aDO I' hex hst hS (dN a) L hE
end DL
namespace DL
open PySem PySem.Spec PySem.Calls PySem.W PyProof.Rows Builtin Builtin.Getset_descriptor Builtin.ObjectAttr
variable {prog:AI}{w:AL}{A:BK}{E:BH->BI->Prop}{h:BL}{g:Array GenState}{d:Drawn}{t:Nat}{os:OsState}{a C:BJ}{K:Frag}
structure XCls(K:Frag)(C:BJ):Prop where
 ha:findIn K (.ref C) "__class__"=some (some<|.builtin "object.__class__")
 hm:mroIn K C (.type "object")=some true
 hs:subIn K (.ref C) (.type "BaseException")=some true
 hg:findIn K (.ref C) "__getattribute__"=some (some<|.builtin "BaseException.__getattribute__")
 hn:findIn K (.ref C) "__getattr__"=some none
 hc:(clsIn K C).isSome=true
end DL
namespace DL
open PySem PySem.Spec PyProof.Rows L2
noncomputable def aMT:List BH:=[.type "ValueError",.type "Exception",.type "BaseException",.type "object"]
theorem aFd{K:aB}{h:BL}{C:BJ}{bmB:List BH}{newId:String}(X:K.In h)(q:lB K C bmB newId=true):
  ∃bm N nm q bs hdct sn sub ab col dd k0 k1 k2 k3 k5 mN,h.get? C=some (excClassObj nm q C N bs bm hdct sn sub ab col dd k0 k1 k2 k3 k5 newId)/\h.Ns N mN/\mN "__init__"=none/\OwnTail h bmB bm:=by
 unfold lB at q
 split at q
 ·rename_i dd cd sl ho
  split at q
  ·rename_i C' bm k0 k1 k2 k3 n k5 hm hs;simp only[bH,beq_iff_eq,iO] at q;obtain⟨⟨⟨⟨⟨rfl,rfl⟩,hdel⟩,ht⟩,hok⟩,hni⟩:=q;obtain⟨nm,bs,mro,ns,qn,hd,sn,sub,ab,col,del⟩:=cd;dsimp only at hm hdel hok hni;subst hm hdel
   have hsl:sl= #[k0,k1,k2,k3,some<|.builtin n,k5]:=by obtain⟨l⟩:=sl;simp only at hs;rw[hs]
   subst hsl;exact⟨bm,ns,nm,qn,bs,hd,sn,sub,ab,col,dd,k0,k1,k2,k3,k5,_,X _ _ ho,.of_isNs<|PySem.W.isNs_of_in X hok,PySem.W.nsMap_none_of_in X hok hni,PySem.W.tail_of_in X ht⟩
  ·cases q
 ·cases q
def Takes(X:Cx)(cls:BH)(sd:List Slot):Prop:=∀ (pins:List (BJ×BM)) (σ:St) (F H:Hp) (s:BI) (a T:BJ),Inv X pins σ H s->StF X.K X.B₀ F H σ sd->Exc X.s₀.heap s.heap H a T cls->(∀p∈X.pn++pins,p.1≠a/\p.1≠T)->X.xe (.ref a) s
def aBP(X:Cx)(cls:BH)(sd:List Slot):Prop:=∀ (pins:List (BJ×BM)) (σ:St) (F H:Hp) (s:BI) (h':BL) (a:BJ) (args:List BH),Inv X pins σ H s->StF X.K X.B₀ F H σ sd->Heap.MadeExcOf s.heap h' a cls args->X.xe (.ref a) {s with heap:=h'}
section
variable {P:AI}{w:AL}{K:aB}{mg:Str->Option BH}{base:BL}{N:List Str}{qual:Str}{scope:Scope}{f:BJ}{cdv:BH}{A:BK}{outer:List Env}{s:BI}{H:Hp}{E:XK}{cls:BH}{sd:List Slot}
theorem xJ(hE:∀a H',Same H H'->Smp H'->E (.ref a) (some a) H'):aBP (oM (CX1 P w cls) P w K mg base N qual scope f cdv A outer s H E) cls sd:=λpins σ F H' s' h' a args I S m=>aEA (X:=oM (CX1 P w cls) P w K mg base N qual scope f cdv A outer s H E) (E:=E) I rfl ⟨rfl,rfl⟩ m<|hE a H' (λb o e=>S.sub _ _<|S.base _ _ e) S.smp
end
variable {X:Cx}{sd:List Slot}{e a b c:Expr}{es:List Expr}{pos:Pos}{d:D}{ds:List D}{E:jM}
theorem aAs{x:Str}{np cpos:Pos}{C:BJ}(hg:Gl X x)(hm:X.mg x=some (.ref C))(hx:lB X.K C aMT "ValueError.__new__"=true)(ht:aBP X (.ref C) sd)(he:PAd X sd (e::es) (ds.map R.val))(hl:ds.length<=1000)
  (hc:X.calm=true:=by rfl) (hdb:(x==("__debug__":Str))=false:=by decide) (hst:AD (e::es) X.env=(false,eval e X.env)::AD es X.env:=by rfl) (hpl:(Ak cpos<|AD es X.env).any (·.1)=false:=by rfl):
  PSd1 X sd (.Raise (some<|.Call (.Name x np) (e::es) [] cpos) none pos) E:=.mk λσ F H S pins s I=>by
 obtain⟨bm,Nn,nm,q,bs,hdct,sn,sub,ab,col,dd,k0,k1,k2,k3,k5,mN,hC,hN,hni,T⟩:=aFd (h:=X.base) I.ok.mod.kin hx
 refine wpAny_Raise_call_subT (C:=C) (nm:=nm) (q:=q) (N:=Nn) (bs:=bs) (bm:=bm) (hdct:=hdct) (sn:=sn) (sub:=sub) (ab:=ab) (col:=col) (dd:=dd) (k0:=k0) (k1:=k1) (k2:=k2) (k3:=k3) (k5:=k5) (bmB:=aMT)
  yV (mN:=mN) (T.hasType yV.hasBase) (I.ok.hd hc) (by rw[hst];show(false||(Ak cpos<|AD es X.env).any (·.1))=false;rw[hpl];rfl) hni (aAG I hg hm ⟨rfl, ?_⟩ hdb)
 have hA:=he σ F H S cpos pins s I;rw[hst] at hA ⊢;refine Calls.evalArgs_plain<|AW hA (λus s2 ⟨vs,H2,I2,r2,F2,S2,s2',q2⟩=> ?_) λ_ _ y=>y
 have lv:us.length<=AN:=by rw[<-r2.length,q2.vals.len];exact cZ<|gO hl
 exact⟨rfl,lv,I2.bk _ _ hC,hN.keeps I2.bk,T.keeps I2.bk,λh' e m=>ht pins σ F2 H2 s2 h' e us I2 S2 m⟩
structure PEx(X:Cx)(sd:List Slot)(e:Expr):Prop where
 run:∀ (σ:St) (F H:Hp),StF X.K X.B₀ F H σ sd->wE X e σ H (λ_ _=>False)
theorem aGj(i:Nat){x:Str}{p:Pos}(hN:X.N.Nodup)(hi:X.N[i]? =some x)(hx:Loc X.env.scope x)(h:PEx X sd e)(hs:Af e (some<|.Name x p) pos.line X.env=pure false:=by rfl)
  (hf:X.fn x=true\/X.env.scope.names.lookup x=some .local:=by first|exact .inl rfl|exact .inr rfl|assumption):PSd1 X sd (.Assign [.Name x p] e pos) E:=.mk λσ F H S=>
 (tS hN hi hx gI hs hf).to ((h.run σ F H S).imp λ_ _ z=>z.elim)
theorem xK(h:PEx X sd e):PSd1 X sd (.Return (some e) pos) E:=.mk λσ F H S=>(aBs gI).to<|(h.run σ F H S).imp λ_ _ z=>z.elim
noncomputable def spX(K:aB)(n:Nat)(C:List D->Prop):Sp:=λvs H _ E=>vs.length=n/\Smp H/\∃ds,RepL K H ds vs/\C ds/\∀a H',Same H H'->Smp H'->E (.ref a) (some a) H'
structure hR(P:AI)(w:AL)(K:aB)(mg:Str->Option BH)(base:BL)(x:Str)(k n:Nat)(C:List D->Prop)(cls:BH)(dvs:List V)(dws:List BH):Prop where
 ex:∃ (f:BJ) (fd:AV) (ps:List Str),mg x=some (.ref f)/\eJ K (.ref f)=true/\Binds K fd ps dws/\Vals dvs dws/\FnOk P w K mg base (CX1 P w cls) k f fd ps (spX K n C)
theorem aKb{CX:CXT}{k:Nat}{f:BJ}{fd:AV}{ps:List Str}{sp:Sp}{dvs:List V}{dws:List BH}{Ex:XK}{pins:List (BJ×BM)}{σ:St}{H:Hp}{s:BI}{Q:VK}{us:List BH}{vs:List V}(F:FnOk X.prog X.w X.K X.mg X.base CX k f fd ps sp)(hr:Room k X.A)(hb:Binds X.K fd ps dws)(hd:Vals dvs dws)
  (I:Inv X pins σ H s) (r:Vals vs us) (h:sp (vs++dvs) H Q Ex) (hx:∀e s',CX X.stack H s Ex e s'->X.xe e s'):AG (AF X.prog X.w) X.A (call (.ref f) us) (EP X pins σ Q) X.xe s:=by
 have r2:Vals (vs++dvs) (us++dws):=r.append hd;have hl:(us++dws).length=ps.length:=by rw[<-r2.length];exact F.len _ _ _ _ h
 refine wpAny_call<|BC (F.run X.A X.stack s H ⟨us,[]⟩ (us++dws) (vs++dvs) Q Ex hr I.env0 (hb s us I.kIn hl) r2 h) λr s' hq=> ?_;cases r with
 |error e=>exact hx e s' hq
 |ok fl=>
  cases fl with
  |ret u=>exact I.after hq
  |next=>exact False.elim hq
  |brk=>exact False.elim hq
  |cont=>exact False.elim hq
section
variable {P:AI}{w:AL}{K:aB}{mg:Str->Option BH}{base:BL}{x qual:Str}{st:BN}{f:BJ}{fd:AV}{N ps:List Str}{k:Nat}{C:List D->Prop}{cls:BH}
theorem fn_x{oc:BH}{od:Option BJ}{osl:Array (Option BH)}{dV kV doc pm cdv ct:BH}{an:Option BJ}(lk:K.lookup f=some ⟨oc,od,.func<|eQ x qual (iS st) (fV st) (bJ st) dV kV doc pm an cdv ct,osl⟩)(hcd:iP K cdv qual=true)(S:nF N ps (bJ st))
  (body:∀ (A:BK) (outer:List Env) (s:BI) (H:Hp) (E:XK),Room k (A.deeper (Aj qual (bJ st) s.heap.objs.size f cdv))→(∀a H',Same H H'→Smp H'→E (.ref a) (some a) H')→∀ds,ds.length=ps.length→C ds→
   PSd (oM (CX1 P w cls) P w K mg base N qual (bJ st) f cdv A outer s H E) (init N.length ds) (fV st) {nx:=λ_=>False,rt:=λ_=>False}):
  FnOk P w K mg base (CX1 P w cls) (k+1) f (eQ x qual (iS st) (fV st) (bJ st) dV kV doc pm an cdv ct) ps (spX K ps.length C):=by
 refine aLf lk hcd S (λvs H Q E h=>h.1) λA outer s H vs Q E hr h=> ?_
 obtain⟨hl,sm,ds,rl,c,q⟩:=h;have hds:ds.length=ps.length:=by rw[<-rl.len];exact hl
 refine⟨_,wX, ?_⟩;have hlen:N.length-vs.length=N.length-ds.length:=by rw[rl.len]
 have S0:StF K H H H (L2.start N vs) (init N.length ds):=by
  refine⟨Same.refl _,Same.refl _,sm, ?_, ?_⟩
  ·unfold L2.start init;rw[hlen];exact rO (m:=0) rl
  ·unfold init;rw[rL];exact eD
 exact(body A outer s H E hr q ds hds c (L2.start N vs) H H S0).imp (λ_ _ ⟨_,_,_,_,z⟩=>z.elim) (λ_ _ ⟨_,_,z⟩=>z.elim) (λ_ _ ⟨_,_,_,_,z⟩=>z.elim) λ_ _ ⟨_,_,_,_,z⟩=>z.elim
theorem qW(F:Fun K x qual st f fd)(S:nF N ps (bJ st))(hm:mg x=some (.ref f))(hb:∀ (kV doc pm:BH) (an:Option BJ) (cdv ct:BH) (us:List BH),us.length=ps.length->bindArgs (eQ x qual (iS st) (fV st) (bJ st) .none kV doc pm an cdv ct) ⟨us,[]⟩=pure (ps.zip us))
  (body:∀ (cdv:BH) (A:BK) (outer:List Env) (s:BI) (H:Hp) (E:XK),Room k (A.deeper (Aj qual (bJ st) s.heap.objs.size f cdv))→(∀a H',Same H H'→Smp H'→E (.ref a) (some a) H')→∀ds,ds.length=ps.length→C ds→
   PSd (oM (CX1 P w cls) P w K mg base N qual (bJ st) f cdv A outer s H E) (init N.length ds) (fV st) {nx:=λ_=>False,rt:=λ_=>False}):hR P w K mg base x (k+1) ps.length C cls [] []:=by
 have hbd:=F.binds hb;obtain⟨oc,od,kV,doc,pm,an,cdv,ct,osl,rfl,lk,hcd⟩:=F.ex;exact⟨f,_,ps,hm,F.kp,hbd,.nil,fn_x lk hcd S<|body cdv⟩
end
variable {pins:List (BJ×BM)}{σ:St}{F H:Hp}{s:BI}{h':BL}{S:List BJ}
theorem xF{h:BL}{c:BJ}{v:Option BH}(k:h.UpToSlots h')(z:h.IsCell c v):h'.IsCell c v:=by
 obtain⟨o,ho,hd⟩:=z;obtain⟨sl,q⟩:=k c o ho λvs e=>by rw[hd] at e;cases e
 exact⟨_,q,hd⟩
theorem aAO(I:Inv X pins σ H s)(hS:∀b∈S,H b=none/\X.s₀.heap.get? b=none/\∀p∈X.pn++pins,p.1≠b)(k1:Heap.StaysIn (rA s.heap<|frs X.stack++S) h')(k4:s.heap.UpToSlots h'):Inv X pins σ H {s with heap:=h'}:=by
 have stay:∀b o,b∉frs X.stack++S->s.heap.get? b=some o->h'.get? b=some o:=λb o hb q=>k1 b o (by rw[mP hb];exact q)
 have out:∀b o,X.s₀.heap.get? b=some o->b∉X.fs->b∉frs X.stack++S:=λb o q hb hm=>by
  rcases aJ.mp hm with hm|hm
  ·rcases aV.mp (I.stkSub b hm) with e|hm
   ·have lt:=aM q;rw[e] at lt;exact absurd lt<|uI.mpr I.ok.above
   ·exact hb hm
  ·rw[(hS b hm).2.1] at q;cases q
 have slot:∀b o,X.s₀.heap.get? b=some o->X.H₀ b=none->b∈X.fs->b∉X.ex->∃sl,h'.get? b=some {o with slots:=sl}:=λb o q n hb hx=>by obtain⟨sl,q1⟩:=I.base.slot b o q n hb hx;obtain⟨_,o',q2,nf⟩:=I.ok.funs.mem hb;rw[q] at q2;cases q2;obtain⟨sl2,q3⟩:=k4 b _ q1 nf;exact⟨sl2,q3⟩
 have tr:∀b u,H b=some u->b∉frs X.stack++S:=λb u e hm=>by
  rcases aJ.mp hm with hm|hm
  ·rw[I.env0.frf b hm] at e;cases e
  ·rw[(hS b hm).1] at e;cases e
 obtain⟨m,hn,hl⟩:=id I.loc;refine⟨I.ok,I.os,I.bare,⟨λb o q n hb hx=>stay b o (out b o q hb)<|I.base.keep b o q n hb hx,slot,I.base.free,λb o q hx=> ?_,I.base.tups,I.base.frzs,I.base.tbls⟩,⟨m,k4.ns hn,λi x v e1 e2 e3=> ?_⟩,λx c e=> ?_,I.free,I.freeC,λp hp=> ?_,λb u e=> ?_,I.len⟩
 ·by_cases hb:b∈X.fs
  ·obtain⟨sl,q2⟩:=slot b o q (I.ok.frf b hb) hb hx;exact⟨_,q2⟩
  ·obtain⟨o1,q1⟩:=I.base.there b o q hx;exact⟨o1,stay b o1 (out b o q hb) q1⟩
 ·obtain⟨u,r,q⟩:=hl i x v e1 e2 e3;refine⟨u,r, ?_⟩
  rcases q with q|⟨k,c,e,z⟩
  ·exact .inl q
  ·exact .inr ⟨k,c,e,xF k4 z⟩
 ·obtain⟨v,z⟩:=I.cell x c e;exact⟨v,xF k4 z⟩
 ·obtain⟨e,n,ne,nf,d⟩:=I.pin p hp;refine⟨stay p.1 p.2 (λhm=> ?_) e,n,ne,nf,d⟩
  rcases aJ.mp hm with hm|hm
  ·rcases aV.mp (I.stkSub _ hm) with z|z
   ·exact ne z
   ·exact nf z
  ·exact(hS _ hm).2.2 p hp rfl
 ·refine(I.hok b u e).stay (λc v hc q=>stay c v ?_ q) (λ_ q=>q) λ_ _ q=>q
  rcases hc with z|z
  ·rw[z];exact tr b u e
  ·exact tr c _ z
theorem aLQ{ξ:BH->BI->Prop}{pn:List (BJ×BM)}(I:Inv X pins σ H s)(S:StF X.K X.H₀ F H σ sd)(hpn:pn=X.pn++pins):Inv {X with H₀:=F,B₀:=F,hB:=λ_ _ e _=>e,xe:=ξ,pn:=pn} [] σ H s:=by
 have n0:∀b,F b=none->X.H₀ b=none:=λb n=>by
  cases q:X.H₀ b with
  |none=>rfl
  |some u=>rw[S.base _ _ q] at n;cases n
 have fn:∀b,H b=none->F b=none:=λb n=>S.sub.free n
 subst hpn
 refine ⟨⟨I.ok.mod,I.ok.kind,I.ok.glob,I.ok.blt,I.ok.above,I.ok.inj,I.ok.has,I.ok.cab,I.ok.hd,I.ok.frames,I.ok.stk,I.ok.exf,fun b o e=>⟨(I.ok.bs b o e).1,fn b (I.bs b o e).2⟩,I.ok.bsz,I.ok.noex,I.ok.exfs,I.ok.funs,fun b hb=> ?_⟩,I.os,I.bare,
  ⟨λb o q n hb hx=>I.base.keep b o q (n0 b n) hb hx,λb o q n hb hx=>I.base.slot b o q (n0 b n) hb hx,λb o q n hx=>I.base.free b o q (n0 b n) hx,I.base.there,λb xs e=>S.sub _ _ e,λb o u e=>S.sub _ _ e,λb ps e=>⟨#[],by rw[S.sub _ _ e];simp⟩⟩,I.loc,I.cell,I.free,I.freeC,λp hp=> ?_,I.hok,I.len⟩
 ·obtain⟨_,o,q,_⟩:=I.ok.funs.mem hb;exact fn b<|I.base.free b o q (I.ok.frf b hb) λhx=>I.ok.exfs b hx hb
 ·rw[eO] at hp;exact I.pin p hp
theorem aLM{ξ:BH->BI->Prop}{pn:List (BJ×BM)}{pins':List (BJ×BM)}{σ':St}{H':Hp}{s':BI}(I0:Inv X pins σ H s)(S:StF X.K X.H₀ F H σ sd)(hpn:pn=X.pn++pins)(I:Inv {X with H₀:=F,B₀:=F,hB:=λ_ _ e _=>e,xe:=ξ,pn:=pn} pins' σ' H' s'):Inv X pins σ' H' s':=by
 subst hpn;have nf:∀b o,X.s₀.heap.get? b=some o->X.H₀ b=none->b∉X.ex->F b=none:=λb o q n hx=>S.sub.free<|I0.base.free b o q n hx
 refine⟨I0.ok,I.os,I.bare,⟨λb o q n hb hx=>I.base.keep b o q (nf b o q n hx) hb hx,λb o q n hb hx=>I.base.slot b o q (nf b o q n hx) hb hx,λb o q n hx=>I.base.free b o q (nf b o q n hx) hx,I.base.there,λb xs e=>I.base.tups b xs<|S.base _ _ e,λb o u e=>I.base.frzs b o u<|S.base _ _ e,λb ps e=>I.base.tbls b ps<|S.base _ _ e⟩,I.loc,I.cell,I.free,I.freeC,λp hp=>I.pin p<|aU _ hp,I.hok,I.len⟩
section
variable {X:Cx}{pins:List (BJ×BM)}{σ:St}{F H:Hp}{s:BI}{sd:List Slot}{a T:BJ}{cls:BH}{M:Model}{A:BK}{Ex:BH->BI->Prop}
structure xM(X:Cx)(pins:List (BJ×BM))(σ:St)(H:Hp)(s:BI)(a T:BJ)(cls fl:BH):Prop where
 inv:Inv X pins σ H s
 fa:H a=none/\X.s₀.heap.get? a=none/\∀p∈X.pn++pins,p.1≠a
 fT:H T=none/\X.s₀.heap.get? T=none/\∀p∈X.pn++pins,p.1≠T
 obj:∃oe vs oT ts a0,s.heap.get? a=some oe/\(oe.cls=cls/\vs[0]? =some a0)/\oe.data=.fields vs/\vs[1]? =some (.ref T)/\T≠a/\s.heap.get? T=some oT/\oT.data=.fields ts/\ts[3]? =some fl
theorem xX(h:xM X pins σ H s a T cls fl):∀b∈[a,T],H b=none/\X.s₀.heap.get? b=none/\∀p∈X.pn++pins,p.1≠b:=λb hb=>by
 simp only[aV,gH,or_false] at hb
 rcases hb with rfl|rfl
 ·exact h.fa
 ·exact h.fT
theorem aAl{Q:Unit->BI->Prop}(hst:X.stack=X.env::X.outer/\X.env.frame=some X.env.locals)(hfr:A.frames=some X.stack)(hex:X.ex=[])(h:xM X pins σ H s a T cls .none)(k:∀h' T',xM X pins σ H {s with heap:=h'} a T' cls (Al X.env.locals)->Q () {s with heap:=h'}):
  AG M A (noteFrame (.ref a) X.env) Q Ex s:=by
 have hS:=xX h;obtain⟨oe,vs,oT,ts,a0,he,hc,hd,h1,hTe,hT,hdT,h3⟩:=h.obj;have I:=h.inv;have fu:Heap.FunFrames s.heap (rA s.heap<|frs X.stack++[a,T]) X.stack:=qV I.env0.funs λb hb=>mB<|aU _ hb
 have fm:=hfr;rw[hst.1] at fm;have fu2:=fu;rw[hst.1] at fu2;have ca:(rA s.heap<|frs X.stack++[a,T]).get? a=none:=mB (aC _<|by simp);have cT:(rA s.heap<|frs X.stack++[a,T]).get? T=none:=mB (aC _<|by simp);refine wpAny_noteFrame_onW (base:=rA s.heap<|frs X.stack++[a,T]) (cls:=cls) (a0:=a0) fm (by rw[hst.1];exact fu2) hst.2 ⟨oe,vs,T,oT,ts,he,hc,hd,h1,cT,hTe,hT,hdT,h3⟩ (λb o q=>(pR q).2) ca λh' L=> ?_
 rw[<-hst.1] at L;obtain⟨k1,k2,⟨oe',vs',T',oT',ts',he',hc',hd',h1',hnT',hTe',hT',hdT',h3'⟩,k4⟩:=L;have I2:=aAO I hS k1 k4
 have Tn:s.heap.get? T'=none\/T'∈[a,T]:=by
  by_cases hm:T'∈frs X.stack++[a,T]
  ·rcases aJ.mp hm with hm|hm
   ·obtain⟨_,o,q,nf⟩:=k2.mem hm;rw[hT'] at q;cases q;exact(nf ts' hdT').elim
   ·exact .inr hm
  ·rw[mP hm] at hnT';exact .inl hnT'
 refine k h' T' ⟨I2,h.fa, ?_,oe',vs',oT',ts',a0,he',hc',hd',h1',hTe',hT',hdT',h3'⟩
 rcases Tn with q|q
 ·refine⟨?_, ?_,λp hp z=> ?_⟩
  ·cases g:H T' with
   |none=>rfl
   |some u=>obtain⟨ob,q2⟩:=vY<|I.hok T' u g;rw[q] at q2;cases q2
  ·cases g:X.s₀.heap.get? T' with
   |none=>rfl
   |some o=>obtain⟨o1,q1⟩:=I.base.there T' o g (λhb=>by rw[hex] at hb;cases hb);rw[q] at q1;cases q1
  ·have:=(I.pin p hp).1;rw[z,q] at this;cases this
 ·exact hS T' q
theorem nB{fl:BH}{fr:Option BJ}{Q:Unit->BI->Prop}(hst:X.stack=X.env::X.outer/\X.env.frame=some X.env.locals)(h:xM X pins σ H s a T cls fl)(k:∀h',xM X pins σ H {s with heap:=h'} a T cls (fr.elim Value.none λf=>Al f)->Q () {s with heap:=h'}):
  AG M A (setFlight (.ref a) fr) Q Ex s:=by
 have hS:=xX h;obtain⟨oe,vs,oT,ts,a0,he,hc,hd,h1,hTe,hT,hdT,h3⟩:=h.obj;have I:=h.inv;have hsz3:3<ts.size:=(iV.mp h3).1
 have other:∀b,b≠T->(s.heap.update T (Obj.mapFields (·.setIfInBounds 3 (fr.elim Value.none λf=>Al f)))).get? b=s.heap.get? b:=
  λb hb=>eV _ _<|Ne.symm hb
 have noRecord:∀b o,s.heap.get? b=some o->(∀vs,o.data≠ .fields vs)->b≠T:=λb o hb hnf q=>by rw[q,hT] at hb;injection hb with hb;subst hb;exact hnf ts hdT
 unfold setFlight;refine AA<|AX he hd h1 ?_;rw[if_pos (show(Value.ref T !=Value.none)=true from by simp)];refine At hT hdT hsz3<|k _ ⟨aAO I hS (λb o q=> ?_) λb o q nf=>⟨o.slots,(other b<|noRecord b o q nf).trans q⟩,h.fa,h.fT,oe,vs,_,_,a0,(other a<|Ne.symm hTe).trans he,hc,hd,h1,hTe,cY _ hT (Obj.isFreed_of_fields<|Obj.data_mapFields hdT _),Obj.data_mapFields hdT _,by simp[hsz3]⟩;obtain⟨q1,q2⟩:=pR q;exact(other b λz=>q1 (aC _<|by simp[z])).trans q2
end
noncomputable def spS(K:aB)(n:Nat)(G:V->Hp->Prop)(C:List D->Prop):Sp:=λvs H _ E=>vs.length=n/\Smp H/\∃v us ds,vs=v::us/\G v H/\RepL K H ds us/\C ds/\∀a H',Same H H'->Smp H'->E (.ref a) (some a) H'
structure aOk(P:AI)(w:AL)(K:aB)(mg:Str->Option BH)(base:BL)(x:Str)(k n:Nat)(G:V->Hp->Prop)(C:List D->Prop)(cls:BH):Prop where
 ex:∃ (f:BJ) (fd:AV) (ps:List Str),mg x=some (.ref f)/\eJ K (.ref f)=true/\Binds K fd ps []/\FnOk P w K mg base (CX1 P w cls) k f fd ps (spS K n G C)
structure PSh(X:Cx)(sd:List Slot)(e:Expr)(G:V->Hp->Prop):Prop where
 run:∀ (σ:St) (F H:Hp),StF X.K X.B₀ F H σ sd->wE X e σ H λv H'=>∃F',StF X.K X.B₀ F' H' σ sd/\Same F F'/\G v F'
section
variable {X:Cx}{pins:List (BJ×BM)}{σ:St}{F H:Hp}{s:BI}{sd:List Slot}{a T:BJ}{cls fl:BH}{E:XK}
theorem aNO(hex:X.ex=[])(h:xM X pins σ H s a T cls .none)(hE:E (.ref a) (some a) H):CX1 X.prog X.w cls X.outer X.H₀ X.s₀ E (.ref a) s:=by have I:=h.inv;have b:=I.base;rw[hex] at b;exact⟨a,T,H,rfl,I.os,I.bare,b,I.hok,⟨h.fa.1,h.fa.2.1,h.fT.1,h.fT.2.1,h.obj⟩,hE⟩
theorem aFk{Ex:BH->BI->Prop}(hex:X.ex=[])(hst:X.stack=X.env::X.outer/\X.env.frame=some X.env.locals)(h:xM X pins σ H s a T cls fl)(hE:E (.ref a) (some a) H):
  AG (AF X.prog X.w) X.A (leaving X.env<|.ref a) (λ_ s''=>CX1 X.prog X.w cls X.outer X.H₀ X.s₀ E (.ref a) s'') Ex s:=by
 by_cases e:fl=Al X.env.locals
 ·subst e;obtain⟨oe,vs,oT,ts,a0,he,hc,hd,h1,hTe,hT,hdT,h3⟩:=h.obj;unfold leaving;refine AA<|wpAny_noteFrame_inFlight hst.2 he hd h1 hT hdT h3 ?_;exact nB hst h λh' h2=>aNO hex h2 hE
 ·have hS:=xX h;obtain⟨oe,vs,oT,ts,a0,he,hc,hd,h1,hTe,hT,hdT,h3⟩:=h.obj;have hsz3:3<ts.size:=(iV.mp h3).1;have vs1:1<vs.size:=(iV.mp h1).1;have I:=h.inv;have other:∀b,b≠T->(s.heap.update T (Obj.mapFields (·.setIfInBounds 3 Value.none))).get? b=s.heap.get? b:=λb hb=>eV _ _ (Ne.symm hb)
  have noRecord:∀b o,s.heap.get? b=some o->(∀vs,o.data≠ .fields vs)->b≠T:=λb o hb hnf q=>by rw[q,hT] at hb;injection hb with hb;subst hb;exact hnf ts hdT
  have I2:Inv X pins σ H {s with heap:=s.heap.update T (Obj.mapFields (·.setIfInBounds 3 Value.none))}:=aAO I hS (fun b o q=>by
   obtain⟨q1,q2⟩:=pR q
   exact(other b λz=>q1 (aC _ (by simp[z]))).trans q2) (λb o q nf=>⟨o.slots,(other b (noRecord b o q nf)).trans q⟩)
  have he2:(s.heap.update T (Obj.mapFields (·.setIfInBounds 3 Value.none))).get? a=some oe:=(other a<|Ne.symm hTe).trans he;have hS2:∀b∈[a,T],H b=none/\X.s₀.heap.get? b=none:=λb hb=>⟨(hS b hb).1,(hS b hb).2.1⟩
  obtain⟨h2,eh⟩:∃h2,h2=s.heap.update T (Obj.mapFields (·.setIfInBounds 3 Value.none)):=⟨_,rfl⟩;rw[<-eh] at I2 he2;have fu:Heap.FunFrames h2 (rA h2<|frs X.stack++[a,T]) X.stack:=qV I2.env0.funs λb hb=>mB<|aU _ hb
  have fm:=I.ok.frames;rw[hst.1] at fm;have fu2:=fu;rw[hst.1] at fu2;have ca:(rA h2<|frs X.stack++[a,T]).get? a=none:=mB (aC _<|by simp);unfold leaving noteFrame;rw[hst.2];refine AA (AA<|AX he hd h1 ?_);rw[if_pos (show(Value.ref T !=Value.none)=true from by simp)];refine AA<|AX hT hdT h3 ?_;rw[if_neg<|by simpa using e];refine AA<|At hT hdT hsz3 ?_;rw[<-eh];refine wpAny_newEntryW (base:=rA h2<|frs X.stack++[a,T]) fm (by rw[hst.1];exact fu2) hst.2 he2 (λb o q=>(pR q).2) ca hd vs1 hc.2 λh' L=> ?_
  rw[<-hst.1,hc.1] at L;exact aDO I2 hex hst hS2 (by simp) L hE
def TakesA(X:Cx)(cls:BH)(sd:List Slot):Prop:=∀ (pins:List (BJ×BM)) (σ:St) (F H:Hp) (s:BI) (a T:BJ) (fl:BH),xM X pins σ H s a T cls fl->StF X.K X.B₀ F H σ sd->X.xe (.ref a) s
theorem TakesA.tk(h:TakesA X cls sd):Takes X cls sd:=λpins σ F H s a T I S x hp=>h pins σ F H s a T .none ⟨I,⟨x.free,x.new,λp q=>(hp p q).1⟩,⟨x.freeT,x.newT,λp q=>(hp p q).2⟩,x.obj⟩ S
end
section
variable {P:AI}{w:AL}{K:aB}{mg:Str->Option BH}{base:BL}{N:List Str}{qual:Str}{scope:Scope}{f:BJ}{cdv:BH}{A:BK}{outer:List Env}{s:BI}{H:Hp}{E:XK}{cls:BH}{sd:List Slot}
theorem oJ(hE:∀a H',Same H H'->Smp H'->E (.ref a) (some a) H'):TakesA (oM (CX1 P w cls) P w K mg base N qual scope f cdv A outer s H E) cls sd:=λpins σ F H' s' a T fl h S=>aFk (X:=oM (CX1 P w cls) P w K mg base N qual scope f cdv A outer s H E) (E:=E) rfl ⟨rfl,rfl⟩ h<|hE a H' (λb o e=>S.sub _ _<|S.base _ _ e) S.smp
end
section
variable {X:Cx}{pins:List (BJ×BM)}{σ:St}{F H:Hp}{s s':BI}{sd:List Slot}{cls:BH}{e tg iter:Expr}{es:List Expr}{pos:Pos}{ds:List D}{Old:BJ->Prop}{E:jM}
structure aNk(Old:BJ->Prop)(h:BL)(H:Hp)(a T:BJ)(cls:BH):Prop where
 free:H a=none
 new:¬ Old a
 freeT:H T=none
 newT:¬ Old T
 obj:∃oe vs oT ts a0,h.get? a=some oe/\(oe.cls=cls/\vs[0]? =some a0)/\oe.data=.fields vs/\vs[1]? =some (.ref T)/\T≠a/\h.get? T=some oT/\oT.data=.fields ts/\ts[3]? =some .none
def aBD(X:Cx)(Old:BJ->Prop)(cls:BH)(sd:List Slot):Prop:=∀ (pins:List (BJ×BM)) (σ:St) (F H:Hp) (s:BI) (a T:BJ),Inv X pins σ H s->StF X.K X.B₀ F H σ sd->aNk Old s.heap H a T cls->(∀p∈X.pn++pins,p.1≠a/\p.1≠T)->X.xe (.ref a) s
def aFK(X:Cx)(Old:BJ->Prop):Prop:=∀ (pins:List (BJ×BM)) (σ:St) (H:Hp) (s:BI),Inv X pins σ H s->∀b,Old b->∃o,s.heap.get? b=some o
def Ent(X:Cx):BJ->Prop:=λb=>∃o,X.s₀.heap.get? b=some o
theorem tZ(hex:X.ex=[]):aFK X (Ent X):=λpins σ H s I b ⟨o,g⟩=>I.base.there b o g λhb=>by rw[hex] at hb;cases hb
theorem Takes.o(h:Takes X cls sd):aBD X (Ent X) cls sd:=λpins σ F H s a T I S x hp=>
 h pins σ F H s a T I S ⟨x.free,by
  cases g:X.s₀.heap.get? a with
  |none=>rfl
  |some o=>exact(x.new ⟨o,g⟩).elim,x.freeT,by
  cases g:X.s₀.heap.get? T with
  |none=>rfl
  |some o=>exact(x.newT ⟨o,g⟩).elim,x.obj⟩ hp
theorem pU{x:Str}{p:Pos}{k n:Nat}{C:List D->Prop}{dvs:List V}{dws:List BH}{dds:List D}(G:hR X.prog X.w X.K X.mg X.base x k n C cls dvs dws)(hh:aFK X Old)(hr:Room k X.A)(hg:Gl X x)(ha:PAd X sd (e::es) (ds.map R.val))(hdv:∀H,RepL X.K H dds dvs)(hc:C (ds++dds))(hn:ds.length+dds.length=n)(ht:aBD X Old cls sd)
  (hdb:(x==("__debug__":Str))=false:=by decide) (he:AD (e::es) X.env=(false,eval e X.env)::AD es X.env:=by rfl) (hpl:(Ak pos<|AD es X.env).any (·.1)=false:=by rfl):
  PEx X sd (.Call (.Name x p) (e::es) [] pos):=⟨fun σ F H S pins s I=>by
 obtain⟨f,fd,ps,hm,hk,bd,hd,G⟩:=G.ex;refine Ad<|aAG I hg hm ?_ hdb;refine aDa (h₀:=X.base) I.ok.mod.kin hk (thn (ha σ F H S pos pins s I) λus s1 ⟨vs,H1,I1,r,F1,S1,s1',q⟩=>⟨I1.kIn, ?_⟩) he hpl;have rl:RepL X.K H1 (ds++dds) (vs++dvs):=(q.vals.mono S1.sub).app<|hdv H1;refine aKb (Q:=λ_ _=>False) (Ex:=λ_ _ H'=>Same H1 H'/\Smp H') G hr bd hd I1 r ⟨by rw[rl.len,bR];exact hn,S1.smp,ds++dds,rl,hc,λa H' q1 q2=>⟨q1,q2⟩⟩ λe s' hcx=> ?_
 obtain⟨a,T,H',rfl,os,bare,un,hok,x,sH,smH⟩:=hcx;have I2:Inv X pins σ H' s':=I1.call' os un hok bare (λb z=>absurd z<|by simp)
 have nO:∀b,s1.heap.get? b=none->¬ Old b:=λb q z=>by obtain⟨o,g⟩:=hh pins σ H1 s1 I1 b z;rw[q] at g;cases g
 have nw:∀b,s1.heap.get? b=none->∀p∈X.pn++pins,p.1≠b:=λb q p hp z=>by have:=(I1.pin p hp).1;rw[z,q] at this;cases this
 exact ht pins σ F1 H' s' a T I2 ⟨S1.base,S1.sub.trans sH,smH,S1.slots.mono (Same.refl _) λl hl=>⟨(S1.slots.owns hl).1,λob e=>sH _ _ e⟩,S1.nd⟩ ⟨x.free,nO a x.new,x.freeT,nO T x.newT,x.obj⟩ λp hp=>⟨nw a x.new p hp,nw T x.newT p hp⟩⟩
theorem aHu{ξ ζ:BH->BI->Prop}{pi:List (BJ×BM)}(I:Inv {X with xe:=ξ} pi σ H s):Inv {X with xe:=ζ} pi σ H s:=
 ⟨⟨I.ok.mod,I.ok.kind,I.ok.glob,I.ok.blt,I.ok.above,I.ok.inj,I.ok.has,I.ok.cab,I.ok.hd,I.ok.frames,I.ok.stk,I.ok.exf,I.ok.bs,I.ok.bsz,I.ok.noex,I.ok.exfs,I.ok.funs,I.ok.frf⟩,I.os,I.bare,I.base,I.loc,I.cell,I.free,I.freeC,I.pin,I.hok,I.len⟩
theorem aLa{h h':BL}{C:BJ}{m:Str->Option BH}(n:h.Ns C m):∃o,h.get? C=some o/\(∀vs,o.data≠ .fields vs)/\(∀v,o.data≠ .cell v)/\(h'.get? C=some o->h'.Ns C m):=by obtain⟨o,es,ep,ho,r,q⟩:=n;exact⟨o,ho,λvs z=>(by rw[r] at z;cases z),λv z=>(by rw[r] at z;cases z),λg=>⟨o,es,ep,g,r,q⟩⟩
theorem aEd{elt:Expr}{scope:Scope}{N M:List Str}{cap:List (Option Nat)}{sc:Scope}{Tb:D->List Slot}(f:D->D)(n:Nat)(hn:n<ds.length)
  (hi:PId X sd PT0 tg iter ds) (hl:ds.length<=1000) (hsc:X.env.scope=sc) (hcn:mE scope sc=true) (hM:X.N=M) (hcap:lC N M scope sc cap=true) (hk:scope.kind=.function)
  (hg:∀cl C fp s H ξ d,d∈ds->PGd (kH X N scope cl C fp s H ξ) (jE cap sd) tg d (Tb d))
  (hle:∀d,d∈ds->Le (Tb d) (jE cap sd))
  (he:∀cl C fp s H ξ k d,ds[k]? =some d->k<n->PEd (kH X N scope cl C fp s H ξ) (Tb d) elt (.val<|f d))
  (hx:∀cl C fp s H ξ Old d,ds[n]? =some d->aFK (kH X N scope cl C fp s H ξ) Old->aBD (kH X N scope cl C fp s H ξ) Old cls (Tb d)->PEx (kH X N scope cl C fp s H ξ) (Tb d) elt)
  (ht:TakesA X cls sd) (hex:X.ex=[]:=by rfl) (hst:X.stack=X.env::X.outer/\X.env.frame=some X.env.locals:=by exact⟨rfl,rfl⟩)
  (hc:X.calm=true:=by rfl) (hs:∀x,Ag iter X.env x=pure x:=by intro _;rfl):
  PEx X sd (.ListComp elt [⟨tg,iter,[],0⟩] scope pos):=⟨fun σ F H S pins s I=>by
 have nm:∀y∈scope.names,(y.2=NameKind.free->sc.names.lookup y.1=some NameKind.cell)/\(y.2=NameKind.local->scope.names.lookup y.1=some NameKind.local):=λy hy=>by have q:=bN.mp hcn y hy;simp only[bH,jT,iO,beq_eq_false_iff_ne,ne_eq,beq_iff_eq] at q;exact⟨λe=>q.1.1.resolve_left λz=>z e,λe=>q.2.resolve_left λz=>z e⟩
 have fre:∀y∈scope.names,y.2=.free->∃c,X.env.cells.lookup y.1=some c:=λy hy e=>I.ok.has y.1 (.inl<|by show X.env.scope.names.lookup y.1=_;rw[hsc];exact(nm y hy).1 e)
 rw[eval_ListComp];refine Ar (use:=none) rfl hs (oR fre) hk (λy hy=>(nm y hy).2) ?_;refine thn (hi σ F H S pins s I) λv s1 h1=>thn h1 λitv s2 h2=> ?_
 obtain⟨it,fp,tn,J,H2,e,I2,T,st2,f2,F1,S1,s1',itd⟩:=h2;subst e;have S1b:StF X.K H2 H2 H2 (uA cap σ) (jE cap sd):=⟨Same.refl _,Same.refl _,S1.smp,sM (H':=H2) S1.slots S1.sub cap,by rw[mJ];exact eD⟩;obtain⟨Old,hO⟩:∃Old:BJ->Prop,Old=λb=>(∃o,s2.heap.get? b=some o)/\b∉fp:=⟨_,rfl⟩
 obtain⟨ξ,hξ⟩:∃ξ:List (Str×BJ)->BJ->BH->BI->Prop,ξ=λcl C e s'=>∃a T pi σb H',e=.ref a/\Inv (kH X N scope cl C fp s2 H2 λ_ _=>False) pi σb H' s'/\Same H2 H'/\Smp H'/\aNk Old s'.heap H' a T cls:=⟨_,rfl⟩
 have hth:∀cl C,aFK (kH X N scope cl C fp s2 H2<|ξ cl C) Old:=λcl C pi σ' H' s' I' b hb=>by rw[hO] at hb;obtain⟨⟨o,g⟩,nf⟩:=hb;exact I'.base.there b o g nf
 have htk:∀cl C sdb,aBD (kH X N scope cl C fp s2 H2<|ξ cl C) Old cls sdb:=λcl C sdb pi σ' F' H' s' a T I' S' x' _=>by show ξ cl C _ _;rw[hξ];exact⟨a,T,pi,σ',H',rfl,aHu (X:=cxB X N scope cl C fp s2 H2) I',λb o q=>S'.sub _ _<|S'.base _ _ q,S'.smp,x'⟩
 refine aAf ξ (λcl C e H' s'=>∃a T,e=.ref a/\Same H2 H'/\Smp H'/\aNk Old s'.heap H' a T cls) (N:=N) (cap:=cap) (g:=λv σ2 H3 Q=>∀cl C,wG (kH X N scope cl C fp s2 H2<|ξ cl C) tg v σ2 H3 Q) (tt:=λσ2 H3 Q=>∀cl C,aKm (kH X N scope cl C fp s2 H2<|ξ cl C) [] σ2 H3 Q) (te:=λσ2 H3 Q=>∀cl C,wE (kH X N scope cl C fp s2 H2<|ξ cl C) elt σ2 H3 Q)
  hc hsc hcn (by rw[hM];exact hcap) hk I2 T st2 f2 (λcl C pi s3 σ3 H3 v u Q I3 ru q=>q cl C pi s3 u I3 ru) (λcl C pi s3 σ3 H3 Q I3 q=>q cl C pi s3 I3) (λcl C pi s3 σ3 H3 Q I3 q=>q cl C pi s3 I3)
  (λi m ys σb H3=>m=ds.length-i/\i<=n/\∃Fb,StF X.K H2 Fb H3 σb (jE cap sd)/\RepL X.K Fb ((ds.take i).map f) ys) ds.length
  ⟨by simp,bI _,H2,S1b,by simpa using RepL.nil⟩ _ (λcl C e s' z=> ?_) (λcl D C e H' s' z hC h0 hL hcc hpp hfs hns J'=> ?_) ?_
 ·rw[hξ] at z;obtain⟨a,T,pi,σb,H',e1,I',q1,q2,q3⟩:=z;exact⟨pi,σb,H',aHu (X:=cxB X N scope cl C fp s2 H2) I',a,T,e1,q1,q2,q3⟩
 ·obtain⟨a,T',rfl,sH,smH,x⟩:=z;obtain⟨m,ns⟩:=hns;have S':StF X.K X.B₀ F1 H' σ sd:=⟨S1.base,S1.sub.trans sH,smH,S1.slots.mono (Same.refl _) λl hl=>⟨(S1.slots.owns hl).1,λob e=>sH _ _ e⟩,S1.nd⟩;obtain⟨oC,gC,nfC,ncC,_⟩:=aLa (h':=s'.heap) ns
  have fsub:∀b∈X.fs,b∈frs X.stack:=λb hb=>by unfold frs;rw[hst.1,fN,hst.2];exact aO _ hb
  have Jp:Inv X (pins++[(C,oC)]) σ H' s':=J'.pins_of λp hp=>by
   rcases aJ.mp hp with hp|hp
   ·exact J'.pin p<|aC _ hp
   ·rw[bA.mp hp];exact⟨gC,hC,hL,λz=>hfs<|fsub C z,ncC⟩
  have isO:∀b o,s2.heap.get? b=some o->b∉fp->Old b:=λb o g nf=>by rw[hO];exact⟨⟨o,g⟩,nf⟩
  have nS:∀b,¬ Old b->X.s₀.heap.get? b=none:=λb nb=>by
   cases g:X.s₀.heap.get? b with
   |none=>rfl
   |some o=>
    obtain⟨o1,q1⟩:=I2.base.there b o g (λhb=>by rw[hex] at hb;cases hb);refine(nb<|isO b o1 q1 λhb=> ?_).elim
    rcases(f2 b hb).2.2.2.1 with z|z
    ·rw[hex] at z;cases z
    ·exact absurd (aM g)<|uI.mpr z
  have nP:∀b,¬ Old b->∀p∈X.pn++pins,p.1≠b:=λb nb p hp z=>nb<|z▸isO p.1 p.2 (I2.pin p hp).1 λhb=>(f2 p.1 hb).2.2.2.2.2 p hp rfl
  obtain⟨oe,vs,oT,ts,a0,he',hc',hd',h1',hTe,hT',hdT',h3'⟩:=x.obj
  have nCa:C≠a:=λz=>by rw[z,he'] at gC;exact nfC vs<|bT.inj gC▸hd'
  have nCT:C≠T':=λz=>by rw[z,hT'] at gC;exact nfC ts<|bT.inj gC▸hdT'
  have pall:∀b,¬ Old b->C≠b->∀p∈X.pn++(pins++[(C,oC)]),p.1≠b:=λb nb nc p hp=>by
   rw[<-gA] at hp
   rcases aJ.mp hp with hp|hp
   ·exact nP b nb p hp
   ·rw[bA.mp hp];exact nc
  have hd0:xM X (pins++[(C,oC)]) σ H' s' a T' cls .none:=⟨Jp,⟨x.free,nS a x.new,pall a x.new nCa⟩,⟨x.freeT,nS T' x.newT,pall T' x.newT nCT⟩,x.obj⟩;show AG _ _ (noteFrame (.ref a) X.env) _ _ _;refine aAl hst J'.ok.frames hex hd0 λh3 T3 hd3=> ?_
  obtain⟨p1,p2,_⟩:=hd3.inv.pin (C,oC)<|aC _ (aC _<|dN _);obtain⟨oC',gC',_,_,up⟩:=aLa (h':=h3) ns;rw[gC] at gC';cases gC';refine⟨m,up p1,λh4 sb cenv hce=> ?_⟩;have J4:Inv X pins σ H' {({s' with heap:=h3}:BI) with heap:=h4,toks:=s'.toks}:=(hd3.inv.pins_of (pins':=pins) λp hp=>hd3.inv.pin p (aC _<|aU _ hp)).turned (it:=C) (λb o hb g=>sb.extBut b o hb g) p2 hL (.inr h0) hcc hpp;obtain⟨oe3,vs3,oT3,ts3,a03,he3,hc3,hd3',h13,hTe3,hT3,hdT3,h33⟩:=hd3.obj;have nCT3:C≠T3:=hd3.fT.2.2 (C,oC)<|aC _ (aC _<|dN _);have he4:h4.get? a=some oe3:=sb.extBut a oe3 (Ne.symm nCa) he3;have hT4:h4.get? T3=some oT3:=sb.extBut T3 oT3 (Ne.symm nCT3) hT3;have sub:∀p∈X.pn++pins,p∈X.pn++(pins++[(C,oC)]):=λp hp=>by rw[<-gA];exact aU _ hp
  have hd4:xM X pins σ H' {s' with heap:=h4} a T3 cls (Al X.env.locals):=⟨J4,⟨hd3.fa.1,hd3.fa.2.1,λp hp=>hd3.fa.2.2 p<|sub p hp⟩,⟨hd3.fT.1,hd3.fT.2.1,λp hp=>hd3.fT.2.2 p<|sub p hp⟩,oe3,vs3,oT3,ts3,a03,he4,hc3,hd3',h13,hTe3,hT4,hdT3,h33⟩;unfold PySem.passOn;refine AA<|AX he4 hd3' h13 ?_;rw[if_neg<|by simp];refine AA<|nB hst hd4 λh5 hd5=> ?_;exact wpAny_throw<|ht pins σ F1 H' _ a T3 _ hd5 S'
 ·rintro i m ys σb H3 ⟨rfl,hil,Fb,Sb,rl⟩;have sF1:Same F1 Fb:=λb o g=>Sb.base _ _ (S1.sub _ _ g)
  obtain⟨g1,g2,g3⟩:=itd Fb H3 sF1 Sb.sub Sb.smp trivial i;have hlt:i<ds.length:=by omega
  have hd:ds[i]? =some ds[i]:=by simp[hlt]
  have hm:ds[i]∈ds:=eU hlt
  have ylen:ys.length<=i:=by rw[rl.len,aA,cW];omega
  refine .inr ⟨g1 hlt,gO<|by omega,λys' σ' H'=>i<n/\∃Fb',StF X.K H2 Fb' H' σ' (jE cap sd)/\RepL X.K Fb' ((ds.take<|i+1).map f) ys',λys' σ' H' ⟨hin,Fb',Sb',rl'⟩=>⟨ds.length-(i+1),by omega,rfl,hin,Fb',Sb',rl'⟩,λx H4 y cl C=> ?_⟩;obtain⟨F4,s4,rp,up⟩:=g3 x H4 ds[i] hd y;refine(hg cl C fp s2 H2 _ _ hm σb F4 H4 x (up _ _ _ Sb) rp).imp λσ5 H5 ⟨F5,S5,s5⟩ cl2 C2=>sJ<|aIz λcl3 C3=> ?_
  by_cases hin:i<n
  ·refine(he cl3 C3 fp s2 H2 _ i _ hd hin σ5 F5 H5 S5).imp λv H7 ⟨F7,S7,s7,q7⟩=>⟨hin,F7,S7.le<|hle _ hm, ?_⟩
   rw[dO,hd,aI];exact((rl.mono<|s4.trans s5).mono s7).app<|.one q7
  ·have:i=n:=by omega
   subst this
   exact((hx cl3 C3 fp s2 H2 _ Old _ hd (hth cl3 C3) (htk cl3 C3 _)).run σ5 F5 H5 S5).imp λ_ _ z=>z.elim⟩
theorem aLI{x:Str}{p:Pos}{T:String}(hg:Gl X x)(hm:X.mg x=none)(hv:Ax x=some (.type T)){rr:List V->Hp->VK->Prop}(hc:pV X (.type T) rr)(h:PEx X sd e)
  (hn:x≠"__name__":=by decide) (hdb:(x==("__debug__":Str))=false:=by decide) (he:AD [e] X.env=(false,eval e X.env)::AD [] X.env:=by rfl) (hpl:(Ak pos (AD [] X.env)).any (·.1)=false:=by rfl):PEx X sd (.Call (.Name x p) [e] [] pos):=⟨fun σ F H S=>
 (zX hc hg hm hv (lZ gI pa_nil he) hn hdb he hpl).to ((h.run σ F H S).imp λ_ _ z=>z.elim)⟩
theorem aFW(h:PEx X sd e)(hs:swapsWithSole [tg] e pos.line X.env=pure false:=by rfl)(hw:swappedStores [tg] e X.env=pure none:=by rfl)(h1:(Ay [tg] X.env).map (·.2)=[assign tg X.env]:=by rfl):PSd1 X sd (.Assign [tg] e pos) E:=.mk λσ F H S=>(aHq gI aNj hs hw h1).to<|(h.run σ F H S).imp λ_ _ z=>z.elim
end
theorem aJR{ks:List (List Key)}{k:List Key}{v:V}:∀ {xs:List V}{n:Nat},ks.Nodup->ks.length=xs.length->ks[n]? =some k->rD (ks.zip xs) k v=ks.zip (xs.set n v):=λ{xs n} nd hl hk=>by
 have hn:n<ks.length:=(aZ.mp hk).1;have he:ks[n]=k:=(aZ.mp hk).2;unfold rD;rw[if_pos]
 ·apply pE
  ·simp[hl]
  intro j h1 h2;have hj:j<ks.length:=by simp at h2;omega
  have hjx:j<xs.length:=by omega
  rw[lI,aKd,aKd]
  by_cases e:j=n
  ·subst e;simp[he]
  ·have ne:ks[j]≠k:=λz=>e ((lH nd).mp<|z.trans he.symm)
   rw[if_neg ne,List.getElem_set_ne<|Ne.symm e]
 ·rw[pD];refine⟨(ks[n],xs[n]'(by omega)), ?_,by simp[he]⟩;refine cU (i:=n) ?_;rw[aAy];exact⟨by simp[hn],by simp[show n<xs.length by omega]⟩
variable {d0:D}{ks:List (List Key)}{k:List Key}{st:BN}{l:BJ}
def rGT(X:Cx):V->List V->Hp->VK->Prop:=λx vs H Q=>∃ (F:Hp) (l ad:BJ) (k:List Key) (y:V) (o:BM) (kvs:List (List Key×V)),x=.ref l/\vs=[.ref ad,y]/\Same F H/\H l=some (exO l o)/\F ad=some (.tup<|k.map kV)/\X.A.units+1<AR/\
 TDo X.prog X.w F l o kvs/\Q ((lP kvs k).getD y) H
theorem aJc:MtR X "dict.get" (rGT X):=by
 intro pins s σ H x vs v us Q I rx rv h;obtain⟨F,l,ad,k,y,o,kvs,rfl,rfl,sF,hl,ha,hu,⟨z,hm,ts,kt,es,ep,t1,t2,t3,t4⟩,q⟩:=h;obtain rfl:v=Value.ref l:=rx;cases rv with
 |cons r1 rv=>
  obtain⟨u,rfl,ru⟩:=Vals.one rv;rename_i b;obtain rfl:b=Value.ref ad:=r1;have ho:s.heap.get? l=some o:=(I.hok l _ hl).1;have ktH:KT H kvs ts:=kt.keeps λb ys e=>sF _ _ e
  have dd:s.heap.DictOfH (Ao<|eC X.prog X.w) l ts:=⟨o,es,ep,ho,t1,t2,t3,KT.all I.hok ktH,t4⟩;refine call_meetsIn aBp dd.typeIs PySem.F.entry_dict_get (PySem.F.args_dict_get_3 _ _ _) (meetsH_dict_get_default (Ao<|eC X.prog X.w) l ad hm u) ⟨BG hu,k,ts,mO I.hok<|sF _ _ ha,dd, ?_⟩;have rl:=ktH.val k;refine⟨(lP kvs k).getD y,H,I.tok _, ?_,q⟩;cases hv:lP kvs k with
  |none=>
   rw[hv] at rl;cases ht:(atKey ts k).map (·.2) with
   |none=>exact ru
   |some z=>rw[ht] at rl;cases rl
  |some z=>rw[hv] at rl;obtain⟨w',hw,rw'⟩:=RelO.some_of (v:=z) (o:=(atKey ts k).map (·.2)) rl;rw[hw];exact rw'
theorem oN(i:Nat){x:Str}{p ap cp:Pos}(hu:X.A.units+1<AR)(hget:∀ (σ:St) (F H:Hp),StF X.K X.B₀ F H σ sd->∃l o xs,σ[i]? =some (some<|.ref l)/\H l=some (exO l o)/\RepL X.K F ds xs/\ks.length=ds.length/\TDo X.prog X.w F l o (ks.zip xs))
  (hb:PEd X sd b (.val (.tup<|k.map kD))) (hc:PEd X sd c (.val d0)) (h1:∀n:Nat,ks[n]? =some k->ds[n]? =some d) (h2:k∉ks->d0=d)
  (hm:PE X (.Call (.Attribute (.Name x p) "get" ap) [b,c] [] cp) (λσ H Q=>qY i σ H λx H1=>(∃l ob,x=.ref l/\H1 l=some (exO l ob)/\ob.ExactDict)/\(xI (wE X b)<|xI (wE X c) aKl) σ H1 λxs H2=>rGT X x xs H2 Q):=by exact aNT PySem.F.plainAttrs_dict aBp PySem.F.type_dict_get aJc (pv _) (lZ gI<|lZ gI pa_nil)):
  PEd X sd (.Call (.Attribute (.Name x p) "get" ap) [b,c] [] cp) (.val d):= .mk fun σ F H S=>hm.to (by
 obtain⟨l,o,xs,g1,g2,g3,g4,g5⟩:=hget σ F H S;refine⟨.ref l,g1,⟨l,o,rfl,g2,g5.2.2.choose_spec.2.choose_spec.choose_spec.1⟩,(hb σ F H S).imp λv1 H1 ⟨F1,S1,s1,q1⟩=>(hc σ F1 H1 S1).imp λv2 H2 ⟨F2,S2,s2,q2⟩=> ?_⟩;obtain⟨l',o',xs',f1,f2,f3,f4,f5⟩:=hget σ F2 H2 S2;rw[g1] at f1;cases f1;simp only[ResOk,Rep] at q1;obtain⟨ad,ys,rfl,ha,rl⟩:=q1;rw[qD rl] at ha;refine⟨F2,l,ad,k,v2,o',ks.zip xs',rfl,rfl,S2.sub,f2,s2 _ _ ha,hu,f5,F2,S2,s1.trans s2, ?_⟩;cases hv:lP (ks.zip xs') k with
 |none=>have:=h2<|aDM (by rw[f4,f3.len]) hv;subst this;exact q2
 |some z=>
  obtain⟨n,e1,e2⟩:=aAp hv;obtain⟨v,e3,r⟩:=f3.get<|h1 n e1;rw[e2] at e3;cases e3
  exact r)
theorem nZ{i:Nat}(hs:sd[i]? =some (odT X.prog X.w X.K l ks ds)):∀ (σ:St) (F H:Hp),StF X.K X.B₀ F H σ sd->∃l o xs,σ[i]? =some (some<|.ref l)/\H l=some (exO l o)/\RepL X.K F ds xs/\ks.length=ds.length/\TDo X.prog X.w F l o (ks.zip xs):=λσ F H S=>by obtain⟨h1,_,o,xs,h3,h4,h5,h6⟩:=sK S hs;exact⟨l,o,xs,h1,h3,h4,h5,h6⟩
theorem aAd{i:Nat}(hs:sd[i]? =some (odF X.prog X.w X.K ks ds)):∀ (σ:St) (F H:Hp),StF X.K X.B₀ F H σ sd->∃l o xs,σ[i]? =some (some<|.ref l)/\H l=some (exO l o)/\RepL X.K F ds xs/\ks.length=ds.length/\TDo X.prog X.w F l o (ks.zip xs):=λσ F H S=>by
 obtain⟨ov,h1,v0,h2,_,h4⟩:=S.slots.get hs;obtain⟨l,o,xs,rfl,g1,g2,g3,g4⟩:=h4 F H (Same.refl _) λ_ _ _ q=>q
 subst h2;exact⟨l,o,xs,h1,S.sub _ _ g1,g2,g3,g4⟩
theorem aAh(i:Nat){x:Str}{p p2:Pos}{n:Nat}(hu:X.A.units+1<AR)(hs:sd[i]? =some (odT X.prog X.w X.K l ks ds))(hx:PE X (.Name x p) (qY i))(h:PEd X sd e (.val d))(hb:PEd X sd b (.val (.tup<|k.map kD)))(nd:ks.Nodup)(hk:ks[n]? =some k)(hE:E.nx (sd.set i (odT X.prog X.w X.K l ks<|ds.set n d)))
  (hsw:Af e (some<|.Subscript (.Name x p) b p2) pos.line X.env=pure false:=by rfl):PSd1 X sd (.Assign [.Subscript (.Name x p) b p2] e pos) E:=.mk λσ F H S pins s I=>by
 refine wpAny_Assign_Subscript (thn (h σ F H S pins s I) λr s1 ⟨v,H1,I1,rv,F1,S1,sF1,q1⟩=> ?_) hsw;obtain⟨h1,_⟩:=sK S1 hs;refine thn (hx pins s1 σ H1 (λv H2=>v=.ref l/\H2=H1) I1 ⟨.ref l,h1,rfl,rfl⟩) λu s2 ⟨y,H2,I2,ry,e1,e2⟩=> ?_
 subst e1 e2;obtain rfl:u=Value.ref l:=ry;refine thn (hb σ F1 H2 S1 pins s2 I2) λiv s3 ⟨y,H3,I3,ry,F3,S3,sF3,q3⟩=> ?_
 obtain⟨g1,g2,o,xs,g3,g4,g5,z,hm,ts,kt,es,ep,t1,t2,t3,t4⟩:=sK S3 hs;simp only[ResOk,Rep] at q3;obtain⟨ad,ys,rfl,ha,rl⟩:=q3;rw[qD rl] at ha;obtain rfl:iv=Value.ref ad:=ry;have ho:s3.heap.get? l=some o:=(I3.hok l _ g3).1;have ktH:KT H3 (ks.zip xs) ts:=kt.keeps λb ys e=>S3.sub _ _ e
 have dd:s3.heap.DictOfH (Ao<|eC X.prog X.w) l ts:=⟨o,es,ep,ho,t1,t2,t3,KT.all I3.hok ktH,t4⟩;have lz:ks.length=xs.length:=by rw[g5,g4.len]
 have hz:ts.length<=AN:=by rw[<-Paired.length kt];exact z
 refine wpAny_setItem_heap (hsz:=hz) (BG hu) (mO I3.hok<|S3.sub _ _ ha) dd λh' dd' hsm=> ?_
 obtain⟨q,es',ep',hq,u2,u3,u4,_,u5⟩:=dd';have I4:=aAV (t':=s3.toks+(Ao<|eC X.prog X.w).draws k) I3 (ob:=exO l q) (by rw[g3];exact True.intro) hsm ⟨q,hq⟩<|aDp hq;have kt':=kt.put k ha rv;rw[aJR nd lz hk] at kt';refine⟨σ,_,I4,_,F3,S3.reT (z':=odT X.prog X.w X.K l ks<|ds.set n d) hs g1 (λb ob hb q=> ?_) (xC S3.smp l) (aDr g2 cD (λv z=>by rw[u3] at z;cases z) (g4.set (Rep.mono sF3 q1) n) (by rw[gU,g5]) ⟨by rw[yY,gU,<-yY];exact z,hm,_,kt',es',ep',u2,u3,u4,u5⟩) (show[l].Nodup by simp) λa ha=>.inl ha,sF1.trans sF3,hE⟩;rw[bU (show b≠l from λz=>hb<|z▸dN l)];exact q
noncomputable def tdR(P:AI)(w:AL)(K:aB)(ks:List (List Key))(ds:List D):R:=.ox λv as F H=>∃l,as=[l]/\Gt P w K l ks ds v F H
theorem aFq(i:Nat){x:Str}{p:Pos}(hN:X.N.Nodup)(hi:X.N[i]? =some x)(hx:Loc X.env.scope x)(h:PEd X sd e (tdR X.prog X.w X.K ks ds))(hE:E.nx (sd.set i<|odF X.prog X.w X.K ks ds))(hs:Af e (some<|.Name x p) pos.line X.env=pure false:=by rfl)
  (hf:X.fn x=true\/X.env.scope.names.lookup x=some .local:=by first|exact .inl rfl|exact .inr rfl|assumption):PSd1 X sd (.Assign [.Name x p] e pos) E:=.mk λσ F H S=>
 (tS hN hi hx gI hs hf).to ((h σ F H S).imp fun v H' ⟨F',S',s',as,nd,q,g⟩=>by
  obtain⟨l,rfl,rfl,o,xs,g1,nc,g2,hk,td⟩:=g F' H' (Same.refl _) λ_ _ _ z=>z
  obtain⟨S2,s2⟩:=S'.inN (l:=l) (ls:=[]) (λa ha=>(q a ha).1) λa ha=>(q a ha).2.2
  have f1:(inF F' H' [l]) l=some (exO l o):=by rw[aBI aK];exact g1
  exact⟨_,_,S2.setX (as:=[]) i (v:=.ref l) ⟨.ref l,rfl,λa ha=>(nomatch ha),λF2 H2 s3 _=>⟨l,o,xs,rfl,s3 _ _ f1,(g2.mono s2).mono s3,hk,(td.mono s2).mono s3⟩⟩ eD λa ha=>(nomatch ha),s'.trans s2,hE⟩)
def GW(K:aB)(m:List Bool)(l0 l:BJ)(ls:List BJ)(dss:List (List D)):V->Hp->Hp->Prop:=λv F H=>v=.ref l0/\H l0=some (.lst [.ref l,.int 0])/\H l=some (.lst<|shp V.non V.ref m ls)/\InD K F H ls dss
variable {ix:Expr}{ls:List BJ}{dss:List (List D)}{m:List Bool}
theorem aGf{body:List BN}{h₀:ExceptHandler}{hs:List ExceptHandler}(hb:PSd X sd body E)(hxe:X.xe=(λ_ _=>False):=by rfl):PSd1 X sd (.Try body (h₀::hs) [] [] pos) E:=.mk λσ F H S pins s I=>by
 have h:=hb σ F H S pins s I;rw[hxe] at h;refine wpAny_Try_except<|AW h (λf s1 q=> ?_) λ_ _ z=>z.elim;cases f with
 |next=>obtain⟨σ',H',I',q⟩:=q;exact pss_nil pins s1 σ' H' (lft X F E) I' q
 |brk=>exact q
 |cont=>exact q
 |ret u=>exact q
noncomputable abbrev Wnt:=List<|Option Int
noncomputable abbrev Exs:=List<|List Int×Wnt
noncomputable def oiD:Option Int->D
 |none=>.non
 |some i=>.int i
noncomputable def oiO:D->Option Int
 |.int i=>some i
 |_=>none
theorem uK(o:Option Int):oiO (oiD o)=o:=by cases o<;>rfl
noncomputable def wnD(w:Wnt):D:=.tup<|w.map oiD
noncomputable def exD(x:List Int×Wnt):D:=.tup [aT x.1,wnD x.2]
noncomputable def bw:Option Int->Option Int->Option (Option Int)
 |none,b=>some b
 |some x,none=>some<|some x
 |some x,some y=>if y=x then some (some x) else none
noncomputable def bwt:Wnt->Wnt->Option Wnt
 |[],_=>some []
 |_::_,[]=>some []
 |a::u,b::v=>match bw a b,bwt u v with
  |some c,some x=>some (c::x)
  |_,_=>none
theorem sQ:∀ {u v x:Wnt},u.length=v.length->bwt u v=some x->x.length=u.length/\∀b,b<u.length->bw (u.getD b none) (v.getD b none)=some (x.getD b none)
 |[],[],x,_,h=>by cases h;exact⟨rfl,λb hb=>by simp at hb⟩
 |[],_::_,_,hl,_=>by simp at hl
 |_::_,[],_,hl,_=>by simp at hl
 |a::u,b::v,x,hl,h=>by
  unfold bwt at h;cases e1:bw a b with
  |none=>rw[e1] at h;cases h
  |some c=>
   cases e2:bwt u v with
   |none=>rw[e1,e2] at h;cases h
   |some y=>
    rw[e1,e2] at h;cases h;obtain⟨l,q⟩:=sQ (by simpa using hl) e2;refine⟨by simp[l],λi hi=> ?_⟩;cases i with
    |zero=>simpa using e1
    |succ i=>simpa using q i (by simpa using hi)
theorem wL:∀ {u v:Wnt},u.length=v.length->bwt u v=none->∃n,n<u.length/\bw (u.getD n none) (v.getD n none)=none/\∀k,k<n->∃c,bw (u.getD k none) (v.getD k none)=some c
 |[],_,_,h=>by cases h
 |_::_,[],_,h=>by cases h
 |a::u,b::v,hl,h=>by
  unfold bwt at h;cases e1:bw a b with
  |none=>exact⟨0,by simp,by simpa using e1,λk hk=>by omega⟩
  |some c=>
   cases e2:bwt u v with
   |some y=>rw[e1,e2] at h;cases h
   |none=>
    obtain⟨n,h1,h2,h3⟩:=wL (by simpa using hl) e2;refine⟨n+1,by simpa using h1,by simpa using h2,λk hk=> ?_⟩;cases k with
    |zero=>exact⟨c,by simpa using e1⟩
    |succ k=>simpa using h3 k<|by omega
theorem aJX(a:Option Int):bw a a=some a:=by
 cases a with
 |none=>rfl
 |some x=>exact if_pos rfl
theorem wV:∀w:Wnt,bwt w w=some w
 |[]=>rfl
 |a::w=>by unfold bwt;rw[aJX,wV w]
theorem bw_l{a b c:Option Int}(h:bw a b=some c){x:Int}(e:a=some x):c=some x:=by
 subst e;cases b with
 |none=>cases h;rfl
 |some y=>
  have h:(if y=x then some (some x) else none)=some c:=h
  split at h
  ·cases h;rfl
  ·cases h
theorem bw_r{a b c:Option Int}(h:bw a b=some c){x:Int}(e:b=some x):c=some x:=by
 subst e;cases a with
 |none=>cases h;rfl
 |some y=>
  have h:(if x=y then some (some y) else none)=some c:=h
  split at h
  ·rename_i q;cases h;rw[q]
  ·cases h
theorem aNU{a b c:Option Int}(h:bw a b=some c){x:Int}(e:c=some x):a=some x\/b=some x:=by
 subst e;cases a with
 |none=>cases h;exact .inr rfl
 |some y=>
  cases b with
  |none=>cases h;exact .inl rfl
  |some z=>
   have h:(if z=y then some (some y) else none)=some (some x):=h
   split at h
   ·cases h;exact .inl rfl
   ·cases h
theorem aLh{a b:Option Int}(h:bw a b=none):∃x y,a=some x/\b=some y/\y≠x:=by
 cases a with
 |none=>cases h
 |some x=>
  cases b with
  |none=>cases h
  |some y=>
   have h:(if y=x then some (some x) else none)=none:=h
   split at h
   ·cases h
   ·rename_i q;exact⟨x,y,rfl,rfl,q⟩
noncomputable def uL(G:List (List Int)×List Wnt)(x:List Int×Wnt):Option (List (List Int)×List Wnt):=
 if x.1∈G.1 then(bwt (G.2.getD (G.1.idxOf x.1) []) x.2).map λu=>(G.1,G.2.set (G.1.idxOf x.1) u) else some (G.1++[x.1],G.2++[x.2])
noncomputable def lY(E:Exs):Nat->Option (List (List Int)×List Wnt)
 |0=>some ([],[])
 |t+1=>(lY E t).bind λG=>uL G<|E.getD t ([],[])
noncomputable def gth(E:Exs):=lY E E.length
structure EOk(p:Int×Int)(E:Exs):Prop where
 fil:∀x∈E,x.1∈bC p
 len:∀x∈E,x.2.length=p.2.toNat
 wd:∀x∈E,∀b w,x.2.getD b none=some w->0<=w/\w<((2^p.1.toNat:Nat):Int)
structure GOk(n:Nat)(E:Exs)(t:Nat)(G:List (List Int)×List Wnt):Prop where
 nd:G.1.Nodup
 ln:G.1.length=G.2.length
 mem:∀f,f∈G.1↔∃i,i<t/\(E.getD i ([],[])).1=f
 wl:∀u∈G.2,u.length=n
 has:∀i,i<t->∀b w,b<n->(E.getD i ([],[])).2.getD b none=some w->(G.2.getD (G.1.idxOf (E.getD i ([],[])).1) []).getD b none=some w
 from_:∀f∈G.1,∀b w,b<n->(G.2.getD (G.1.idxOf f) []).getD b none=some w->∃i,i<t/\(E.getD i ([],[])).1=f/\(E.getD i ([],[])).2.getD b none=some w
theorem gok0(n:Nat)(E:Exs):GOk n E 0 ([],[]):=⟨eD,rfl,λf=>⟨λh=>(nomatch h),λ⟨i,h,_⟩=>(by omega)⟩,λu h=>(nomatch h),λi h=>(by omega),λf h=>(nomatch h)⟩
theorem qF{α:Type}{l:List α}{i j:Nat}{a d:α}(h:i≠j):(l.set i a).getD j d=l.getD j d:=by simp[bF,iW h]
theorem kX{α:Type}{l:List α}{i:Nat}{a d:α}(h:i<l.length):(l.set i a).getD i d=a:=by simp[bF,h]
theorem aGw{n:Nat}{E:Exs}{t:Nat}{G G':List (List Int)×List Wnt}(hw:(E.getD t ([],[])).2.length=n)(O:GOk n E t G)(h:uL G (E.getD t ([],[]))=some G'):GOk n E (t+1) G':=by
 obtain⟨x,ex⟩:∃x,E.getD t ([],[])=x:=⟨_,rfl⟩;rw[ex] at h hw;have lt1:∀ {i:Nat},i<t+1->i<t\/i=t:=λ{i} h=>by omega
 unfold uL at h
 split at h
 ·rename_i hm;obtain⟨u,hu,e⟩:=cS.mp h;subst e;have il:G.1.idxOf x.1<G.1.length:=bO hm;have il2:G.1.idxOf x.1<G.2.length:=by rw[<-O.ln];exact il
  have um:=getD_mem (d:=([]:Wnt)) il2;have ul:=O.wl _ um;obtain⟨l1,l2⟩:=sQ (by rw[ul,hw]) hu
  have idx:∀f∈G.1,f≠x.1→G.1.idxOf x.1≠G.1.idxOf f:=fun f hf ne e=>ne (by
   have a:=gK<|bO hf;have b:=gK il;rw[<-a,<-b];congr 1
   exact e.symm)
  refine⟨O.nd,by rw[gU];exact O.ln,λf=> ?_,λv hv=> ?_,λi hi b w hb hq=> ?_,λf hf b w hb hq=> ?_⟩
  ·rw[O.mem f]
   constructor
   ·rintro⟨i,h1,h2⟩;exact⟨i,by omega,h2⟩
   ·rintro⟨i,h1,h2⟩
    rcases lt1 h1 with q|q
    ·exact⟨i,q,h2⟩
    ·subst q;rw[ex] at h2;rw[<-h2];exact(O.mem _).mp hm
  ·rcases nU hv with q|q
   ·exact O.wl v q
   ·rw[q,l1,ul]
  ·rcases lt1 hi with q|q
   ·have:=O.has i q b w hb hq
    by_cases ef:(E.getD i ([],[])).1=x.1
    ·rw[ef] at this ⊢;rw[kX il2];exact bw_l (l2 b<|by rw[ul];exact hb) this
    ·rw[qF<|idx _ ((O.mem _).mpr ⟨i,q,rfl⟩) ef];exact this
   ·subst q;rw[ex] at hq ⊢;rw[kX il2];exact bw_r (l2 b<|by rw[ul];exact hb) hq
  ·by_cases ef:f=x.1
   ·subst ef;rw[kX il2] at hq
    rcases aNU (l2 b<|by rw[ul];exact hb) hq with q|q
    ·obtain⟨i,h1,h2,h3⟩:=O.from_ _ hf b w hb q;exact⟨i,by omega,h2,h3⟩
    ·exact⟨t,by omega,by rw[ex],by rw[ex];exact q⟩
   ·rw[qF<|idx f hf ef] at hq;obtain⟨i,h1,h2,h3⟩:=O.from_ f hf b w hb hq;exact⟨i,by omega,h2,h3⟩
 ·rename_i hm;cases h;have il:∀f∈G.1,(G.1++[x.1]).idxOf f=G.1.idxOf f:=λf hf=>by rw[aIo,if_pos hf]
  have ix:(G.1++[x.1]).idxOf x.1=G.2.length:=by rw[aIo,if_neg hm,O.ln];simp
  have g1:∀f∈G.1,(G.2++[x.2]).getD (G.1.idxOf f) []=G.2.getD (G.1.idxOf f) []:=λf hf=>by have:=bO hf;rw[O.ln] at this;simp[bF,fP this]
  have g2:(G.2++[x.2]).getD G.2.length []=x.2:=by simp[bF]
  refine⟨cX.mpr ⟨O.nd,by simp,λa ha b hb e=>hm<|by rw[<-bA.mp hb,<-e];exact ha⟩,by simp[O.ln],λf=> ?_,λv hv=> ?_,λi hi b w hb hq=> ?_,λf hf b w hb hq=> ?_⟩
  ·rw[aJ,O.mem f,bA]
   constructor
   ·rintro(⟨i,h1,h2⟩|h2)
    ·exact⟨i,by omega,h2⟩
    ·exact⟨t,by omega,by rw[ex,h2]⟩
   ·rintro⟨i,h1,h2⟩
    rcases lt1 h1 with q|q
    ·exact .inl ⟨i,q,h2⟩
    ·subst q;rw[ex] at h2;exact .inr h2.symm
  ·rcases aJ.mp hv with q|q
   ·exact O.wl v q
   ·rw[bA.mp q];exact hw
  ·rcases lt1 hi with q|q
   ·have mf:=(O.mem _).mpr ⟨i,q,rfl⟩;rw[il _ mf,g1 _ mf];exact O.has i q b w hb hq
   ·subst q;rw[ex] at hq ⊢;rw[ix,g2];exact hq
  ·rcases aJ.mp hf with q|q
   ·rw[il f q,g1 f q] at hq;obtain⟨i,h1,h2,h3⟩:=O.from_ f q b w hb hq;exact⟨i,by omega,h2,h3⟩
   ·have q:=bA.mp q;subst q;rw[ix,g2] at hq;exact⟨t,by omega,by rw[ex],by rw[ex];exact hq⟩
theorem gok{p:Int×Int}{E:Exs}(O:EOk p E):∀ {t:Nat}{G:List (List Int)×List Wnt},t<=E.length->lY E t=some G->GOk p.2.toNat E t G
 |0,G,_,h=>by cases h;exact gok0 _ _
 |t+1,G,ht,h=>by obtain⟨G0,h0,h1⟩:=oG.mp (show(lY E t).bind _=some G from h);exact aGw (O.len _ (getD_mem<|by omega)) (gok O (by omega) h0) h1
noncomputable def nR(E:Exs)(f:List Int)(n:Nat):List (Nat×Int):=E.flatMap λx=>if x.1=f then(bK n).filterMap λb=>(x.2.getD b none).map λw=>(b,w) else[]
theorem ins_mem{E:Exs}{f:List Int}{n b:Nat}{w:Int}:(b,w)∈nR E f n↔b<n/\∃x∈E,x.1=f/\x.2.getD b none=some w:=by
 unfold nR;rw[fR]
 constructor
 ·rintro⟨x,hx,h⟩
  split at h
  ·rename_i e;obtain⟨b',hb,h⟩:=iG.mp h;obtain⟨w',hw,h⟩:=cS.mp h;cases h;exact⟨bB.mp hb,x,hx,e,hw⟩
  ·cases h
 ·rintro⟨hb,x,hx,e,hw⟩;refine⟨x,hx, ?_⟩;rw[if_pos e];exact iG.mpr ⟨b,bB.mpr hb,by rw[hw];rfl⟩
noncomputable def aFF(L:List (Nat×Int))(g:List Int):Bool:=decide (∀q∈L,g.getD q.1 0=q.2)
noncomputable def pS(p:Int×Int)(E:Exs)(f:List Int):Option (List<|List Int):=if nR E f p.2.toNat=[] then none else some ((bC p).filter λg=>aFF (nR E f p.2.toNat) g)
noncomputable def cE(p:Int×Int)(E:Exs):List (Option (List<|List Int)):=(bC p).map<|pS p E
noncomputable def hw1(x:Int)(o:Option Int):Bool:=match o with
 |none=>true
 |some w=>decide<|x=w
noncomputable def hwQ(f:List Int)(u:Wnt):Bool:=((bK<|min f.length u.length).map λi=>hw1 (f.getD i 0)<|u.getD i none).all id
noncomputable def noW(u:Wnt):Bool:=(u.map aAA).all id
noncomputable def uQ(p:Int×Int)(u:Wnt):Option (List<|List Int):=if noW u=true then none else some ((bC p).filter λg=>hwQ g u)
noncomputable def gX(G:List (List Int)×List Wnt)(f:List Int):Wnt:=if f∈G.1 then G.2.getD (G.1.idxOf f) [] else[]
noncomputable def aOo(p:Int×Int)(G:List (List Int)×List Wnt):List (Option (List<|List Int)):=(bC p).map λf=>uQ p<|gX G f
theorem aLK{f:List Int}{u:Wnt}(h:f.length=u.length):hwQ f u=true↔∀b w,b<u.length->u.getD b none=some w->f.getD b 0=w:=by
 unfold hwQ;rw[aCX,bN,h,nA]
 constructor
 ·intro q b w hb e;have:=q b<|bB.mpr hb;have this:hw1 (f.getD b 0) (u.getD b none)=true:=this;rw[e] at this;exact of_decide_eq_true this
 ·intro q b hb;have hb:=bB.mp hb;show hw1 (f.getD b 0) (u.getD b none)=true;cases e:u.getD b none with
  |none=>rfl
  |some w=>exact decide_eq_true<|q b w hb e
theorem aLX{u:Wnt}:noW u=true↔∀b,b<u.length->u.getD b none=none:=by
 unfold noW;rw[aCX,bN]
 constructor
 ·intro q b hb;have:=q (u.getD b none)<|getD_mem hb;exact zO.mp this
 ·intro q o ho;obtain⟨b,hb,rfl⟩:=eW ho;have:=q b hb;have e:u.getD b none=u[b]:=by simp[bF,hb]
  rw[e] at this;show u[b].isNone=true;rw[this];rfl
variable {p:Int×Int}{E:Exs}{G:List (List Int)×List Wnt}{f g:List Int}
theorem mM(O:EOk p E)(h:gth E=some G){b:Nat}{w:Int}(hb:b<p.2.toNat):(b,w)∈nR E f p.2.toNat↔(gX G f).getD b none=some w:=by
 have K:=gok O (aG _) h;rw[ins_mem];unfold gX
 constructor
 ·rintro⟨_,x,hx,rfl,hw⟩;obtain⟨i,hi,rfl⟩:=eW hx;have e:E.getD i ([],[])=E[i]:=by simp[bF,hi]
  have m:E[i].1∈G.1:=(K.mem _).mpr ⟨i,hi,by rw[e]⟩;rw[if_pos m];have:=K.has i hi b w hb (by rw[e];exact hw);rw[e] at this;exact this
 ·intro q
  split at q
  ·rename_i m;obtain⟨i,hi,e1,e2⟩:=K.from_ f m b w hb q;exact⟨hb,_,getD_mem hi,e1,e2⟩
  ·simp at q
theorem aCa(O:EOk p E)(h:gth E=some G)(hf:f∈G.1):(gX G f).length=p.2.toNat:=by have K:=gok O (aG _) h;unfold gX;rw[if_pos hf];exact K.wl _ (getD_mem<|by rw[<-K.ln];exact bO hf)
theorem aIO(hp:p∈bX)(O:EOk p E)(h:gth E=some G):uQ p (gX G f)=pS p E f:=by
 have K:=gok O (aG _) h
 by_cases hf:f∈G.1
 ·have wl:=aCa O h hf
  have e0:noW (gX G f)=true↔nR E f p.2.toNat=[]:=by
   rw[aLX,wl]
   constructor
   ·intro q;refine vQ.mpr λ⟨b,w⟩ hm=> ?_
    have hb:=(ins_mem.mp hm).1;have:=(mM O h hb).mp hm;rw[q b hb] at this;cases this
   ·intro q b hb;cases e:(gX G f).getD b none with
    |none=>rfl
    |some w=>have:=(mM O h hb).mpr e;rw[q] at this;cases this
  unfold uQ pS
  by_cases z:nR E f p.2.toNat=[]
  ·rw[if_pos<|e0.mpr z,if_pos z]
  ·rw[if_neg (λq=>z<|e0.mp q),if_neg z];refine congrArg some<|oB λg hg=> ?_;have gl:=(hJ hp hg).len;apply eP.mpr;rw[aLK (by rw[gl,wl]),wl];unfold aFF;rw[decide_eq_true_iff]
   constructor
   ·rintro q ⟨b,w⟩ hm;have hb:=(ins_mem.mp hm).1;exact q b w hb<|(mM O h hb).mp hm
   ·intro q b w hb e;exact q (b,w)<|(mM O h hb).mpr e
 ·have z:nR E f p.2.toNat=[]:=vQ.mpr λ⟨b,w⟩ hm=>by have hb:=(ins_mem.mp hm).1;have:=(mM O h hb).mp hm;unfold gX at this;rw[if_neg hf] at this;simp at this
  unfold uQ pS gX;rw[if_neg hf,if_pos (show noW []=true from rfl),if_pos z]
theorem aJN(hp:p∈bX)(O:EOk p E)(h:gth E=some G):aOo p G=cE p E:=cI λf _=>aIO hp O h
theorem aHG(hp:p∈bX)(O:EOk p E)(h:gth E=some G):some []∉cE p E:=λhm=>by
 obtain⟨f,_,e⟩:=aH.mp hm;unfold pS at e
 split at e
 ·cases e
 ·rename_i ne;have e:=bT.inj e;obtain⟨g,hg⟩:∃g,g=(bK p.2.toNat).map λb=>((gX G f).getD b none).getD 0:=⟨_,rfl⟩
  have gb:∀b,b<p.2.toNat->g.getD b 0=((gX G f).getD b none).getD 0:=λb hb=>by rw[hg];simp[bF,hb]
  have gm:g∈bC p:=by
   refine vO (by rw[hg];simp) λw hw=> ?_
   rw[hg] at hw;obtain⟨b,hb,rfl⟩:=aH.mp hw;have hb:=bB.mp hb;cases q:(gX G f).getD b none with
   |none=>refine⟨Int.le_refl _, ?_⟩;show(0:Int)<((2^p.1.toNat:Nat):Int);have:0<2^p.1.toNat:=Nat.pow_pos (by decide);omega
   |some w=>obtain⟨_,x,hx,_,hw⟩:=ins_mem.mp<|(mM (f:=f) O h hb).mpr q;exact O.wd x hx b w hw
  have:g∈(bC p).filter fun g=>aFF (nR E f p.2.toNat) g:=eM.mpr ⟨gm,decide_eq_true fun ⟨b,w⟩ hq=>by
   have hb:=(ins_mem.mp hq).1;show g.getD b 0=w;rw[gb b hb,(mM O h hb).mp hq]
   rfl⟩
  rw[e] at this;cases this
theorem aIe(O:EOk p E):∀ {t:Nat},t<=E.length->lY E t=none->some []∈cE p E
 |0,_,h=>by cases h
 |t+1,ht,h=>by
  cases h0:lY E t with
  |none=>exact aIe O (by omega) h0
  |some G=>
   have K:=gok O (by omega) h0
   have h1:uL G (E.getD t ([],[]))=none:=by have h:(lY E t).bind _=none:=h;rw[h0] at h;exact h
   have xm:E.getD t ([],[])∈E:=getD_mem (by omega);obtain⟨x,ex⟩:∃x,E.getD t ([],[])=x:=⟨_,rfl⟩;rw[ex] at h1 xm;unfold uL at h1
   split at h1
   ·rename_i hm;have hu:=Option.map_eq_none_iff.mp h1;have il2:G.1.idxOf x.1<G.2.length:=by rw[<-K.ln];exact bO hm
    have ul:=K.wl _<|getD_mem (d:=([]:Wnt)) il2;obtain⟨b,hb,q,_⟩:=wL (by rw[ul,O.len x xm]) hu;rw[ul] at hb;obtain⟨v,w,e1,e2,ne⟩:=aLh q;obtain⟨i,hi,f1,f2⟩:=K.from_ x.1 hm b v hb e1;have m1:(b,v)∈nR E x.1 p.2.toNat:=ins_mem.mpr ⟨hb,_,getD_mem<|by omega,f1,f2⟩;have m2:(b,w)∈nR E x.1 p.2.toNat:=ins_mem.mpr ⟨hb,x,xm,rfl,e2⟩;refine aH.mpr ⟨x.1,O.fil x xm, ?_⟩;unfold pS;rw[if_neg λz=>by rw[z] at m1;cases m1];refine congrArg some<|aCS.mpr λg _ hg=> ?_;have hg:=of_decide_eq_true hg;exact ne ((hg _ m2).symm.trans<|hg _ m1)
   ·cases h1
structure Xk34(K:aB)(mg:Str->Option BH)(CN:BJ):Prop where
 xc:XCls K CN
 ex:lB K CN aMT "ValueError.__new__"=true
 le:∃C:BJ,mg "LeastError"=some (.ref C)/\qM K (.ref CN) (.ref C)=some true
 nw:mg "NoWish"=some (.ref CN)/\kA K (.ref CN) (.ref CN)=some true
 ve:mg "ValueError"=none/\kA K (.ref CN) (.type "ValueError")=some true
 nc:∃C:BJ,mg "NoChange"=some (.ref C)/\kA K (.ref CN) (.ref C)=some false
 nt:∃C:BJ,mg "NoText"=some (.ref C)/\kA K (.ref CN) (.ref C)=some false
 nd:∃C:BJ,mg "NoWindow"=some (.ref C)/\kA K (.ref CN) (.ref C)=some false
 tg:∃C:BJ,mg "TooGreat"=some (.ref C)/\kA K (.ref CN) (.ref C)=some false
def CBw:List D->R->Prop:=λds r=>∃a b c,bw a b=some c/\ds=[oiD a,oiD b]/\r=.val (oiD c)
def XBw:List D->Prop:=λds=>∃a b,bw a b=none/\ds=[oiD a,oiD b]
def aOv:List D->R->Prop:=λds r=>∃u v x,u.length=v.length/\u.length<=100/\bwt u v=some x/\ds=[wnD u,wnD v]/\r=.val (wnD x)
def aOE:List D->Prop:=λds=>∃u v,u.length=v.length/\u.length<=100/\bwt u v=none/\ds=[wnD u,wnD v]
def aOM(P:AI)(w:AL)(K:aB):List D->R->Prop:=λds r=>∃p E G,p∈bX/\EOk p E/\E.length<=100/\gth E=some G/\ds=[.lst<|E.map exD]/\r=tdR P w K (G.1.map kY) (G.2.map wnD)
def aOP:List D->Prop:=λds=>∃p E,p∈bX/\EOk p E/\E.length<=100/\gth E=none/\ds=[.lst<|E.map exD]
def CHw:List D->R->Prop:=λds r=>∃f u,f.length<=100/\ds=[aT f,wnD u]/\r=.val (.bl<|hwQ f u)
noncomputable def aOq:Option (List<|List Int)->R
 |none=>.val .non
 |some c=>.own<|c.map aT
def aOw:List D->R->Prop:=λds r=>∃p u,p∈bX/\u.length<=100/\ds=[cH p,wnD u]/\r=aOq (uQ p u)
def aMY(K:aB):List D->R->Prop:=λds r=>∃p E G,p∈bX/\EOk p E/\E.length<=100/\gth E=some G/\ds=[cH p,.lst<|E.map exD]/\r=ooR K (mkM<|cE p E) (mkL<|cE p E)
def aNg:List D->Prop:=λds=>∃p E,p∈bX/\EOk p E/\E.length<=100/\gth E=none/\ds=[cH p,.lst<|E.map exD]
structure DOk(L:List (Nat×Int))(T:List Nat×List (List Int)):Prop where
 nd:T.1.Nodup
 ln:T.1.length=T.2.length
 mem:∀b,b∈T.1↔∃w,(b,w)∈L
 val:∀b∈T.1,∀w,w∈T.2.getD (T.1.idxOf b) []↔(b,w)∈L
 le:T.2.length<=L.length/\∀l∈T.2,l.length<=L.length
theorem aHV{k:Nat}(h:(E.map exD)[k]? =some d):k<E.length/\d=exD (E.getD k ([],[])):=by
 have hk:k<E.length:=by have:=(aZ.mp h).1;simpa using this
 rw[bL] at h;have:E[k]? =some (E.getD k ([],[])):=by simp[bF,hk]
 rw[this] at h;exact⟨hk,(bT.inj h).symm⟩
theorem wH{w:Wnt}{k:Nat}(h:(w.map oiD)[k]? =some d):k<w.length/\d=oiD (w.getD k none):=by
 have hk:k<w.length:=by have:=(aZ.mp h).1;simpa using this
 rw[bL] at h;have:w[k]? =some (w.getD k none):=by simp[bF,hk]
 rw[this] at h;exact⟨hk,(bT.inj h).symm⟩
theorem aLL(o:Option Int):isN (oiD o)=o.isNone:=by cases o<;>rfl
theorem aGG{bs:List Bool}{its:List BH}{i:Nat}{v:BH}(r:Vals (bs.map V.bl) its)(h:its[i]? =some v):∃b,bs[i]? =some b/\v=.bool b:=by
 have hi:i<its.length:=(aZ.mp h).1;have hl:=r.length;rw[aA] at hl;have hb:i<bs.length:=by omega
 obtain⟨u,h1,h2⟩:=r.get (i:=i) (x:=.bl bs[i]) (by simp[hb]);rw[h] at h1;cases h1;exact⟨bs[i],by simp[hb],h2⟩
theorem aCI(bs:List Bool):((bK bs.length).all λi=>(bs[i]?).getD true)=bs.all id:=by
 apply eP.mpr;simp only[bN,bB,id_eq]
 constructor
 ·intro h b hb;obtain⟨i,hi,rfl⟩:=eW hb;have:=h i hi;simpa[hi] using this
 ·intro h i hi;have:=h bs[i]<|eU hi;simpa[hi] using this
theorem aEO(hc:X.calm=true):pV X (.builtin "all") (λxs H Q=>∃ (a:BJ) (bs:List Bool),xs=[.ref a]/\SqL X.K H a (bs.map V.bl)/\Q (.bl<|bs.all id) H):=by
 intro pins s σ H xs us Q I r h;obtain⟨a,bs,rfl,ha,q⟩:=h;obtain⟨u,rfl,ru⟩:=uM r;cases ru;obtain⟨its,rv,p,hz⟩:=I.list ha;have hl:=rv.length;rw[aA] at hl;have isl:s.heap.IsList a its.toArray:=p.isList;have alt:a<s.heap.objs.size:=by obtain⟨o,ho,_⟩:=isl;exact aM ho
 refine call_all_walk<|wpAny_pyIter_list isl ?_;refine⟨s.heap.objs.size,[s.heap.objs.size,a],[s.heap.objs.size],its.toArray.size,_,_,λi=>(bs[i]?).getD true,rfl,Walks.list (A:=X.A.in1) (I.ok.hd hc) _ a (bQ alt) its.toArray,⟨⟨_,bE _ rfl,rfl,rfl⟩,isl.push _⟩,λi v s' Q' E' hP hQ=> ?_,λh' tk hk=> ?_⟩
 ·obtain⟨b,e,rfl⟩:=aGG rv (by simpa using hP);simp only[e,aHc] at hQ;exact wpAny_truthy_bool hQ
 ·have e:((bK its.toArray.size).all λi=>(bs[i]?).getD true)=bs.all id:=by rw[aQ,<-hl];exact aCI bs
  rw[e]
  exact ⟨.bl (bs.all id),H,I.kept (t':=tk) fun b o g=>hk b o (fun z=>by
   have z:b=s.heap.objs.size:=by simpa using z
   exact absurd (aM g) (by rw[z];exact cQ _)) (aE _ g),rfl,q⟩
theorem RepL.bls{K:aB}:∀ {bs:List Bool}{xs:List V},RepL K H (bs.map D.bl) xs->xs=bs.map V.bl
 |[],xs,r=>by simpa only[dD,RepL] using r
 |n::ns,xs,r=>by rw[aR] at r;obtain⟨y,ys,rfl,a,rl⟩:=r.uncons;simp only[Rep] at a;rw[a,RepL.bls rl];rfl
theorem aAE{p:Pos}{bs:List Bool}(hg:Gl X "all")(hm:X.mg "all"=none)(ha:PEd X sd e (.bor<|bs.map D.bl))(hc:X.calm=true:=by rfl)(hst:AD [e] X.env=(false,eval e X.env)::AD [] X.env:=by rfl):PEd X sd (.Call (.Name "all" p) [e] [] pos) (.val (.bl<|bs.all id)):=
 sX (he:=hst) (aEO hc) hg hm boot_all (aD ha aS trivial hst) λσ F H vs Q S q k=>by
  cases q with
  |cons q1 q2=>cases q2;obtain⟨p,xs,rfl,hp,rl,_⟩:=q1;exact⟨p,bs,rfl,.of (by rw[<-rl.bls];exact hp),k _ F H S (Same.refl _)<|by simp only[ResOk,Rep]⟩
noncomputable abbrev Ch:=Nat×Nat×List Nat
noncomputable def wcQ(row:List Nat)(c:Ch):List Nat:=row.take c.1++c.2.2++row.drop (c.1+c.2.1)
noncomputable def aON(L:List SK)(row:List Nat):Int:=sumI<|prcL L row
noncomputable def aOO(p:Int×Int)(L:List SK)(row:List Nat)(o:Option (List Nat)):List (List Int):=(bC p).map λws=>match o with
 |none=>pK p L row ws
 |some l=>l.map λj=>(pK p L row ws).getD j 0
noncomputable def winB(row:List Nat)(c:Ch):Bool:=decide<|1<=c.2.1/\c.1+c.2.1<=row.length
noncomputable def hoQ(p:Int×Int)(L:List SK)(row:List Nat)(c:Ch)(o:Option (List Nat)):Bool:=winB row c&&(decide (aON L c.2.2<aON L ((row.drop c.1).take c.2.1))&&decide (aOO p L (wcQ row c) o=aOO p L row o))
def aKP(L:List SK)(row:List Nat):Prop:=∀t∈row,t<L.length
structure Chn(p:Int×Int)(L:List SK)(o:Option (List Nat))(row:List Nat)(cs:List Ch)(rs:List (List Nat)):Prop where
 len:rs.length=cs.length+1
 hd:rs.getD 0 []=row
 st:∀i,i<cs.length->hoQ p L (rs.getD i []) (cs.getD i (0,0,[])) o=true/\rs.getD (i+1) []=wcQ (rs.getD i []) (cs.getD i (0,0,[]))
 ok:∀r∈rs,aKP L r/\r.length<=8+9*cs.length
 pc:∀c∈cs,aKP L c.2.2/\c.2.2.length<=9
noncomputable def fbw:D->D
 |.tup [a,b]=>oiD<|(bw (oiO a)<|oiO b).getD none
 |_=>.non
theorem vU{u v:Wnt}:∀d∈mS (u.map oiD) (v.map oiD),∃t:Nat,t<u.length/\t<v.length/\d=.tup [oiD<|u.getD t none,oiD<|v.getD t none]:=λd hd=>by obtain⟨t,ht⟩:=gY hd;obtain⟨x,y,q1,q2,rfl⟩:=nY ht;obtain⟨q3,rfl⟩:=wH q1;obtain⟨q4,rfl⟩:=wH q2;exact⟨t,q3,q4,rfl⟩
theorem aJq{u v x:Wnt}(hl:u.length=v.length)(h:bwt u v=some x):((mS (u.map oiD)<|v.map oiD).filter λ_=>true).map fbw=x.map oiD:=by
 obtain⟨l1,l2⟩:=sQ hl h;rw[dJ.mpr λ_ _=>rfl];unfold mS;rw[aA,aA,<-hl,nA,aX];apply pE
 ·simp[l1]
 intro i h1 h2;have hi:i<u.length:=by simpa using h1
 have hv:i<v.length:=by omega
 have hx:i<x.length:=by omega
 rw[lI,lI,List.getElem_range];have a:(u.map oiD).getD i .non=oiD (u.getD i none):=by simp[bF,hi]
 have b:(v.map oiD).getD i .non=oiD (v.getD i none):=by simp[bF,hv]
 show fbw (.tup [(u.map oiD).getD i .non,(v.map oiD).getD i .non])=_;rw[a,b];show oiD ((bw (oiO _)<|oiO _).getD none)=_;rw[uK,uK,l2 i hi];simp[bF,hx]
theorem aCk{E:Exs}:∀ {n t:Nat}{G:List (List Int)×List Wnt},lY E n=some G->t<=n->∃G',lY E t=some G'
 |0,t,G,h,ht=>by
  have:t=0:=by omega
  subst this;exact⟨G,h⟩
 |n+1,t,G,h,ht=>by
  by_cases e:t=n+1
  ·subst e;exact⟨G,h⟩
  ·obtain⟨G0,h0,_⟩:=oG.mp (show(lY E n).bind _=some G from h);exact aCk h0<|by omega
theorem uG{ks:List (List Int)}(nd:ks.Nodup){n:Nat}(h:(ks.map kY)[n]? =some (kY f)):f∈ks/\n=ks.idxOf f:=by rw[bL] at h;obtain⟨g,hg,e⟩:=cS.mp h;have e:=aBz e;subst e;have hm:=cU hg;obtain⟨hn,e2⟩:=aZ.mp hg;refine⟨hm, ?_⟩;have:=gK<|bO hm;exact(lH nd).mp<|e2.trans this.symm
theorem aHm{ks:List (List Int)}(h:f∈ks):(ks.map kY)[ks.idxOf f]? =some (kY f):=by rw[bL];have:=bO h;simp[this,gK this]
theorem aFM{us:List Wnt}{n:Nat}(h:n<us.length):(us.map wnD)[n]? =some (wnD<|us.getD n []):=by simp[bF,h]
theorem aBN{ks:List (List Int)}(h:f∉ks):kY f∉ks.map kY:=λq=>by obtain⟨g,hg,e⟩:=aH.mp q;exact h<|aBz e▸hg
theorem vT{a b:List Nat}{j:Nat}(ha:∀x∈a,x<j)(hb:∀x∈b,j<=x):∀ (fuel lo hi:Nat),hi-lo<=fuel->lo<=a.length->a.length<=hi->hi<=(a++b).length->eF.go (a++b).toArray j fuel lo hi=a.length
 |0,lo,hi,h1,h2,h3,h4=>by unfold eF.go;omega
 |fuel+1,lo,hi,h1,h2,h3,h4=>by
  unfold eF.go
  by_cases hlt:lo<hi
  ·rw[if_pos hlt];have hm:(lo+hi) / 2<hi:=by omega
   have hl:(lo+hi) / 2<(a++b).length:=by omega
   have hl2:(lo+hi) / 2<a.length+b.length:=by rw[<-bR];exact hl
   have e:(a++b).toArray.getD ((lo+hi) / 2) j=(a++b)[(lo+hi) / 2]:=by simp[Array.getD,hl2]
   dsimp only;rw[e]
   by_cases hc:(lo+hi) / 2<a.length
   ·have:(a++b)[(lo+hi) / 2]<j:=by rw[List.getElem_append_left hc];exact ha _ (eU hc)
    rw[if_pos this];exact vT ha hb fuel _ _ (by omega) (by omega) h3 h4
   ·have hb':j<=(a++b)[(lo+hi) / 2]:=by rw[List.getElem_append_right<|by omega];exact hb _ (eU _)
    rw[if_neg<|by omega];exact vT ha hb fuel _ _ (by omega) h2 (by omega)<|by omega
  ·rw[if_neg hlt];omega
theorem lD{a b:List Nat}{j:Nat}(ha:∀x∈a,x<j)(hb:∀x∈b,j<=x):eF (a++b).toArray j=a.length:=by unfold eF;rw[aQ];exact vT ha hb _ _ _ (by omega) (bI _) (by simp)<|aG _
theorem tR(j:Nat):∀ {xs:List Nat},xs.Pairwise (·<·)->∃a b,xs=a++b/\(∀x∈a,x<j)/\∀x∈b,j<=x
 |[],_=>⟨[],[],rfl,(λx h=>by cases h),λx h=>by cases h⟩
 |x::xs,h=>by
  obtain⟨h1,h2⟩:=fE.mp h
  by_cases hx:x<j
  ·obtain⟨a,b,e,ha,hb⟩:=tR j h2;refine⟨x::a,b,by rw[e];rfl,λy hy=> ?_,hb⟩
   rcases aV.mp hy with rfl|hy
   ·exact hx
   ·exact ha y hy
  ·refine⟨[],x::xs,rfl,(λy h=>by cases h),λy hy=> ?_⟩
   rcases aV.mp hy with rfl|hy
   ·omega
   ·have:=h1 y hy;omega
noncomputable def rB(m:Nat)(p:SetTable.Probe):SetTable.Probe:=if p.more>0 then{p with j:=p.j+1,more:=p.more-1} else{p with j:=(nN m p.i p.perturb).1,more:=cC m (nN m p.i p.perturb).1-(nN m p.i p.perturb).1,i:=(nN m p.i p.perturb).1,perturb:=(nN m p.i p.perturb).2}
theorem aLq(t:BQ)(p:SetTable.Probe):t.advance p=rB t.mask p:=rfl
noncomputable def at0(m i q:Nat):SetTable.Probe:={j:=i,more:=cC m i-i,i:=i,perturb:=q,dummy:=none}
noncomputable def pr(m:Nat)(h:Int):Nat->SetTable.Probe
 |0=>at0 m (cG h%(m+1))<|cG h
 |n+1=>rB m<|pr m h n
theorem tE(m:Nat)(h:Int):∀n,(pr m h n).dummy=none
 |0=>rfl
 |n+1=>by
  show(rB m<|pr m h n).dummy=none;unfold rB
  split
  ·exact tE m h n
  ·exact tE m h n
noncomputable def lp(m:Nat)(h:Int):Nat->Nat
 |0=>cG h%(m+1)
 |k+1=>(lp m h k*5+1+cG h / 32^k / 32)%(m+1)
theorem aLu(m i:Nat):cC m i-i<=9:=by
 unfold cC
 split<;>omega
theorem uE(m:Nat)(h:Int)(n i q:Nat)(e:pr m h n=at0 m i q):∀r,r<=cC m i-i->pr m h (n+r)={at0 m i q with j:=i+r,more:=cC m i-i-r}
 |0,_=>e
 |r+1,hr=>by have ih:=uE m h n i q e r (by omega);show rB m (pr m h<|n+r)=_;rw[ih];unfold rB;rw[if_pos<|by show cC m i-i-r>0;omega];rfl
theorem aDG(m:Nat)(h:Int):∀k,∃n,n<=10*k/\pr m h n=at0 m (lp m h k) (cG h / 32^k)
 |0=>⟨0,aG _,by show at0 _ _ _=_;rw[aFw,aHa];rfl⟩
 |k+1=>by
  obtain⟨n,hn,e⟩:=aDG m h k;have r9:=aLu m<|lp m h k;have e2:=uE m h n _ _ e _<|aG _;refine⟨n+(cC m (lp m h k)-lp m h k)+1,by omega, ?_⟩;show rB m (pr m h _)=_;rw[e2];unfold rB;rw[if_neg<|by show ¬ (cC m (lp m h k)-lp m h k-(cC m (lp m h k)-lp m h k)>0);omega];show at0 m _ _=at0 m _ _;have z:cG h / 32^(k+1)=cG h / 32^k / 32:=by rw[uS,qK]
  rw[z];rfl
noncomputable def itM(m:Nat):Nat->Nat->Nat
 |0,i=>i
 |q+1,i=>(itM m q i*5+1)%(m+1)
theorem aJC(h:Int):cG h<2^64:=by unfold cG;have h1:=bP h (show((2:Int)^64)≠0 by decide);have h2:=bM h (show(0:Int)<2^64 by decide);omega
theorem aAF(m:Nat)(h:Int):∀q,lp m h (13+q)=itM m q (lp m h 13)
 |0=>rfl
 |q+1=>by
  show(lp m h (13+q)*5+1+cG h / 32^(13+q) / 32)%(m+1)=(itM m q (lp m h 13)*5+1)%(m+1);rw[aAF m h q]
  have z:cG h / 32^(13+q)=0:=by refine Nat.div_eq_of_lt (aW (aJC h) ?_);exact cP (show 2^64<=32^13 by decide) (rU (by decide)<|yR _ _)
  rw[z]
theorem aNX(m:Nat)(h:Int):∀k,lp m h k<m+1
 |0=>uJ _<|uT _
 |k+1=>uJ _<|uT _
def okM(m:Nat):Prop:=m=7\/m=31\/m=63\/m=127\/m=255
noncomputable def orb(m:Nat):Nat->List Nat->List Nat
 |0,l=>l
 |n+1,l=>orb m n (((l.headD 0)*5+1)%(m+1)::l)
theorem vL(m:Nat)(b:Nat):∀ (a i:Nat),itM m (b+a) i=itM m a (itM m b i)
 |0,_=>rfl
 |a+1,i=>by show(itM m (b+a) i*5+1)%(m+1)=(itM m a (itM m b i)*5+1)%(m+1);rw[vL m b a i]
theorem aEt(m:Nat):∀ (n k:Nat) (l:List Nat),(∀x∈l,∃q,q<=k/\itM m q 0=x)->l.headD 0=itM m k 0->∀x∈orb m n l,∃q,q<=k+n/\itM m q 0=x
 |0,k,l,h,_,x,hx=>h x hx
 |n+1,k,l,h,hd,x,hx=>by
  have e:((l.headD 0)*5+1)%(m+1)=itM m (k+1) 0:=by rw[hd];rfl
  obtain ⟨q,q1,q2⟩:=aEt m n (k+1) (((l.headD 0) * 5+1)%(m+1)::l) (fun y hy=>by
   rcases aV.mp hy with z|z
   ·exact⟨k+1,aG _,by rw[z,e]⟩
   ·obtain⟨q,q1,q2⟩:=h y z
    exact⟨q,by omega,q2⟩) e x hx
  exact⟨q,by omega,q2⟩
noncomputable def aOp(m:Nat):Bool:=((bK<|m+1).all λe=>(orb m m [0]).contains e)&&itM m (m+1) 0==0
theorem aDd{m:Nat}(h:aOp m=true){i e:Nat}(hi:i<m+1)(he:e<m+1):∃q,q<m+1/\itM m q i=e:=by
 simp only[aOp,bH,beq_iff_eq] at h;obtain⟨h1,h2⟩:=h
 have at0:∀e,e<m+1->∃q,q<=m/\itM m q 0=e:=λe he=>by have:=bN.mp h1 e<|bB.mpr he;obtain⟨q,q1,q2⟩:=aEt m m 0 [0] (λx hx=>⟨0,aG _,by rw[bA.mp hx];rfl⟩) rfl e<|List.contains_iff_mem.mp this;exact⟨q,by omega,q2⟩
 obtain⟨a,a1,a2⟩:=at0 i hi;obtain⟨b,b1,b2⟩:=at0 e he
 by_cases z:a<=b
 ·refine⟨b-a,by omega, ?_⟩;rw[<-a2,<-vL,show a+(b-a)=b by omega];exact b2
 ·refine⟨b+(m+1)-a,by omega, ?_⟩;rw[<-a2,<-vL,show a+(b+(m+1)-a)=(m+1)+b by omega,vL,h2];exact b2
theorem cov{m:Nat}(hm:okM m){i e:Nat}(hi:i<m+1)(he:e<m+1):∃q,q<m+1/\itM m q i=e:=by
 rcases hm with rfl|rfl|rfl|rfl|rfl
 ·exact aDd (by decide+kernel) hi he
 ·exact aDd (by decide+kernel) hi he
 ·exact aDd (by decide+kernel) hi he
 ·exact aDd (by decide+kernel) hi he
 ·exact aDd (by decide+kernel) hi he
theorem wM{m:Nat}(hm:okM m)(h:Int){e:Nat}(he:e<m+1):∃k n,k<m+14/\lp m h k=e/\n<=10*k/\(pr m h n).j=e:=by obtain⟨q,hq,eq⟩:=cov hm (aNX m h 13) he;obtain⟨n,hn,en⟩:=aDG m h<|13+q;refine⟨13+q,n,by omega,by rw[aAF];exact eq,hn, ?_⟩;rw[en,aAF,eq];rfl
def pbQ(m:Nat)(p:SetTable.Probe):Prop:=p.j<=m/\p.j+p.more<=m/\p.i<m+1
theorem aIf{m:Nat}(i:Nat)(q:Nat)(d:Option Nat)(hi:i<m+1):pbQ m {j:=i,more:=cC m i-i,i:=i,perturb:=q,dummy:=d}:=by
 refine⟨by show i<=m;omega, ?_,hi⟩;show i+(cC m i-i)<=m;unfold cC
 split<;>omega
theorem aIZ{m:Nat}{p:SetTable.Probe}(h:pbQ m p):pbQ m (rB m p):=by
 obtain⟨h1,h2,h3⟩:=h;unfold rB
 split
 ·exact⟨by show p.j+1<=m;omega,by show p.j+1+(p.more-1)<=m;omega,h3⟩
 ·exact aIf _ _ _ (uJ _<|uT _)
theorem aNe{m:Nat}(h:Int):∀n:Nat,pbQ m (pr m h n)
 |0=>aIf _ _ _ (uJ _<|uT _)
 |n+1=>aIZ<|aNe h n
noncomputable abbrev dB:=Nat×List Key×BJ
structure TabT(hs:List Key->Int)(t:BQ)(es:Array (Int×BH))(T:List dB):Prop where
 om:okM t.mask
 pl:t.place=(T.map (·.1)).toArray
 en:es=(T.map λr=>(hs r.2.1,Value.ref r.2.2)).toArray
 du:t.dummies= #[]
 rs:(T.map (·.1)).Pairwise (·<·)
 lt:∀r∈T,r.1<=t.mask
 rc:∀r∈T,∃n,(pr t.mask (hs r.2.1) n).j=r.1/\∀i,i<n->(pr t.mask (hs r.2.1) i).j∈T.map (·.1)
 kn:(T.map (·.2.1)).Nodup
variable {hs:List Key->Int}{t:BQ}{es:Array (Int×BH)}{T:List dB}
theorem TabT.slot_live(X:TabT hs t es T){A B:List dB}{r:dB}(e:T=A++r::B):t.slot r.1=.live A.length:=by
 have h:=X.rs;rw[e,aI,aR] at h;obtain⟨_,h2,h3⟩:=cV.mp h
 have hb:=lD (a:=A.map (·.1)) (b:=r.1::B.map (·.1)) (j:=r.1) (λx hx=>h3 x hx r.1 aK) λx hx=>by
  rcases aV.mp hx with rfl|hx
  ·exact aG _
  ·exact cZ<|(fE.mp h2).1 x hx
 unfold nQ;rw[X.pl,e,aI,aR,hb];simp
theorem TabT.slot_empty(X:TabT hs t es T){j:Nat}(h:j∉T.map (·.1)):t.slot j=.empty:=by
 obtain⟨a,b,e,ha,hb⟩:=tR j X.rs;have hbl:=lD ha hb;unfold nQ;rw[X.pl,X.du,e,hbl]
 have hn:((a++b).toArray[a.length]? ==some j)=false:=by
  cases b with
  |nil=>simp
  |cons y b=>
   have:y≠j:=λz=>h (by rw[e,<-z];simp)
   simp[this]
 dsimp only;rw[hn];rfl
theorem aCd{j:Nat}(h:j∈T.map (·.1)):∃A r B,T=A++r::B/\r.1=j:=by obtain⟨r,hr,e⟩:=aH.mp h;obtain⟨A,B,q⟩:=tJ hr;exact⟨A,r,B,q,e⟩
theorem TabT.same_row(X:TabT hs t es T){r r':dB}(h:r∈T)(h':r'∈T)(e:r.1=r'.1):r=r':=by
 obtain⟨A,B,q⟩:=tJ h;have hp:=X.rs;rw[q,aI,aR] at hp;obtain⟨_,h2,h3⟩:=cV.mp hp;rw[q] at h'
 rcases aJ.mp h' with z|z
 ·have:=h3 r'.1 (aY z) r.1 aK;omega
 ·rcases aV.mp z with z|z
  ·exact z.symm
  ·have:=(fE.mp h2).1 r'.1<|aY z;omega
theorem aEn(X:TabT hs t es T){hashAt:Nat->Int}(hh:∀A r B,T=A++r::B->hashAt A.length=hs r.2.1)(h:Int):∀ (fuel n e:Nat),n<=e->e-n<fuel->(pr t.mask h e).j∉T.map (·.1)->
  ∃k,n<=k/\k<=e/\(∀i,n<=i->i<k->(pr t.mask h i).j∈T.map (·.1)/\∀r∈T,r.1=(pr t.mask h i).j->hs r.2.1≠h)/\
   (((pr t.mask h k).j∉T.map (·.1)∧cN.go t hashAt h fuel (pr t.mask h n)=some (.empty (pr t.mask h k).j none))∨
    ∃A r B,T=A++r::B/\r.1=(pr t.mask h k).j/\hs r.2.1=h/\cN.go t hashAt h fuel (pr t.mask h n)=some (.candidate (pr t.mask h k).j A.length (pr t.mask h (k+1))))
 |0,n,e,h1,h2,h3=>by omega
 |fuel+1,n,e,h1,h2,h3=>by
  by_cases hm:(pr t.mask h n).j∈T.map (·.1)
  ·obtain⟨A,r,B,q,er⟩:=aCd hm;have hl:=X.slot_live q;rw[er] at hl
   have hlt:n<e:=by
    rcases bW h1 with z|z
    ·exact z
    ·rw[z] at hm;exact absurd hm h3
   by_cases hq:hs r.2.1=h
   ·refine⟨n,aG _,h1,(λi a b=>by omega),.inr ⟨A,r,B,q,er,hq, ?_⟩⟩;unfold cN.go;rw[hl];simp only;rw[hh A r B q,hq];simp;rfl
   ·obtain⟨k,k1,k2,k3,k4⟩:=aEn X hh h fuel (n+1) e hlt (by omega) h3;refine⟨k,by omega,k2,λi a b=> ?_, ?_⟩
    ·rcases bW a with z|z
     ·exact k3 i z b
     ·subst z;refine⟨hm,λr' hr' e'=> ?_⟩;have:r'=r:=X.same_row hr' (by rw[q];simp)<|e'.trans er.symm;rw[this];exact hq
    ·have st:cN.go t hashAt h (fuel+1) (pr t.mask h n)=cN.go t hashAt h fuel (pr t.mask h<|n+1):=by
      conv=>lhs;unfold cN.go
      rw[hl];simp only;rw[hh A r B q,if_neg<|by simpa using hq];rfl
     rw[st];exact k4
  ·refine⟨n,aG _,h1,(λi a b=>by omega),.inl ⟨hm, ?_⟩⟩;unfold cN.go;rw[X.slot_empty hm];simp only;rw[tE]
theorem TabT.room(X:TabT hs t es T)(hl:T.length<=t.mask)(h:Int):∃e,e<10*dY t.mask/\(pr t.mask h e).j∉T.map (·.1)/\∀i,i<e->(pr t.mask h i).j∈T.map (·.1):=by
 have ex:∃j,j<t.mask+1/\j∉T.map (·.1):=by
  refine Classical.byContradiction λhn=> ?_
  have all:∀j∈bK (t.mask+1),j∈T.map (·.1):=λj hj=>Classical.byContradiction λz=>hn ⟨j,bB.mp hj,z⟩
  have:=(pF (n:=t.mask+1)).length_le_of_subset all;rw[dP,aA] at this;omega
 obtain⟨j,hj,hn⟩:=ex;obtain⟨k,n,h1,h2,h3,h4⟩:=wM X.om h hj;have:∃e,(pr t.mask h e).j∉T.map (·.1):=⟨n,by rw[h4];exact hn⟩
 obtain⟨e,he,hmin⟩:∃e,(pr t.mask h e).j∉T.map (·.1)/\∀i,i<e->¬ (pr t.mask h i).j∉T.map (·.1):=by
  refine Classical.byContradiction λz=> ?_
  have noall:∀m,∀i,i<m->¬ (pr t.mask h i).j∉T.map (·.1):=λm=>by
   induction m with
   |zero=>intro i hi;omega
   |succ m ih=>
    intro i hi hc
    rcases bW (aKg hi) with q|q
    ·exact ih i q hc
    ·subst q;exact z ⟨i,hc,ih⟩
  obtain⟨e,he⟩:=this;exact noall (e+1) e (pO _) he
 refine⟨e, ?_,he,λi hi=>Classical.byContradiction λz=>hmin i hi z⟩;have:e<=n:=pN λz=>hmin n z (by rw[h4];exact hn)
 unfold dY;omega
theorem TabT.ahead(X:TabT hs t es T){r:dB}(hr:r∈T){e:Nat}(he:(pr t.mask (hs r.2.1) e).j∉T.map (·.1)):∃n,n<e/\(pr t.mask (hs r.2.1) n).j=r.1:=by
 obtain⟨n,h1,h2⟩:=X.rc r hr;refine⟨n,aKu λz=> ?_,h1⟩
 rcases bW z with q|q
 ·exact he<|h2 e q
 ·subst q;exact he (by rw[h1];exact aY hr)
theorem cutT(h:(T.map (·.1)).Pairwise (·<·)){j:Nat}(hj:j∉T.map (·.1)):∃A B,T=A++B/\(∀r∈A,r.1<j)/\∀r∈B,j<r.1:=by
 obtain⟨a,b,e,ha,hb⟩:=tR j h;refine⟨T.take a.length,T.drop a.length,(gM _ _).symm,λr hr=> ?_,λr hr=> ?_⟩
 ·have:r.1∈(T.take a.length).map (·.1):=aY hr;rw[oF,e,aMB] at this;exact ha _ this
 ·have h1:r.1∈(T.drop a.length).map (·.1):=aY hr;rw[tH,e,aMC] at h1;have h2:=hb _ h1
  rcases bW h2 with q|q
  ·exact q
  ·exact absurd (aY<|iX hr) (by rw[q] at hj;exact hj)
theorem TabT.put(X:TabT hs t es T){j:Nat}{a:BJ}(hj:j∉T.map (·.1))(hm:j<=t.mask)(hk:k∉T.map (·.2.1))(hr:∃n,(pr t.mask (hs k) n).j=j/\∀i,i<n->(pr t.mask (hs k) i).j∈T.map (·.1))(b:Bool):
  ∃A B,T=A++B/\TabT hs {(t.put j).1 with plain:=b} (gP es (t.put j).2 (hs k,.ref a)) (A++(j,k,a)::B):=by
 obtain⟨A,B,e,hA,hB⟩:=cutT X.rs hj
 have hbl:eF t.place j=A.length:=by rw[X.pl,e,aI];rw[lD (a:=A.map (·.1)) (b:=B.map (·.1)) (λx hx=>by obtain⟨r,hr,rfl⟩:=aH.mp hx;exact hA r hr) λx hx=>by obtain⟨r,hr,rfl⟩:=aH.mp hx;exact cZ<|hB r hr];rw[aA]
 have e1:(t.put j).2=A.length:=hbl
 have e2:(t.put j).1.place=((A++(j,k,a)::B).map (·.1)).toArray:=by show gP t.place (eF t.place j) j=_;rw[hbl,X.pl,aIK,e];congr 1;rw[aI,aI,aR,aKq (by rw[aA]),aKr<|by rw[aA]]
 have e3:(t.put j).1.dummies= #[]:=by show(if aAD t.dummies j then _ else t.dummies)= #[];rw[X.du];rfl
 have mem:∀ {x:Nat},x∈T.map (·.1)->x∈(A++(j,k,a)::B).map (·.1):=λ{x} hx=>by
  rw[e,aI] at hx;rw[aI,aR]
  rcases aJ.mp hx with z|z
  ·exact aU _ z
  ·exact aC _<|aO _ z
 have rows:∀ {r:dB},r∈A++(j,k,a)::B->r=(j,k,a)\/r∈T:=λ{r} hr=>by
  rcases aJ.mp hr with z|z
  ·exact .inr (by rw[e];exact aU _ z)
  ·rcases aV.mp z with z|z
   ·exact .inl z
   ·exact .inr (by rw[e];exact aC _ z)
 refine⟨A,B,e,X.om,e2, ?_,e3, ?_,λr hr'=> ?_,λr hr'=> ?_, ?_⟩
 ·rw[e1,X.en,aIK,e];congr 1;rw[aI,aI,aR,aKq (by rw[aA]),aKr<|by rw[aA]]
 ·have hp:=X.rs;rw[e,aI] at hp;obtain⟨p1,p2,p3⟩:=cV.mp hp;rw[aI,aR];refine cV.mpr ⟨p1,fE.mpr ⟨λx hx=> ?_,p2⟩,λx hx y hy=> ?_⟩
  ·obtain⟨r,hr,rfl⟩:=aH.mp hx;exact hB r hr
  ·obtain⟨r,hrA,rfl⟩:=aH.mp hx
   rcases aV.mp hy with hy|hy
   ·rw[show y=j from hy];exact hA r hrA
   ·exact p3 _ (aY hrA) y hy
 ·rcases rows hr' with rfl|z
  ·exact hm
  ·exact X.lt r z
 ·rcases rows hr' with rfl|z
  ·obtain⟨n,q1,q2⟩:=hr;exact⟨n,q1,λi hi=>mem<|q2 i hi⟩
  ·obtain⟨n,q1,q2⟩:=X.rc r z;exact⟨n,q1,λi hi=>mem<|q2 i hi⟩
 ·have hn:=X.kn;rw[e,aI] at hn hk;obtain⟨n1,n2,n3⟩:=cX.mp hn;rw[aI,aR];refine cX.mpr ⟨n1,fB.mpr ⟨λz=>hk<|aC _ z,n2⟩,λx hx y hy=> ?_⟩
  rcases aV.mp hy with rfl|hy
  ·exact λz=>hk (aU _<|z▸hx)
  ·exact n3 x hx y hy
def emp(ow:Array (Option Nat))(j:Nat):Prop:=(ow.getD j<|some 0).isNone=true
theorem aJS{m:Nat}{h:Int}{n c:Nat}(e:pr m h n=at0 m (lp m h c) (cG h / 32^c)):pr m h (n+(cC m (lp m h c)-lp m h c)+1)=at0 m (lp m h<|c+1) (cG h / 32^(c+1)):=by
 have e2:=uE m h n _ _ e _<|aG _;show rB m (pr m h _)=_;rw[e2];unfold rB;rw[if_neg<|by show ¬ (cC m (lp m h c)-lp m h c-(cC m (lp m h c)-lp m h c)>0);omega];show at0 m _ _=at0 m _ _;have z:cG h / 32^(c+1)=cG h / 32^c / 32:=by rw[uS,qK]
 rw[z];rfl
theorem zV{m:Nat}{ow:Array (Option Nat)}(h:Int):∀ (fuel c n k:Nat),pr m h n=at0 m (lp m h c) (cG h / 32^c)->c<=k->k-c<fuel->emp ow (lp m h k)->
  ∃j n',gQ.free m ow fuel (lp m h c) (cG h / 32^c)=some j/\n<=n'/\(pr m h n').j=j/\emp ow j/\∀i,n<=i->i<n'->¬ emp ow (pr m h i).j
 |0,c,n,k,e,h1,h2,h3=>by omega
 |fuel+1,c,n,k,e,h1,h2,h3=>by
  have rl:lp m h c<=cC m (lp m h c):=by
   unfold cC
   split<;>omega
  cases hf:(bK<|cC m (lp m h c)+1-lp m h c).find? λx=>(ow.getD (lp m h c+x)<|some 0).isNone with
  |some x=>
   have hx:=List.find?_some hf;have hm:=bB.mp<|List.mem_of_find?_eq_some hf;refine⟨lp m h c+x,n+x, ?_,by omega, ?_,hx,λi i1 i2 hc=> ?_⟩
   ·unfold gQ.free;rw[hf]
   ·rw[uE m h n _ _ e x<|by omega]
   ·have er:=uE m h n _ _ e (i-n) (by omega);rw[show n+(i-n)=i by omega] at er;rw[er] at hc;obtain⟨l1,l2,el,hl⟩:=List.find?_eq_some_iff_append.mp hf |>.2
    have hmem:(i-n)∈l1:=by
     have hp:(l1++x::l2).Pairwise (·<·):=el▸aCT;have hin:(i-n)∈l1++x::l2:=el▸bB.mpr (by omega)
     rcases aJ.mp hin with z|z
     ·exact z
     ·rcases aV.mp z with z|z
      ·omega
      ·have:=(fE.mp (cV.mp hp).2.1).1 _ z;omega
    have:=hl _ hmem;have hc':(ow.getD (lp m h c+(i-n))<|some 0).isNone=true:=hc;simp only[hc',dR,aF] at this
  |none=>
   have hno:∀x,x<cC m (lp m h c)+1-lp m h c->¬ emp ow (lp m h c+x):=λx hx hc=>by have:=nL.mp hf x<|bB.mpr hx;exact this hc
   have hlt:c<k:=by
    rcases bW h1 with z|z
    ·exact z
    ·subst z;exact absurd h3 (by have:=hno 0 (by omega);rwa[Nat.add_zero] at this)
   obtain⟨j,n',a1,a2,a3,a4,a5⟩:=zV h fuel (c+1) _ k (aJS e) hlt (by omega) h3;refine⟨j,n', ?_,by omega,a3,a4,λi i1 i2 hc=> ?_⟩
   ·unfold gQ.free;rw[hf];have z:cG h / 32^(c+1)=cG h / 32^c / 32:=by rw[uS,qK]
    rw[z] at a1;exact a1
   ·by_cases hi:i<n+(cC m (lp m h c)-lp m h c)+1
    ·have er:=uE m h n _ _ e (i-n) (by omega);rw[show n+(i-n)=i by omega] at er;rw[er] at hc;exact hno (i-n) (by omega) hc
    ·exact a5 i (by omega) i2 hc
theorem emp_iff{ow:Array (Option Nat)}{j:Nat}:emp ow j↔ow[j]? =some none:=by
 unfold emp;rw[yZ];cases h:ow[j]? with
 |none=>simp
 |some o=>cases o<;>simp
structure LI(m:Nat)(ow:Array (Option Nat))(dn:List Int):Prop where
 sz:ow.size=m+1
 at_:∀ (x:Nat) (h:Int),dn[x]? =some h->∃j,ow[j]? =some (some x)/\∃n,(pr m h n).j=j/\∀i,i<n->ow[(pr m h i).j]? ≠some none
 lt:∀ (j x:Nat),ow[j]? =some (some x)->x<dn.length
 un:∀ (j j' x:Nat),ow[j]? =some (some x)->ow[j']? =some (some x)->j=j'
theorem LI.nil(m:Nat):LI m (yT (m+1) none) []:=by
 refine⟨by simp,λx h e=>by simp at e,λj x e=> ?_,λj j' x e _=> ?_⟩
 ·rw[aAB] at e
  split at e<;>simp at e
 ·rw[aAB] at e
  split at e<;>simp at e
theorem LI.free{m:Nat}{ow:Array (Option Nat)}{dn:List Int}(L:LI m ow dn)(hl:dn.length<=m):∃j,j<m+1/\ow[j]? =some none:=by
 refine Classical.byContradiction λhn=> ?_
 have all:∀j,j<m+1->∃x,ow[j]? =some (some x):=λj hj=>by
  have hs:j<ow.size:=by rw[L.sz];exact hj
  cases h:ow[j]? with
  |none=>rw[zP] at h;omega
  |some o=>
   cases o with
   |none=>exact absurd ⟨j,hj,h⟩ hn
   |some x=>exact⟨x,rfl⟩
 have nd:((bK<|m+1).map λj=>((ow[j]?).getD none).getD 0).Nodup:=by rw[nM,fM];refine List.Pairwise.imp_of_mem ?_ (nM.mp<|pF (n:=m+1));intro a b ha hb hab hc;obtain⟨x,hx⟩:=all a<|bB.mp ha;obtain⟨y,hy⟩:=all b<|bB.mp hb;rw[hx,hy] at hc;have hc:x=y:=hc;subst hc;exact hab<|L.un a b x hx hy
 have sub:∀y∈(bK<|m+1).map (λj=>((ow[j]?).getD none).getD 0),y∈bK dn.length:=λy hy=>by obtain⟨j,hj,rfl⟩:=aH.mp hy;obtain⟨x,hx⟩:=all j<|bB.mp hj;rw[hx];exact bB.mpr<|L.lt j x hx
 have:=nd.length_le_of_subset sub;rw[aA,dP,dP] at this;omega
noncomputable def aKE(m:Nat)(acc:Option (Array (Option Nat)×Nat))(h:Int):Option (Array (Option Nat)×Nat):=do
 let (owner,k) <-acc
 let j <-gQ.free m owner (dY m) (cG h%(m+1)) (cG h)
 pure (owner.setIfInBounds j<|some k,k+1)
theorem LI.step{m:Nat}(hm:okM m){ow:Array (Option Nat)}{dn:List Int}(L:LI m ow dn)(hl:dn.length<=m)(h:Int):∃ow',aKE m (some (ow,dn.length)) h=some (ow',(dn++[h]).length)/\LI m ow' (dn++[h]):=by
 obtain⟨e,he,h0⟩:=L.free hl;obtain⟨k,n,k1,k2,k3,k4⟩:=wM hm h he;obtain⟨j,n',f1,f2,f3,f4,f5⟩:=zV (ow:=ow) h (dY m) 0 0 k (by show at0 _ _ _=_;rw[aFw,aHa];rfl) (bI _) (by unfold dY;omega) (by rw[k2];exact emp_iff.mpr h0);rw[aFw,aHa] at f1;have hj:=emp_iff.mp f4
 have hjs:j<ow.size:=by
  rcases kP j ow.size with z|z
  ·exact z
  ·rw[kB z] at hj;cases hj
 have g:∀i,(ow.setIfInBounds j<|some dn.length)[i]? =if j=i then some (some dn.length) else ow[i]? :=λi=>by
  rw[yU]
  by_cases z:j=i
  ·rw[if_pos z,if_pos z,if_pos<|z▸hjs]
  ·rw[if_neg z,if_neg z]
 refine⟨ow.setIfInBounds j<|some dn.length, ?_,by simpa using L.sz,λx h' hx=> ?_,λi x hi=> ?_,λi i' x hi hi'=> ?_⟩
 ·unfold aKE;have f1':gQ.free m ow (dY m) (cG h%(m+1)) (cG h)=some j:=f1;simp only[aCY,aHd,f1',aIp];simp
 ·rcases kP x dn.length with z|z
  ·rw[fP z] at hx;obtain⟨i,i1,n1,i2,i3⟩:=L.at_ x h' hx;refine⟨i, ?_,n1,i2,λa ha=> ?_⟩
   ·rw[g,if_neg λq=>by rw[q] at hj;rw[hj] at i1;cases i1];exact i1
   ·rw[g]
    split
    ·simp
    ·exact i3 a ha
  ·rw[fI z] at hx
   have:x=dn.length:=by
    rcases bW z with q|q
    ·rw[cO<|by simp;omega] at hx;cases hx
    ·exact q.symm
   subst this;rw[qL] at hx;have:h=h':=by simpa using hx
   subst this;refine⟨j,by rw[g,if_pos rfl],n',f3,λa ha=> ?_⟩;rw[g]
   split
   ·simp
   ·exact λq=>f5 a (bI _) ha<|emp_iff.mpr q
 ·rw[g] at hi;rw[bR]
  split at hi
  ·have:dn.length=x:=by simpa using hi
   simp;omega
  ·have:=L.lt i x hi;omega
 ·rw[g] at hi hi'
  split at hi
  ·rename_i q1
   split at hi'
   ·rename_i q2;rw[<-q1,<-q2]
   ·have e1:dn.length=x:=by simpa using hi
    have:=L.lt i' x hi';omega
  ·split at hi'
   ·have e1:dn.length=x:=by simpa using hi'
    have:=L.lt i x hi;omega
   ·exact L.un i i' x hi hi'
theorem LI.fold{m:Nat}(hm:okM m):∀ (hl dn:List Int) (ow:Array (Option Nat)),LI m ow dn->(dn++hl).length<=m+1->∃ow',hl.foldl (aKE m) (some (ow,dn.length))=some (ow',(dn++hl).length)/\LI m ow' (dn++hl)
 |[],dn,ow,L,_=>⟨ow,by simp,by simpa using L⟩
 |h::hl,dn,ow,L,hlen=>by obtain⟨ow1,e1,L1⟩:=L.step hm (by simp at hlen;omega) h;obtain⟨ow2,e2,L2'⟩:=LI.fold hm hl (dn++[h]) ow1 L1 (by simpa using hlen);refine⟨ow2, ?_,by simpa using L2'⟩;rw[aKs,e1,e2];simp
theorem aFf{m:Nat}(hm:okM m)(hl:List Int)(h:hl.length<=m+1):∃ow,gQ m hl.toArray=some ow/\LI m ow hl:=by
 obtain⟨ow,e,L⟩:=LI.fold hm hl [] _ (LI.nil m) (by simpa using h);refine⟨ow, ?_,by simpa using L⟩;have e':hl.foldl (aKE m) (some (yT (m+1) none,0))=some (ow,hl.length):=by simpa using e
 unfold gQ;rw[List.foldl_toArray];show lA (·.1) (hl.foldl (aKE m)<|some (yT (m+1) none,0))=some ow;rw[e'];rfl
noncomputable def gT(hs:List Key->Int)(r:dB):Int×BH:=(hs r.2.1,Value.ref r.2.2)
noncomputable def pA(T:List dB)(p:Nat×Nat):dB:=(p.1,(T.getD p.2 (0,[],0)).2)
theorem aDL(hs:List Key->Int)(T:List dB):∀ (lv:List (Nat×Nat)),(∀p∈lv,p.2<T.length)->(lv.map (·.2)).filterMap (λi=>(T.map<|gT hs)[i]?)=(lv.map<|pA T).map (gT hs)
 |[],_=>rfl
 |p::lv,h=>by have hp:=h p aK;rw[aR,fN,bL,dH hp];dsimp only[Option.map_some];rw[aDL hs T lv λq hq=>h q<|aO _ hq,aR,aR];congr 1;unfold gT pA;simp[bF,hp]
theorem aAZ{m:Nat}(hm:okM m)(hl:T.length<=m+1)(kn:(T.map (·.2.1)).Nodup)(fg mv:Nat)(ld pn:Bool):
  ∃ (t':BQ) (ord:Array Nat) (T':List dB),zF m fg mv ld pn ((T.map<|gT hs).toArray.map (·.1))=some (t',ord)/\t'.mask=m/\t'.moves=mv/\t'.led=ld/\t'.plain=pn/\
   TabT hs t' (ord.filterMap ((T.map<|gT hs).toArray[·]?)) T'/\T'.length=T.length/\(T'.map (·.2)).Perm (T.map (·.2)):=by
 have eh:(T.map<|gT hs).toArray.map (·.1)=(T.map λr=>hs r.2.1).toArray:=by rw[List.map_toArray,aX];rfl
 obtain⟨ow,e,L⟩:=aFf hm (T.map λr=>hs r.2.1) (by rw[aA];exact hl);obtain⟨lv,hlv⟩:∃lv,lv=(bK<|m+1).filterMap λj=>(ow.getD j none).map (j,·):=⟨_,rfl⟩
 have gd:∀j,ow.getD j none=(ow[j]?).getD none:=λj=>yZ ..
 have memlv:∀p:Nat×Nat,p∈lv↔ow[p.1]? =some (some p.2):=λp=>by
  rw[hlv,iG]
  constructor
  ·rintro⟨j,hj,q⟩;rw[gd] at q;cases h:ow[j]? with
   |none=>rw[h] at q;simp at q
   |some o=>
    rw[h] at q;cases o with
    |none=>simp at q
    |some x=>
     have:(j,x)=p:=by simpa using q
     rw[<-this];exact h
  ·intro h
   have hs':p.1<ow.size:=by
    rcases kP p.1 ow.size with z|z
    ·exact z
    ·rw[kB z] at h;cases h
   refine⟨p.1,bB.mpr (by rw[<-L.sz];exact hs'), ?_⟩;rw[gd,h];rfl
 have lt2:∀p∈lv,p.2<T.length:=λp hp=>by
  have:=L.lt p.1 p.2<|(memlv p).mp hp
  rwa[aA] at this
 have rs:(lv.map (·.1)).Pairwise (·<·):=by rw[hlv,fM];refine List.Pairwise.filterMap _ ?_<|aCT (n:=m+1);intro a b hab x hx y hy;obtain⟨u,_,e1⟩:=cS.mp hx;obtain⟨v,_,e2⟩:=cS.mp hy;rw[<-e1,<-e2];exact hab
 have nd2:(lv.map (·.2)).Nodup:=by rw[nM,fM];have:=fM.mp rs;refine List.Pairwise.imp_of_mem ?_ this;intro a b ha hb hab hc;have h1:=(memlv a).mp ha;have h2:=(memlv b).mp hb;rw[hc] at h1;have:=L.un a.1 b.1 b.2 h1 h2;omega
 have perm:(lv.map (·.2)).Perm (bK T.length):=by
  refine(aAw nd2 pF).mpr λx=>⟨λhx=> ?_,λhx=> ?_⟩
  ·obtain⟨p,hp,rfl⟩:=aH.mp hx;exact bB.mpr<|lt2 p hp
  ·have hx':=bB.mp hx;obtain⟨j,hj,_⟩:=L.at_ x (hs (T[x]).2.1) (by rw[bL,dH hx'];rfl);exact aH.mpr ⟨(j,x),(memlv (j,x)).mpr hj,rfl⟩
 have len:(lv.map<|pA T).length=T.length:=by rw[aA,<-aA (f:=(·.2)) (as:=lv),perm.length_eq,dP]
 have fst:(lv.map<|pA T).map (·.1)=lv.map (·.1):=by rw[aX];rfl
 have snd:((lv.map<|pA T).map (·.2)).Perm (T.map (·.2)):=by
  have e1:(lv.map<|pA T).map (·.2)=(lv.map (·.2)).map λi=>(T.getD i (0,[],0)).2:=by rw[aX,aX];rfl
  rw[e1];refine(perm.map _).trans<|List.Perm.of_eq ?_;apply pE
  ·simp
  ·intro i h1 h2;have hi:i<T.length:=by simpa using h2
   simp[bF,hi]
 refine⟨{mask:=m,place:=(lv.map (·.1)).toArray,dummies:= #[],finger:=fg,led:=ld,moves:=mv,plain:=pn},(lv.map (·.2)).toArray,lv.map<|pA T, ?_,rfl,rfl,rfl,rfl,⟨hm, ?_, ?_,rfl, ?_,λr hr=> ?_,λr hr=> ?_, ?_⟩,len,snd⟩
 ·unfold zF;rw[eh,e];simp only[aCY,aHd,aIp];rw[<-hlv]
 ·show(lv.map (·.1)).toArray=_;rw[fst]
 ·have:=aDL hs T lv lt2;show Array.filterMap _ (lv.map (·.2)).toArray=((lv.map<|pA T).map<|gT hs).toArray;rw[<-this];simp
 ·rw[fst];exact rs
 ·obtain⟨p,hp,rfl⟩:=aH.mp hr;have h:=(memlv p).mp hp
  have hs':p.1<ow.size:=by
   rcases kP p.1 ow.size with z|z
   ·exact z
   ·rw[kB z] at h;cases h
  rw[L.sz] at hs';show p.1<=m;omega
 ·obtain⟨p,hp,rfl⟩:=aH.mp hr;have h:=(memlv p).mp hp;have hi:=lt2 p hp;have ek:(pA T p).2.1=(T[p.2]).2.1:=by unfold pA;simp[bF,hi]
  obtain⟨j,hj,n,n1,n2⟩:=L.at_ p.2 (hs (T[p.2]).2.1) (by rw[bL,dH hi];rfl);have:j=p.1:=L.un j p.1 p.2 hj h;subst this;rw[ek];refine⟨n,n1,λi hin=> ?_⟩;have occ:=n2 i hin;show(pr m (hs (T[p.2]).2.1) i).j∈_;rw[fst];have hq:=(aNe (m:=m) (hs (T[p.2]).2.1) i).1;have hb:(pr m (hs (T[p.2]).2.1) i).j<ow.size:=by rw[L.sz];omega
  cases ho:ow[(pr m (hs (T[p.2]).2.1) i).j]? with
  |none=>rw[zP] at ho;omega
  |some o=>
   cases o with
   |none=>exact absurd ho occ
   |some x=>exact aH.mpr ⟨(_,x),(memlv (_,x)).mpr ho,rfl⟩
 ·have e1:(lv.map<|pA T).map (·.2.1)=((lv.map<|pA T).map (·.2)).map (·.1):=by simp only[aX];rfl
  have e2:T.map (·.2.1)=(T.map (·.2)).map (·.1):=by rw[aX];rfl
  rw[e1];rw[e2] at kn;exact(snd.map _).nodup_iff.mpr kn
variable {prog:AI}{w:AL}{A:BK}{E:BH->BI->Prop}
noncomputable abbrev tK(prog:AI)(w:AL):=Ao<|eC prog w
theorem aAu{d:Nat}{v:BH}(h:Au v=true):ofAClassStatement d v=pure false:=by cases v<;>first|rfl|(cases d<;>rfl)|(simp[Au] at h)
theorem aIk{x:BJ}{Q:Bool->BI->Prop}(hx:(tK prog w).is s.heap k x)(h:Q false s):AG (AF prog w) A (ofAClassStatement 8<|.ref x) Q E s:=by
 have hk:IsTupleKey (eC prog w) s.heap k x:=hx;have hT:=hk.typeIs;obtain⟨o,items,n,ho,hc,hd,hi⟩:=hk;unfold ofAClassStatement;refine AA<|wpAny_typeOf hT ?_;dsimp only;refine AA<|AB ?_;simp only[dR,aF,if_false];refine AA<|Ac ho hd ?_;dsimp only;refine AA ?_;rw[<-iC];refine wpAny_forIn_list _ (λrest r s'=>r.1=none/\s'=s/\∀v∈rest,Au v=true) _ ?_ ?_ _ _ ⟨rfl,rfl,hi.byValue⟩
 ·rintro v rest r s' ⟨hr,rfl,hall⟩;rw[aAu<|hall v aK];refine AA<|AB ?_;simp only[aF,if_false];exact AB ⟨rfl,rfl,λu hu'=>hall u<|aO _ hu'⟩
 ·rintro⟨r1,r2⟩ s' ⟨hr,rfl,_⟩;simp only at hr;subst hr;exact AB h
theorem aLo{x:BJ}{stored:List BH}{Q:Bool->BI->Prop}(hx:(tK prog w).is s.heap k x)(hs:∀v∈stored,∃k' b,v=.ref b/\(tK prog w).is s.heap k' b)(h:Q false s):AG (AF prog w) A (searchCouldBeSeen (.ref x) stored) Q E s:=by
 unfold searchCouldBeSeen;refine AA ?_;refine wpAny_forIn_list _ (λrest r s'=>r.1=none/\s'=s/\∀v∈rest,∃k' b,v=.ref b/\(tK prog w).is s.heap k' b) _ ?_ ?_ _ _ ⟨rfl,rfl,hs⟩
 ·rintro v rest r s' ⟨hr,rfl,hall⟩;obtain⟨k',b,rfl,hb⟩:=hall v aK;have nx:∀u∈rest,∃k' b,u=.ref b/\(tK prog w).is s'.heap k' b:=λu hu=>hall u (aO _ hu)
  dsimp only
  by_cases hxb:(x==b)=true
  ·rw[hxb];simp only[aCZ,if_true];exact AB ⟨rfl,rfl,nx⟩
  ·have hxb:(x==b)=false:=by simpa using hxb
   rw[hxb];simp only[Au,iZ,Bool.or_self,aF,if_false];refine AA<|(tK prog w).quiet hx ?_;simp only[dR,aF,if_false];refine AA<|(tK prog w).quiet hb ?_;simp only[dR,aF,if_false];refine AA<|aIk hx ?_;simp only[aF,if_false];refine AA<|aIk hb ?_;simp only[aF,if_false];exact AB ⟨rfl,rfl,nx⟩
 ·rintro⟨r1,r2⟩ s' ⟨hr,rfl,_⟩;simp only at hr;subst hr;exact AB h
theorem aAJ{a x:BJ}{o:BM}{kx:List Key}{T:List dB}{t:BQ}{es:Array (Int×BH)}{ep:Nat}{Q:SetFound->BI->Prop}(hu:A.units<AR)(ho:s.heap.get? a=some o)(hd:o.data=.set es ep t)(X:TabT (tK prog w).hash t es T)(fit:t.fits es.size=true)
  (hx:(tK prog w).is s.heap kx x) (hk:∀r∈T,(tK prog w).is s.heap r.2.1 r.2.2) {e:Nat} (he:(pr t.mask ((tK prog w).hash kx) e).j∉T.map (·.1)) (hl:∀i,i<e->(pr t.mask ((tK prog w).hash kx) i).j∈T.map (·.1)) (h10:e<10*dY t.mask)
  (q1:kx∈T.map (·.2.1)->Q (.there none) s) (q2:kx∉T.map (·.2.1)->Q (.free (pr t.mask ((tK prog w).hash kx) e).j false) s):∀ (fuel n:Nat) (stand:Option SetTable.Probe),stand.getD (t.probeStart<|(tK prog w).hash kx)=pr t.mask ((tK prog w).hash kx) n->n<=e->e-n<fuel->(∀r∈T,r.2.1=kx->∃i,n<=i/\i<e/\(pr t.mask ((tK prog w).hash kx) i).j=r.1)->
   AG (AF prog w) A (BE a (.ref x) ((tK prog w).hash kx) true fuel stand) Q E s
 |0,n,stand,e1,h1,h2,h3=>by omega
 |fuel+1,n,stand,e1,h1,h2,h3=>by
  unfold BE;refine AA<|AM ho hd fit ?_;dsimp only
  have gw:t.gaveWay=false:=by
   unfold aFz
   rcases X.om with q|q|q|q|q<;>rw[q]<;>rfl
  rw[gw];simp only[aF,if_false]
  have hAt:∀B r C,T=B++r::C->es[B.length]? =some ((tK prog w).hash r.2.1,Value.ref r.2.2):=λB r C q=>by rw[X.en,q];simp
  rw[e1];generalize hf:t.probe _ ((tK prog w).hash kx) (pr t.mask ((tK prog w).hash kx) n)=met;obtain⟨F,hF,hf⟩:∃F:Nat->Int,(∀i,F i=((es[i]?).map (·.1)).getD 0)/\t.probe F ((tK prog w).hash kx) (pr t.mask ((tK prog w).hash kx) n)=met:=⟨_,λi=>rfl,hf⟩;unfold cN at hf
  obtain ⟨k,k1,k2,k3,k4⟩:=aEn X (hashAt:=F) (fun B r C q=>by
   have:=hAt B r C q;rw[hF,this]
   rfl) ((tK prog w).hash kx) (10*dY t.mask) n e h1 (by omega) he
  rcases k4 with⟨hm,hg⟩|⟨B,r,C,eT,hj,hh,hg⟩
  ·rw[hg] at hf;subst hf;dsimp only
   have ke:k=e:=by
    rcases bW k2 with z|z
    ·exact absurd (hl k z) hm
    ·exact z
   subst ke;refine AB<|q2 λhc=> ?_;obtain⟨r,hr,er⟩:=aH.mp hc;obtain⟨i,i1,i2,i3⟩:=h3 r hr er;exact(k3 i i1 i2).2 r hr i3.symm (by rw[er])
  ·rw[hg] at hf;subst hf;dsimp only;have hr:r∈T:=by rw[eT];simp
   have hei:=hAt B r C eT;have hsl:=X.slot_live eT;rw[hj] at hsl;have sm:t.sameMemory t.moves t.mask=some true:=by unfold aCs;simp
   have hke:k<e:=by
    rcases bW k2 with z|z
    ·exact z
    ·subst z;exact absurd (hj▸aY hr) he
   cases hled:t.led with
   |true=>
    simp only[dR,aF,if_false];rw[hei];dsimp only;refine AA (AS<|(tK prog w).eqBool hu (hk r hr) hx ?_);refine AA<|AM ho hd fit ?_;dsimp only
    by_cases hkx:r.2.1=kx
    ·rw[decide_eq_true hkx];simp only[aCr,if_true];exact AB (q1<|hkx▸aY hr)
    ·rw[decide_eq_false hkx];simp only[rK,aF,if_false];rw[sm];dsimp only;rw[if_pos rfl,hsl];dsimp only;rw[hei];dsimp only;refine AA<|wpAny_isSame_ref_self ?_;refine AA<|AB ?_;simp only[if_true];refine aAJ hu ho hd X fit hx hk he hl h10 q1 q2 fuel (k+1) (some _) rfl (by omega) (by omega) λr' hr' e'=> ?_
     obtain⟨i,i1,i2,i3⟩:=h3 r' hr' e';refine⟨i, ?_,i2,i3⟩
     rcases kP i k with z|z
     ·exact absurd (by rw[e'])<|(k3 i i1 z).2 r' hr' i3.symm
     ·rcases bW z with z|z
      ·exact z
      ·exfalso;subst z;have:r'=r:=X.same_row hr' hr<|i3.symm.trans hj.symm;rw[this] at e';exact hkx e'
   |false=>
    simp only[jA,if_true];refine AA<|aLo hx (λv hv=> ?_) ?_
    ·obtain⟨p,hp,rfl⟩:=aH.mp hv
     have hp':p∈es.toList:=by have:=lR.mp hp;exact lR.mpr (aIq.mp this).1
     rw[X.en] at hp';obtain⟨r2,h2',rfl⟩:=aH.mp (by simpa using hp':p∈T.map λr=>((tK prog w).hash r.2.1,Value.ref r.2.2));exact⟨r2.2.1,r2.2.2,rfl,hk r2 h2'⟩
    simp only[aF,if_false];rw[hei];dsimp only;refine AA (AS<|(tK prog w).eqBool hu (hk r hr) hx ?_);refine AA<|AM ho hd fit ?_;dsimp only
    by_cases hkx:r.2.1=kx
    ·rw[decide_eq_true hkx];simp only[aCr,if_true];exact AB (q1<|hkx▸aY hr)
    ·rw[decide_eq_false hkx];simp only[rK,aF,if_false];rw[sm];dsimp only;rw[if_pos rfl,hsl];dsimp only;rw[hei];dsimp only;refine AA<|wpAny_isSame_ref_self ?_;refine AA<|AB ?_;simp only[if_true];refine aAJ hu ho hd X fit hx hk he hl h10 q1 q2 fuel (k+1) (some _) rfl (by omega) (by omega) λr' hr' e'=> ?_
     obtain⟨i,i1,i2,i3⟩:=h3 r' hr' e';refine⟨i, ?_,i2,i3⟩
     rcases kP i k with z|z
     ·exact absurd (by rw[e'])<|(k3 i i1 z).2 r' hr' i3.symm
     ·rcases bW z with z|z
      ·exact z
      ·exfalso;subst z;have:r'=r:=X.same_row hr' hr<|i3.symm.trans hj.symm;rw[this] at e';exact hkx e'
noncomputable def aNh:BH->Bool
 |.none | .bool _ | .int .. =>true
 |.float bits _=>(Float64.hash? bits).isSome
 |_=>false
theorem aCH(d:Nat){v:BH}(h:Au v=true):hashByValue d v=pure (aNh v):=by cases v<;>first|rfl|(cases d<;>rfl)|(simp[Au] at h)
theorem aEN{ks:List Key}{vs:List BH}(h:ItemsAre (eC prog w) ks vs):(∀k∈ks,∃i,k=Sum.inl i)->∀v∈vs,∃i t,v=.int i t:=by
 induction h with
 |nil=>intro _ v hv;simp at hv
 |@cons k v ks vs h1 _ ih=>
  intro hk u hu
  rcases aV.mp hu with rfl|hu
  ·obtain⟨i,rfl⟩:=hk k aK
   rcases gD (show xB (Sum.inl i) u=true from h1) with⟨i',t,e,rfl⟩|⟨x,t,e,_⟩
   ·exact⟨i',t,rfl⟩
   ·cases e
  ·exact ih (λz hz=>hk z<|aO _ hz) u hu
theorem hbvT{x:BJ}{Q:Bool->BI->Prop}(hx:(tK prog w).is s.heap k x)(h:∀b,((∀z∈k,∃i,z=Sum.inl i)->b=true)->Q b s):AG (AF prog w) A (hashByValue 8<|.ref x) Q E s:=by
 have hk:IsTupleKey (eC prog w) s.heap k x:=hx;have hT:=hk.typeIs;obtain⟨o,items,n,ho,hc,hd,hi⟩:=hk;unfold hashByValue;refine AA<|wpAny_specialOf hT F.slot_tuple_hash.lookup ?_;dsimp only;refine AA<|Ac ho hd ?_;dsimp only[Option.getD];refine AA ?_;rw[<-iC];have h0:(∀z∈k,∃i,z=Sum.inl i)->∀v∈items.toList,∃i t,v=Value.int i t:=aEN hi;refine wpAny_forIn_list _ (λrest r s'=>s'=s/\r.1=none/\(∀v∈rest,Au v=true)/\((∀z∈k,∃i,z=Sum.inl i)->∀v∈rest,∃i t,v=Value.int i t)) _ ?_ ?_ _ _ ⟨rfl,rfl,hi.byValue,h0⟩
 ·rintro v rest r s' ⟨rfl,hr,hall,hint⟩;have hb:=aCH 7 (hall v aK)
  have hb2:(∀z∈k,∃i,z=Sum.inl i)->aNh v=true:=λz=>by obtain⟨i,t,rfl⟩:=hint z v aK;rfl
  generalize aNh v=b at hb hb2;rw[hb];refine AA<|AB ?_;cases b with
  |true=>simp only[dR,aF,if_false];exact AB ⟨rfl,rfl,λu hu'=>hall u<|aO _ hu',λz u hu'=>hint z u<|aO _ hu'⟩
  |false=>simp only[jA,if_true];exact AB (AB<|h _ hb2)
 ·rintro⟨r1,r2⟩ s' ⟨rfl,hr,_⟩;simp only at hr;subst hr;exact AB<|h _ λ_=>rfl
def SzT(m n:Nat):Prop:=(m=7->n<=4)/\(m=31->n<=18)/\m≠63/\m≠255
theorem SzT.fit{m n:Nat}(z:SzT m n)(om:okM m)(h:n<=72):n<=m:=by
 obtain⟨s1,s2,s3,s4⟩:=z
 rcases om with q|q|q|q|q
 ·have:=s1 q;omega
 ·have:=s2 q;omega
 ·exact absurd q s3
 ·omega
 ·exact absurd q s4
def SetT(prog:AI)(w:AL)(ip:Bool)(o:BM)(T:List dB):Prop:=∃ (es:Array (Int×BH)) (ep:Nat) (t:BQ),o={cls:=.type "set",dict:=none,data:=.set es ep t}/\TabT (tK prog w).hash t es T/\SzT t.mask T.length/\t.led= !byT w/\(ip=true->t.plain=true)
theorem TabT.size(X:TabT hs t es T):es.size=T.length:=by rw[X.en];simp
theorem TabT.fill(X:TabT hs t es T):t.fill=T.length:=by unfold aIs;rw[X.pl,X.du];simp
theorem TabT.fit(X:TabT hs t es T)(hl:T.length<=t.mask):t.fits es.size=true:=by
 have e1:=X.size;have e2:=X.fill;have e3:t.place.size=T.length:=by rw[X.pl];simp
 unfold aIt;simp only[bH,beq_iff_eq,decide_eq_true_eq];exact⟨by rw[e3,e1],by rw[e2];exact hl⟩
theorem aHX{a:BJ}{o:BM}{ep:Nat}{Q:Unit->BI->Prop}(ho:s.heap.get? a=some o)(ho':o={cls:=.type "set",dict:=none,data:=.set es ep t})(X:TabT (tK prog w).hash t es T){n m m':Nat}(hl:T.length=n)(hm:t.mask=m)(nm:n<=m)(om:okM m')(nm':n<=m')(n9:n<=1000)(m9:m'<=1000)(sa:dE (pQ n)=m'+1)
  (h:∀ (es':Array (Int×BH)) (ep':Nat) (t':BQ) (T':List dB) (h':BL),Heap.SameBut a s.heap h'->h'.get? a=some {cls:=.type "set",dict:=none,data:=.set es' ep' t'}->TabT (tK prog w).hash t' es' T'->t'.mask=m'->t'.led=t.led->t'.plain=t.plain->T'.length=n->(T'.map (·.2)).Perm (T.map (·.2))->Q () {s with heap:=h'}):
  AG (AF prog w) A (setRelay a<|pQ n) Q E s:=by
 subst ho';have fit:=X.fit (by omega);obtain⟨t',ord,T',e1,m1,_,ld1,pn1,X',l',p'⟩:=aAZ (hs:=(tK prog w).hash) (T:=T) (m:=m') om (by omega) X.kn t.finger (t.movedTo m') t.led t.plain;have ee:es=(T.map<|gT (tK prog w).hash).toArray:=X.en;unfold setRelay;refine AA<|AM ho rfl fit ?_;dsimp only;rw[sa,AU];rw[if_neg (show ¬ (m'+1>16777216) by omega)];refine AA ?_
 have rl:t.relaid (es.map (·.1)) (pQ n)=some (t',ord):=by unfold aFD;rw[sa,ee];exact e1
 rw[rl,ee]
 have sz:(ord.filterMap ((T.map<|gT (tK prog w).hash).toArray[·]?)).size=(T.map<|gT (tK prog w).hash).toArray.size:=by rw[X'.size,l'];simp
 show AG _ _ (if((ord.filterMap ((T.map<|gT (tK prog w).hash).toArray[·]?)).size !=(T.map<|gT (tK prog w).hash).toArray.size)=true then _ else _) _ _ _;rw[sz];simp only[bne_self_eq_false,aF,if_false];refine AB ?_;dsimp only;refine Ap ho rfl ?_ (by rw[sz,AU];simp;omega);have g1:=cY (Obj.putSet (ord.filterMap ((T.map<|gT (tK prog w).hash).toArray[·]?)) t') ho (by rw[Av _ _ rfl];rfl);rw[Av _ _ rfl] at g1;exact h _ _ _ T' _ (Heap.SameBut.update s.heap a _) g1 X' m1 ld1 pn1 (by omega) p'
theorem aIB{a x:BJ}{o:BM}{kx:List Key}{ip:Bool}{Q:Bool->BI->Prop}(hip:ip=true->∀z∈kx,∃i,z=Sum.inl i)(hu:A.units<AR)(hl:T.length<=72)(ho:s.heap.get? a=some o)(S:SetT prog w ip o T)(hk:∀r∈T,(tK prog w).is s.heap r.2.1 r.2.2)(hx:(tK prog w).is s.heap kx x)
  (h:∀ (b:Bool) (h':BL) (o':BM) (tk:Nat) (T':List dB),Heap.SameBut a s.heap h'->h'.get? a=some o'->SetT prog w ip o' T'->(∀p,p∈T'.map (·.2)->p=(kx,x)\/p∈T.map (·.2))->(∀k,k∈T'.map (·.2.1)↔k=kx\/k∈T.map (·.2.1))->Q b {s with heap:=h',toks:=tk}):AG (AF prog w) A (setAddHashed a (.ref x)<|(tK prog w).hash kx) Q E s:=by
 have S0:=S;obtain⟨es,ep,t,rfl,X,h7,hled,hpl0⟩:=S
 have lm:T.length<=t.mask:=by
  obtain⟨s1,s2,s3,s4⟩:=h7
  rcases X.om with q|q|q|q|q
  ·have:=s1 q;omega
  ·have:=s2 q;omega
  ·exact absurd q s3
  ·omega
  ·exact absurd q s4
 have fit:=X.fit lm;generalize htk:s.toks=tk;unfold setAddHashed setAddHashedIn;have es0:s={s with toks:=tk}:=by rw[<-htk]
 rw[es0];refine AS (AA<|AM (s:={s with toks:=tk}) ho rfl fit ?_);dsimp only;have bs:byScan (.ref x) es=false:=rfl;rw[bs];simp only[aF,if_false];obtain⟨e,e1,e2,e3⟩:=X.room lm<|(tK prog w).hash kx;unfold setSearch;refine AA<|aAJ (s:={s with toks:=tk}) hu ho rfl X fit hx hk e2 e3 e1 (λhm=> ?_) (λhm=> ?_) 100000 0 none rfl (bI _) ?_ λr hr er=> ?_
 ·dsimp only;refine AB (h false s.heap _ _ T (Heap.SameBut.refl a s.heap) ho S0 (λp hp=>.inr hp) λk=>⟨λz=>.inr z,λz=> ?_⟩)
  rcases z with rfl|z
  ·exact hm
  ·exact z
 ·dsimp only;refine AA<|AM (s:={s with toks:=tk}) ho rfl fit ?_;dsimp only;generalize hj:(pr t.mask ((tK prog w).hash kx) e).j=j;rw[hj] at e2;have jm:j<=t.mask:=hj▸(aNe (m:=t.mask) ((tK prog w).hash kx) e).1
  rcases hp:t.put j with⟨t1,p⟩
  have fin:∀b:Bool,(ip=true→b=true)→AG (AF prog w) A (do
    storeSet a (gP es p ((tK prog w).hash kx,.ref x)) {t1 with plain:=b}
    if(!false&&tL {t1 with plain:=b})=true then setRelay a (pQ<|es.size+1)
    return true) Q E {s with toks:=tk}:=λb hbt=>by
   obtain⟨B,C,eT,X2⟩:=X.put (a:=x) e2 jm hm ⟨e,hj,e3⟩ b;rw[hp] at X2;generalize hT2:B++(j,kx,x)::C=T2 at X2
   have mk1:({t1 with plain:=b}:BQ).mask=t.mask:=by
    have:t1=(t.put j).1:=by rw[hp]
    rw[this];rfl
   have ld2:({t1 with plain:=b}:BQ).led= !byT w:=by
    have:t1=(t.put j).1:=by rw[hp]
    rw[this];exact hled
   have pn2:ip=true->({t1 with plain:=b}:BQ).plain=true:=hbt;generalize ({t1 with plain:=b}:BQ)=t2 at X2 mk1 ld2 pn2 ⊢;dsimp only at X2;generalize hes2:gP es p ((tK prog w).hash kx,Value.ref x)=es2 at X2 ⊢
   have l2:T2.length=T.length+1:=by rw[<-hT2,eT];simp;omega
   have rw1:∀p,p∈T2.map (·.2)->p=(kx,x)\/p∈T.map (·.2):=λp hp=>by
    rw[<-hT2] at hp;rw[eT];simp only[aI,aR,aJ,aV] at hp ⊢
    rcases hp with z|z|z
    ·exact .inr<|.inl z
    ·exact .inl z
    ·exact .inr<|.inr z
   have kw1:∀k,k∈T2.map (·.2.1)↔k=kx\/k∈T.map (·.2.1):=λk=>by
    rw[<-hT2,eT];simp only[aI,aR,aJ,aV]
    constructor
    ·rintro(z|z|z)
     ·exact .inr<|.inl z
     ·exact .inl z
     ·exact .inr<|.inr z
    ·rintro(z|z|z)
     ·exact .inr<|.inl z
     ·exact .inl z
     ·exact .inr<|.inr z
   refine AA (Ap (s:={s with toks:=tk}) ho rfl ?_<|by rw[X2.size,AU];omega);have g1:=cY (Obj.putSet es2 t2) ho (by rw[Av _ _ rfl];rfl);rw[Av _ _ rfl] at g1
   have tf:tL t2=decide (T2.length*5>=t.mask*3):=by unfold tL;rw[X2.fill,mk1]
   rw[tf]
   by_cases hc:T2.length*5>=t.mask*3
   ·rw[decide_eq_true hc];simp only[jA,aCr,if_true];obtain⟨s1,s2,s3,s4⟩:=h7
    rcases X.om with q|q|q|q|q
    ·have:=s1 q
     have ln:T2.length=5:=by rw[q] at hc;omega
     have sn:es.size+1=5:=by rw[X.size];omega
     rw[sn];refine AA<|aHX (n:=5) (m:=7) (m':=31) (s:={s with heap:=s.heap.update a<|Obj.putSet es2 t2,toks:=tk}) g1 rfl X2 ln (by rw[mk1,q]) (by decide) (.inr<|.inl rfl) (by decide) (by decide) (by decide) (by decide+kernel) λes' ep' t' T' h' sb g2 X' m' ld' pn' l' pm=>AB ?_;refine h true h' _ tk T' ((Heap.SameBut.update s.heap a _).trans sb) g2 ⟨es',ep',t',rfl,X',⟨λz=>by omega,λz=>by omega,by omega,by omega⟩,ld'.trans ld2,λz=>pn'.trans<|pn2 z⟩ (λp hp=>rw1 p<|pm.mem_iff.mp hp) λk=> ?_
     have pk:(T'.map (·.2.1)).Perm (T2.map (·.2.1)):=by have:=pm.map (·.1);rw[aX,aX] at this;exact this
     rw[pk.mem_iff];exact kw1 k
    ·have:=s2 q
     have ln:T2.length=19:=by rw[q] at hc;omega
     have sn:es.size+1=19:=by rw[X.size];omega
     rw[sn];refine AA<|aHX (n:=19) (m:=31) (m':=127) (s:={s with heap:=s.heap.update a<|Obj.putSet es2 t2,toks:=tk}) g1 rfl X2 ln (by rw[mk1,q]) (by decide) (.inr<|.inr (.inr<|.inl rfl)) (by decide) (by decide) (by decide) (by decide+kernel) λes' ep' t' T' h' sb g2 X' m' ld' pn' l' pm=>AB ?_;refine h true h' _ tk T' ((Heap.SameBut.update s.heap a _).trans sb) g2 ⟨es',ep',t',rfl,X',⟨λz=>by omega,λz=>by omega,by omega,by omega⟩,ld'.trans ld2,λz=>pn'.trans<|pn2 z⟩ (λp hp=>rw1 p<|pm.mem_iff.mp hp) λk=> ?_
     have pk:(T'.map (·.2.1)).Perm (T2.map (·.2.1)):=by have:=pm.map (·.1);rw[aX,aX] at this;exact this
     rw[pk.mem_iff];exact kw1 k
    ·exact absurd q s3
    ·rw[q] at hc;omega
    ·exact absurd q s4
   ·rw[decide_eq_false hc];simp only[rK,aF,if_false];refine AA (AB<|AB ?_);refine h true _ _ tk T2 (Heap.SameBut.update s.heap a _) g1 ⟨es2,_,t2,rfl,X2,⟨λz=>by rw[mk1] at z;rw[z] at hc;omega,λz=>by rw[mk1] at z;rw[z] at hc;omega,by rw[mk1];exact h7.2.2.1,by rw[mk1];exact h7.2.2.2⟩,ld2,pn2⟩ rw1 kw1
  cases hpl:t1.plain with
  |true=>
   simp only[hpl,if_true];refine AA<|hbvT (s:={s with toks:=tk}) hx λb hb=> ?_;cases b with
   |true=>
    simp only[if_true];have:=fin true λ_=>rfl
    rw[show({t1 with plain:=true}:BQ)=t1 by rw[<-hpl]] at this;exact this
   |false=>simp only[aF,if_false];exact fin false λz=>hb<|hip z
  |false=>
   simp only[hpl,aF,if_false];refine AA<|AB ?_;simp only[if_true]
   have:=fin false λz=>by
    have e:t1.plain=t.plain:=by
     have:t1=(t.put j).1:=by rw[hp]
     rw[this];rfl
    rw[e,hpl0 z] at hpl;cases hpl
   rw[show({t1 with plain:=false}:BQ)=t1 by rw[<-hpl]] at this;exact this
 ·have:dY t.mask<=1000:=by rcases X.om with q|q|q|q|q<;>rw[q]<;>decide
  omega
 ·obtain⟨n,n1,n2⟩:=X.ahead hr (e:=e) (by rw[er];exact e2);rw[er] at n2;exact⟨n,bI _,n1,n2⟩
theorem addT{a x:BJ}{o:BM}{kx:List Key}{ip:Bool}{Q:Bool->BI->Prop}(hip:ip=true->∀z∈kx,∃i,z=Sum.inl i)(hu:A.units<AR)(hl:T.length<=72)(ho:s.heap.get? a=some o)(S:SetT prog w ip o T)(hk:∀r∈T,(tK prog w).is s.heap r.2.1 r.2.2)(hx:(tK prog w).is s.heap kx x)
  (h:∀ (b:Bool) (h':BL) (o':BM) (tk:Nat) (T':List dB),Heap.SameBut a s.heap h'->h'.get? a=some o'->SetT prog w ip o' T'->(∀p,p∈T'.map (·.2)->p=(kx,x)\/p∈T.map (·.2))->(∀k,k∈T'.map (·.2.1)↔k=kx\/k∈T.map (·.2.1))->Q b {s with heap:=h',toks:=tk}):AG (AF prog w) A (setAdd a<|.ref x) Q E s:=by
 unfold setAdd;refine AS (AA<|(tK prog w).pyHash hu hx ?_);exact aIB (s:={s with toks:=s.toks+(tK prog w).draws kx}) hip hu hl ho S hk hx h
theorem sW{vs:List (List Key)}{n:Nat}(nd:(T.map (·.2.1)).Nodup)(h:∀k,k∈T.map (·.2.1)↔k∈vs)(hn:vs.length<=n):T.length<=n:=by
 have:=nd.length_le_of_subset λk hk=>(h k).mp hk
 rw[aA] at this;omega
theorem iN{h:BL}{x:BJ}(hx:(tK prog w).is h k x)(kp:∀o,h.get? x=some o->h'.get? x=some o):(tK prog w).is h' k x:=by obtain⟨o,items,n,ho,hc,hd,hi⟩:=(show IsTupleKey (eC prog w) h k x from hx);exact(show IsTupleKey (eC prog w) h' k x from⟨o,items,n,kp _ ho,hc,hd,hi⟩)
theorem SetT.nd{ip:Bool}{o:BM}(S:SetT prog w ip o T):(T.map (·.2.1)).Nodup:=by obtain⟨es,ep,t,_,X,_,_,_⟩:=S;exact X.kn
theorem aNP{R:Result->BI->Prop}{I S:BJ}{fp wr:List BJ}{n:Nat}{P:Nat->BH->Prop}{St:Nat->BL->Prop}(hu:A.in1.units<AR)(W:Walks prog w A.in1 I fp wr n P St)(hSf:S∉fp)(vs:List (List Key)){ip:Bool}(hip:ip=true->∀k∈vs,∀z∈k,∃i,z=Sum.inl i)(hn:vs.length=n)(h16:n<=72)(h0:BL)
  (hval:∀i v,P i v->∃x,v=.ref x/\x≠S/\x∉wr/\(tK prog w).is h0 (vs.getD i []) x):∀ (m i:Nat) (s:BI) (o:BM) (T:List dB),n-i=m->i<=n->St i s.heap->s.heap.get? S=some o->SetT prog w ip o T->(∀k,k∈T.map (·.2.1)↔k∈vs.take i)->(∀p∈T.map (·.2),p.2≠S/\p.2∉wr/\(tK prog w).is h0 p.1 p.2/\∃i,P i (.ref p.2)/\vs.getD i []=p.1)->(∀b x,b≠S->b∉wr->h0.get? b=some x->s.heap.get? b=some x)->
   (∀h' tk o' T',(∀b x,b≠S->b∉wr->s.heap.get? b=some x->h'.get? b=some x)->h'.get? S=some o'->SetT prog w ip o' T'->(∀k,k∈T'.map (·.2.1)↔k∈vs)->(∀p∈T'.map (·.2),∃i,P i (.ref p.2)/\vs.getD i []=p.1)->R (.ok<|.ret .none) {s with heap:=h',toks:=tk})->
   codeAny (AF prog w) A (.builtin "set.update.loop" ⟨[.ref S,.ref I],[]⟩) R s:=by
 have hSw:S∉wr:=λh=>hSf<|W.sub _ h
 intro m
 induction m with
 |zero=>
  intro i s o T hm hi st ho sm kt rt k0 k;have e:i=n:=by omega
  subst e;refine codeAny_builtin F.entry_set_update_loop ?_;rw[Around.under_plainId F.plain_set_update_loop];refine AA<|W.done s _ _ st λh' tk kp=>AB ?_;rw[<-hn,fS] at kt;exact k h' tk o T (λb x _ hb g=>kp b x hb g) (kp S o hSw ho) sm kt λp hp=>(rt p hp).2.2.2
 |succ m ih=>
  intro i s o T hm hi st ho sm kt rt k0 k;have hlt:i<n:=by omega
  have hlt':i<vs.length:=by omega
  refine codeAny_builtin F.entry_set_update_loop ?_;rw[Around.under_plainId F.plain_set_update_loop];refine AA<|W.item i s _ _ hlt st λv h' tk hP st' kp=> ?_;obtain⟨x,rfl,xS,xw,hx⟩:=hval i v hP;have vi:vs.getD i []=vs[i]:=by simp[bF,hlt']
  have tk1:vs.take (i+1)=vs.take i++[vs.getD i []]:=by rw[dO,vi];simp[hlt']
  have k1:∀b x,b≠S->b∉wr->h0.get? b=some x->h'.get? b=some x:=λb x h1 h2 g=>kp b x h2<|k0 b x h1 h2 g
  have tl:T.length<=72:=sW sm.nd kt (by rw[cW];omega);refine AA (AS<|addT (s:={s with heap:=h',toks:=tk}) (λz=>hip z _<|by rw[vi];exact eU hlt') hu tl (kp S o hSw ho) sm (λr hr=> ?_) (iN hx λo g=>k1 x o xS xw g) λb h2 o2 tk2 T2 sb g2 sm2 rt2 kt2=> ?_)
  ·obtain⟨q1,q2,q3,_⟩:=rt r.2<|aY hr;exact iN q3 λo g=>k1 _ o q1 q2 g
  ·refine AB ⟨plainId_quiet F.plain_set_update_loop _,ih (i+1) _ o2 T2 (by omega) hlt (W.frame _ _ _ st' λb hb x g=> ?_) g2 sm2 (λk=> ?_) (λp hp=> ?_) (λb x h1 h3 g=> ?_) λh3 tk3 o3 T3 kp3 g3 sm4 kt4 rt4=> ?_⟩
   ·rw[sb.2 b λz=>hSf<|z▸hb];exact g
   ·rw[kt2,kt,tk1,aJ,bA];exact⟨λz=>z.symm,λz=>z.symm⟩
   ·rcases rt2 p hp with rfl|z
    ·exact⟨xS,xw,hx,i,hP,rfl⟩
    ·exact rt p z
   ·rw[sb.2 b h1];exact k1 b x h1 h3 g
   ·refine k h3 tk3 o3 T3 (λb x h1 h2 g=>kp3 b x h1 h2 ?_) g3 sm4 kt4 rt4;rw[sb.2 b h1];exact kp b x h2 g
theorem aDb{ip:Bool}:SetT prog w ip (jR w) []:=⟨#[],0,aHi (!byT w) [],rfl,⟨.inl rfl,rfl,rfl,rfl,List.Pairwise.nil,λr h=>(by cases h),λr h=>(by cases h),eD⟩,⟨λ_=>bI _,λ_=>bI _,by show(7:Nat)≠63;decide,by show(7:Nat)≠255;decide⟩,rfl,λ_=>rfl⟩
theorem aOe{R:Result->BI->Prop}{S:BJ}{items:Array BH}(hu:A.in1.in1.units<AR)(vs:List (List Key)){ip:Bool}(hip:ip=true->∀k∈vs,∀z∈k,∃i,z=Sum.inl i)(hn:vs.length=items.size)(h16:items.size<=72)(hi:∀ (i:Nat) (v:BH),items[i]? =some v->∃x,v=.ref x/\x≠S/\(tK prog w).is s.heap (vs.getD i []) x)(hh:A.handled=none)
  (ho:s.heap.get? S=some (jR w)) (ht:s.heap.IsList l items)
  (k:∀h' tk o' T',(∀b x,b≠S->s.heap.get? b=some x->h'.get? b=some x)->h'.get? S=some o'->SetT prog w ip o' T'->(∀k,k∈T'.map (·.2.1)↔k∈vs)->(∀p∈T'.map (·.2),∃i:Nat,items[i]? =some (.ref p.2)/\vs.getD i []=p.1)->R (.ok<|.ret .none) {s with heap:=h',toks:=tk}):
  AG (AF prog w) A.in1 (Builtin.«set.__init__» ⟨[.ref S,.ref l],[]⟩) (λfin s'=>match fin with | .done f=>R (.ok f) s' | .again c'=>c'.quiet=true/\codeAny (AF prog w) A c' R s') (λe s'=>R (.error e) s') s:=by
 obtain⟨ol,hol,hcl,nl,hdl⟩:=id ht;obtain⟨ocls,odict,odata,oslots⟩:=ol;simp only at hcl hdl;subst hcl hdl;have q1:=aBl;have q2:=aCD;have q3:(Value.type "list"==Value.type "dict")=false:=by decide
 have hT:Shared.TypeIs s (.ref S) "set":=⟨_,ho,rfl⟩
 have hSl:S≠l:=λz=>by rw[z,hol] at ho;have q:(Value.type "list")=Value.type "set":=congrArg Obj.cls<|bT.inj ho;exact absurd q<|by decide
 unfold Builtin.«set.__init__» noKeywords Builtin.Frozenset.updateFrom;generalize pI:pyIter=PI
 wp_walk
 subst pI;refine wpAny_pyIter_list (show s.heap.IsList l items from ht) (AA<|wpAny_runValue ?_);have lS:l<s.heap.objs.size:=aM hol;have sS:S<s.heap.objs.size:=aM ho;refine aNP (n:=items.size) (P:=λi v=>items[i]? =some v) hu (Walks.list (A:=A.in1.in1) (by simpa using hh) s.heap.objs.size l (bQ lS) items) (λz=> ?_) vs hip hn h16 s.heap (λi v hv=> ?_) (items.size-0) 0 _ (jR w) [] rfl (bI _) ⟨⟨_,bE _ rfl,rfl,rfl⟩,ht.push _⟩ (aE _ ho) aDb (λk=>by simp) (λp hp=>by cases hp) (λb x h1 h2 g=>aE _ g) λh' tk o' T' kp g sm kt rt=> ?_
 ·rcases aV.mp z with z|z
  ·exact bQ sS z
  ·exact hSl (by simpa using z)
 ·obtain⟨x,e,xS,hx⟩:=hi i v hv;obtain⟨o,_,_,hxo,_⟩:=(show IsTupleKey (eC prog w) s.heap _ x from hx);exact⟨x,e,xS,λz=>absurd (aM hxo) (by rw[show x=s.heap.objs.size by simpa using z];exact cQ _),hx⟩
 ·refine AB (AB<|k h' tk o' T' (λb x h1 g=>kp b x h1 (λz=> ?_)<|aE _ g) g sm kt rt);have z:b=s.heap.objs.size:=by simpa using z
  exact absurd (aM g) (by rw[z];exact cQ _)
theorem aOh{Q:BH->BI->Prop}{items:Array BH}(hu:A.units+8<AR)(vs:List (List Key)){ip:Bool}(hip:ip=true->∀k∈vs,∀z∈k,∃i,z=Sum.inl i)(hn:vs.length=items.size)(h16:items.size<=72)(hi:∀ (i:Nat) (v:BH),items[i]? =some v->∃x,v=.ref x/\(tK prog w).is s.heap (vs.getD i []) x)(hh:A.handled=none)(ht:s.heap.IsList l items)
  (k:∀h' tk o' T',(∀b x,s.heap.get? b=some x->h'.get? b=some x)->h'.get? s.heap.objs.size=some o'->SetT prog w ip o' T'->(∀k,k∈T'.map (·.2.1)↔k∈vs)->(∀p∈T'.map (·.2),∃i:Nat,items[i]? =some (.ref p.2)/\vs.getD i []=p.1)->Q (.ref s.heap.objs.size) {s with heap:=h',toks:=tk}):
  AG (AF prog w) A (call (.type "set") [.ref l]) Q E s:=by
 obtain⟨c,tl,m1⟩:=F.called_set.mro;have m2:=F.called_set.made;have m3:=F.called_set.sub;refine wpAny_call<|codeAny_of_tree (show AG _ _ (callAny (.type "set") _) _ _ _ from ?_);refine AB ⟨Code.quiet_builtin _<|by decide+kernel,codeAny_builtin F.entry_type_call ?_⟩;rw[Around.under_plain (weight_type_call_type "set" [Value.ref l] []) rfl];have m4:=F.called_set.notType;have m5:=F.called_set.canCreate;have m6:=F.typeCall_set_1<|.ref l
 repeat (any_goals (first|assumption|wp_step))
 refine BC (newK (.ref l) (E:=E) (Q₁:=λob s1=>ob=.ref s.heap.objs.size/\s1={s with heap:=s.heap.push (jR w)}) ⟨rfl,rfl⟩) λr s1 hr=> ?_
 cases r with
 |error e=>exact hr
 |ok fl=>
  cases fl with
  |ret ob=>
   obtain⟨rfl,rfl⟩:=hr;have ho:(s.heap.push<|jR w).get? s.heap.objs.size=some (jR w):=bE _ rfl;have hT:Shared.TypeIs {s with heap:=s.heap.push (jR w)} (.ref s.heap.objs.size) "set":=⟨_,ho,rfl⟩;have m7:=F.called_set.init.lookup;have m8:=F.called_set.init.bind<|.ref s.heap.objs.size
   repeat (any_goals (first|assumption|wp_step))
   refine BC (codeAny_call_builtin (R:=wants (λr s2=>r=.none/\∃h' tk o' T',s2={s with heap:=h',toks:=tk}/\(∀b x,s.heap.get? b=some x->h'.get? b=some x)/\h'.get? s.heap.objs.size=some o'/\SetT prog w ip o' T'/\(∀k,k∈T'.map (·.2.1)↔k∈vs)/\(∀p∈T'.map (·.2),∃i:Nat,items[i]? =some (.ref p.2)/\vs.getD i []=p.1)) E) F.called_set.init.plain F.entry_set_init<|check_set_init_1 hT ?_) λr2 s2 hr2=> ?_
   ·refine aOe (s:={s with heap:=s.heap.push (jR w)}) (by simp only[Around.in1];omega) vs hip hn h16 (λi v hv=> ?_) (by simpa using hh) ho (ht.push _) λh' tk o' T' kp g sm kt rt=> ?_
    ·obtain⟨x,e,hx⟩:=hi i v hv;obtain⟨o,_,_,hxo,_⟩:=(show IsTupleKey (eC prog w) s.heap _ x from hx);exact⟨x,e,bQ<|aM hxo,iN hx λo g=>aE _ g⟩
    ·exact⟨rfl,h',tk,o',T',rfl,λb x gx=>kp b x (bQ<|aM gx)<|aE _ gx,g,sm,kt,rt⟩
   ·cases r2 with
    |error e=>exact hr2
    |ok fl2=>
     cases fl2 with
     |ret r=>
      obtain⟨rfl,h',tk,o',T',rfl,kp,g,sm,kt,rt⟩:=hr2
      repeat (any_goals (first|assumption|wp_step))
      exact k _ _ _ _ kp g sm kt rt
     |_=>exact hr2.elim
  |_=>exact hr.elim
structure TabU(hs:List Key->Int)(t:BQ)(es:Array (Int×BH))(T:List dB)(ds:List Nat):Prop where
 om:okM t.mask
 pl:t.place=(T.map (·.1)).toArray
 en:es=(T.map λr=>(hs r.2.1,Value.ref r.2.2)).toArray
 du:t.dummies=ds.toArray
 rs:(T.map (·.1)).Pairwise (·<·)
 dr:ds.Pairwise (·<·)
 dj:∀d∈ds,d∉T.map (·.1)
 lt:∀r∈T,r.1<=t.mask
 rc:∀r∈T,∃n,(pr t.mask (hs r.2.1) n).j=r.1/\∀i,i<n->(pr t.mask (hs r.2.1) i).j∈T.map (·.1)++ds
 kn:(T.map (·.2.1)).Nodup
theorem TabT.U(X:TabT hs t es T):TabU hs t es T []:=
 ⟨X.om,X.pl,X.en,X.du,X.rs,List.Pairwise.nil,(λd h=>by cases h),X.lt,(λr hr=>by simpa using X.rc r hr),X.kn⟩
variable {ds:List Nat}
theorem TabU.slot_live(X:TabU hs t es T ds){A B:List dB}{r:dB}(e:T=A++r::B):t.slot r.1=.live A.length:=by
 have h:=X.rs;rw[e,aI,aR] at h;obtain⟨_,h2,h3⟩:=cV.mp h
 have hb:=lD (a:=A.map (·.1)) (b:=r.1::B.map (·.1)) (j:=r.1) (λx hx=>h3 x hx r.1 aK) λx hx=>by
  rcases aV.mp hx with rfl|hx
  ·exact aG _
  ·exact cZ<|(fE.mp h2).1 x hx
 unfold nQ;rw[X.pl,e,aI,aR,hb];simp
theorem aDx(X:TabU hs t es T ds){j:Nat}(h:j∉T.map (·.1)):(t.place[eF t.place j]? ==some j)=false:=by
 obtain⟨a,b,e,ha,hb⟩:=tR j X.rs;have hbl:=lD ha hb;rw[X.pl,e,hbl];cases b with
 |nil=>simp
 |cons y b=>
  have:y≠j:=λz=>h (by rw[e,<-z];simp)
  simp[this]
theorem aDZ{xs:List Nat}(hp:xs.Pairwise (·<·))(j:Nat):aAD xs.toArray j=decide (j∈xs):=by
 obtain⟨a,b,e,ha,hb⟩:=tR j hp;have hbl:=lD ha hb;unfold aAD;rw[e,hbl];cases b with
 |nil=>
  have:j∉a:=λz=>cQ _<|ha j z
  simp[this]
 |cons y b=>
  have na:j∉a:=λz=>cQ _<|ha j z
  by_cases z:y=j
  ·subst z;simp
  ·have nb:j∉b:=λw=>by rw[e] at hp;have h1:=(fE.mp (cV.mp hp).2.1).1 j w;have h2:=hb y aK;omega
   simp[z,na,nb,Ne.symm z]
theorem TabU.slot_dummy(X:TabU hs t es T ds){j:Nat}(h:j∈ds):t.slot j=.dummy:=by have h1:=aDx X<|X.dj j h;unfold nQ;dsimp only;rw[h1,X.du,aDZ X.dr];simp[h]
theorem TabU.slot_empty(X:TabU hs t es T ds){j:Nat}(h:j∉T.map (·.1)++ds):t.slot j=.empty:=by
 have h1:=aDx X (λz=>h<|aU _ z);unfold nQ;dsimp only;rw[h1,X.du,aDZ X.dr];have:j∉ds:=λz=>h<|aC _ z
 simp[this]
theorem TabU.same_row(X:TabU hs t es T ds){r r':dB}(h:r∈T)(h':r'∈T)(e:r.1=r'.1):r=r':=by
 obtain⟨A,B,q⟩:=tJ h;have hp:=X.rs;rw[q,aI,aR] at hp;obtain⟨_,h2,h3⟩:=cV.mp hp;rw[q] at h'
 rcases aJ.mp h' with z|z
 ·have:=h3 r'.1 (aY z) r.1 aK;omega
 ·rcases aV.mp z with z|z
  ·exact z.symm
  ·have:=(fE.mp h2).1 r'.1<|aY z;omega
noncomputable def prd(m:Nat)(h:Int)(n:Nat)(d:Option Nat):SetTable.Probe:={pr m h n with dummy:=d}
theorem aJe(m:Nat)(h:Int)(n:Nat)(d:Option Nat):rB m (prd m h n d)=prd m h (n+1) d:=by
 show rB m {pr m h n with dummy:=d}={rB m (pr m h n) with dummy:=d};unfold rB;dsimp only
 split<;>rfl
theorem aGF(m:Nat)(h:Int)(n:Nat):prd m h n none=pr m h n:=by have:=tE m h n;show{pr m h n with dummy:=none}=pr m h n;rw[<-this]
theorem xA(X:TabU hs t es T ds){hashAt:Nat->Int}(hh:∀A r B,T=A++r::B->hashAt A.length=hs r.2.1)(h:Int):∀ (fuel n e:Nat) (d:Option Nat),n<=e->e-n<fuel->(pr t.mask h e).j∉T.map (·.1)++ds->
  ∃k d',n<=k/\k<=e/\(∀i,n<=i->i<k->(pr t.mask h i).j∈T.map (·.1)++ds/\∀r∈T,r.1=(pr t.mask h i).j->hs r.2.1≠h)/\
   (((pr t.mask h k).j∉T.map (·.1)++ds∧cN.go t hashAt h fuel (prd t.mask h n d)=some (.empty (pr t.mask h k).j d'))∨
    ∃A r B,T=A++r::B/\r.1=(pr t.mask h k).j/\hs r.2.1=h/\cN.go t hashAt h fuel (prd t.mask h n d)=some (.candidate (pr t.mask h k).j A.length (prd t.mask h (k+1) d')))
 |0,n,e,d,h1,h2,h3=>by omega
 |fuel+1,n,e,d,h1,h2,h3=>by
  have ej:(prd t.mask h n d).j=(pr t.mask h n).j:=rfl;have ea:∀d,t.advance (prd t.mask h n d)=prd t.mask h (n+1) d:=λd=>by rw[aLq];exact aJe _ _ _ _
  by_cases hm:(pr t.mask h n).j∈T.map (·.1)
  ·obtain⟨A,r,B,q,er⟩:=aCd hm;have hl:=X.slot_live q;rw[er] at hl
   have hlt:n<e:=by
    rcases bW h1 with z|z
    ·exact z
    ·rw[z] at hm;exact absurd (aU _ hm) h3
   by_cases hq:hs r.2.1=h
   ·refine⟨n,d,aG _,h1,(λi a b=>by omega),.inr ⟨A,r,B,q,er,hq, ?_⟩⟩;unfold cN.go;rw[ej,hl];simp only;rw[hh A r B q,hq,ea];simp
   ·obtain⟨k,d',k1,k2,k3,k4⟩:=xA X hh h fuel (n+1) e d hlt (by omega) h3
    have st:cN.go t hashAt h (fuel+1) (prd t.mask h n d)=cN.go t hashAt h fuel (prd t.mask h (n+1) d):=by
     conv=>lhs;unfold cN.go
     rw[ej,hl];simp only;rw[hh A r B q,if_neg (by simpa using hq),ea]
    rw[st];refine⟨k,d',by omega,k2,λi a b=> ?_,k4⟩
    rcases bW a with z|z
    ·exact k3 i z b
    ·subst z;refine⟨aU _ hm,λr' hr' e'=> ?_⟩;have:r'=r:=X.same_row hr' (by rw[q];simp)<|e'.trans er.symm;rw[this];exact hq
  ·by_cases hd:(pr t.mask h n).j∈ds
   ·have hl:=X.slot_dummy hd
    have hlt:n<e:=by
     rcases bW h1 with z|z
     ·exact z
     ·rw[z] at hd;exact absurd (aC _ hd) h3
    obtain⟨k,d',k1,k2,k3,k4⟩:=xA X hh h fuel (n+1) e (some (pr t.mask h n).j) hlt (by omega) h3
    have st:cN.go t hashAt h (fuel+1) (prd t.mask h n d)=cN.go t hashAt h fuel (prd t.mask h (n+1)<|some (pr t.mask h n).j):=by
     conv=>lhs;unfold cN.go
     rw[ej,hl];simp only;rw[<-ea];rfl
    rw[st];refine⟨k,d',by omega,k2,λi a b=> ?_,k4⟩
    rcases bW a with z|z
    ·exact k3 i z b
    ·subst z;exact⟨aC _ hd,λr' hr' e'=>absurd (e'▸aY hr') hm⟩
   ·have ho:(pr t.mask h n).j∉T.map (·.1)++ds:=λz=>(aJ.mp z).elim hm hd
    refine⟨n,d,aG _,h1,(λi a b=>by omega),.inl ⟨ho, ?_⟩⟩;unfold cN.go;rw[ej,X.slot_empty ho];rfl
theorem TabU.room(X:TabU hs t es T ds)(hl:T.length+ds.length<=t.mask)(h:Int):∃e,e<10*dY t.mask/\(pr t.mask h e).j∉T.map (·.1)++ds/\∀i,i<e->(pr t.mask h i).j∈T.map (·.1)++ds:=by
 have ex:∃j,j<t.mask+1/\j∉T.map (·.1)++ds:=by
  refine Classical.byContradiction λhn=> ?_
  have all:∀j∈bK (t.mask+1),j∈T.map (·.1)++ds:=λj hj=>Classical.byContradiction λz=>hn ⟨j,bB.mp hj,z⟩
  have:=(pF (n:=t.mask+1)).length_le_of_subset all;rw[dP,bR,aA] at this;omega
 obtain⟨j,hj,hn⟩:=ex;obtain⟨k,n,h1,h2,h3,h4⟩:=wM X.om h hj;have h0:∃e,(pr t.mask h e).j∉T.map (·.1)++ds:=⟨n,by rw[h4];exact hn⟩
 obtain⟨e,he,hmin⟩:∃e,(pr t.mask h e).j∉T.map (·.1)++ds/\∀i,i<e->¬ (pr t.mask h i).j∉T.map (·.1)++ds:=by
  refine Classical.byContradiction λz=> ?_
  have noall:∀m,∀i,i<m->¬ (pr t.mask h i).j∉T.map (·.1)++ds:=λm=>by
   induction m with
   |zero=>intro i hi;omega
   |succ m ih=>
    intro i hi hc
    rcases bW (aKg hi) with q|q
    ·exact ih i q hc
    ·subst q;exact z ⟨i,hc,ih⟩
  obtain⟨e,he⟩:=h0;exact noall (e+1) e (pO _) he
 refine⟨e, ?_,he,λi hi=>Classical.byContradiction λz=>hmin i hi z⟩;have:e<=n:=pN λz=>hmin n z (by rw[h4];exact hn)
 unfold dY;omega
theorem TabU.ahead(X:TabU hs t es T ds){r:dB}(hr:r∈T){e:Nat}(he:(pr t.mask (hs r.2.1) e).j∉T.map (·.1)++ds):∃n,n<e/\(pr t.mask (hs r.2.1) n).j=r.1:=by
 obtain⟨n,h1,h2⟩:=X.rc r hr;refine⟨n,aKu λz=> ?_,h1⟩
 rcases bW z with q|q
 ·exact he<|h2 e q
 ·subst q;exact he (by rw[h1];exact aU _<|aY hr)
theorem aEy{a x:BJ}{o:BM}{kx:List Key}{T:List dB}{ds:List Nat}{t:BQ}{es:Array (Int×BH)}{ep:Nat}{Q:SetFound->BI->Prop}(hu:A.units<AR)(ho:s.heap.get? a=some o)(hd:o.data=.set es ep t)(X:TabU (tK prog w).hash t es T ds)(fit:t.fits es.size=true)
  (hx:(tK prog w).is s.heap kx x) (hk:∀r∈T,(tK prog w).is s.heap r.2.1 r.2.2) {e:Nat} (he:(pr t.mask ((tK prog w).hash kx) e).j∉T.map (·.1)++ds) (hl:∀i,i<e->(pr t.mask ((tK prog w).hash kx) i).j∈T.map (·.1)++ds) (h10:e<10*dY t.mask)
  (q1:∀B r C,T=B++r::C->r.2.1=kx->Q (.there<|some B.length) s) (q2:kx∉T.map (·.2.1)->∀j b,Q (.free j b) s):∀ (fuel n:Nat) (d:Option Nat) (stand:Option SetTable.Probe),stand.getD (t.probeStart<|(tK prog w).hash kx)=prd t.mask ((tK prog w).hash kx) n d->n<=e->e-n<fuel->(∀r∈T,r.2.1=kx->∃i,n<=i/\i<e/\(pr t.mask ((tK prog w).hash kx) i).j=r.1)->
   AG (AF prog w) A (BE a (.ref x) ((tK prog w).hash kx) false fuel stand) Q E s
 |0,n,d,stand,e1,h1,h2,h3=>by omega
 |fuel+1,n,d,stand,e1,h1,h2,h3=>by
  unfold BE;refine AA<|AM ho hd fit ?_;dsimp only
  have gw:t.gaveWay=false:=by
   unfold aFz
   rcases X.om with q|q|q|q|q<;>rw[q]<;>rfl
  rw[gw];simp only[aF,if_false]
  have hAt:∀B r C,T=B++r::C->es[B.length]? =some ((tK prog w).hash r.2.1,Value.ref r.2.2):=λB r C q=>by rw[X.en,q];simp
  rw[e1];generalize hf:t.probe _ ((tK prog w).hash kx) (prd t.mask ((tK prog w).hash kx) n d)=met;obtain⟨F,hF,hf⟩:∃F:Nat->Int,(∀i,F i=((es[i]?).map (·.1)).getD 0)/\t.probe F ((tK prog w).hash kx) (prd t.mask ((tK prog w).hash kx) n d)=met:=⟨_,λi=>rfl,hf⟩;unfold cN at hf
  obtain ⟨k,d',k1,k2,k3,k4⟩:=xA X (hashAt:=F) (fun B r C q=>by
   have:=hAt B r C q;rw[hF,this]
   rfl) ((tK prog w).hash kx) (10*dY t.mask) n e d h1 (by omega) he
  rcases k4 with⟨hm,hg⟩|⟨B,r,C,eT,hj,hh,hg⟩
  ·rw[hg] at hf;subst hf;dsimp only
   have ke:k=e:=by
    rcases bW k2 with z|z
    ·exact absurd (hl k z) hm
    ·exact z
   subst ke
   have nk:kx∉T.map (·.2.1):=λhc=>by obtain⟨r,hr,er⟩:=aH.mp hc;obtain⟨i,i1,i2,i3⟩:=h3 r hr er;exact(k3 i i1 i2).2 r hr i3.symm (by rw[er])
   cases d' with
   |none=>exact AB<|q2 nk _ _
   |some dd=>simp only[iZ,aF,if_false];exact AB<|q2 nk _ _
  ·rw[hg] at hf;subst hf;dsimp only;have hr:r∈T:=by rw[eT];simp
   have hei:=hAt B r C eT;have hsl:=X.slot_live eT;rw[hj] at hsl;have sm:t.sameMemory t.moves t.mask=some true:=by unfold aCs;simp
   have hke:k<e:=by
    rcases bW k2 with z|z
    ·exact z
    ·subst z;exact absurd (aU _<|hj▸aY hr) he
   have cont:AG (AF prog w) A (do
     let some (_,y):=es[B.length]? | unsupported "internal:set-entry"
     let equal <-holding [y] (eqBool y<|.ref x)
     let (es',_,t') <-setState a
     if(false&&equal)=true then return .there none
     let some same:=t'.sameMemory t.moves t.mask|unsupported "set.changed-during-lookup:is-the-new-block-at-the-old-address"
     let still <-match(if same then t'.slot (pr t.mask ((tK prog w).hash kx) k).j else .empty) with
      |.live i'=>match es'[i']? with
       |some (_,y')=>do pure (if <-isSame y' y then some i' else none)
       |none=>pure none
      |_=>pure none
     match still with
     |none=>rule "set.search.anew";BE a (.ref x) ((tK prog w).hash kx) false fuel none
     |some i'=>if equal then return .there (some i') else BE a (.ref x) ((tK prog w).hash kx) false fuel (some (prd t.mask ((tK prog w).hash kx) (k+1) d'))) Q E s:=by
    rw[hei];dsimp only;refine AA (AS<|(tK prog w).eqBool hu (hk r hr) hx ?_);refine AA<|AM ho hd fit ?_;dsimp only;simp only[iZ,aF,if_false];rw[sm];dsimp only;rw[if_pos rfl,hsl];dsimp only;rw[hei];dsimp only;refine AA<|wpAny_isSame_ref_self ?_;refine AA<|AB ?_;simp only[if_true]
    by_cases hkx:r.2.1=kx
    ·rw[decide_eq_true hkx];simp only[if_true];exact AB<|q1 B r C eT hkx
    ·rw[decide_eq_false hkx];simp only[aF,if_false];refine aEy hu ho hd X fit hx hk he hl h10 q1 q2 fuel (k+1) d' (some _) rfl (by omega) (by omega) λr' hr' e'=> ?_
     obtain⟨i,i1,i2,i3⟩:=h3 r' hr' e';refine⟨i, ?_,i2,i3⟩
     rcases kP i k with z|z
     ·exact absurd (by rw[e'])<|(k3 i i1 z).2 r' hr' i3.symm
     ·rcases bW z with z|z
      ·exact z
      ·exfalso;subst z;have:r'=r:=X.same_row hr' hr<|i3.symm.trans hj.symm;rw[this] at e';exact hkx e'
   cases hled:t.led with
   |true=>simp only[dR,aF,if_false];exact cont
   |false=>
    simp only[jA,if_true];refine AA<|aLo hx (λv hv=> ?_) ?_
    ·obtain⟨p,hp,rfl⟩:=aH.mp hv
     have hp':p∈es.toList:=by have:=lR.mp hp;exact lR.mpr (aIq.mp this).1
     rw[X.en] at hp';obtain⟨r2,h2',rfl⟩:=aH.mp (by simpa using hp':p∈T.map λr=>((tK prog w).hash r.2.1,Value.ref r.2.2));exact⟨r2.2.1,r2.2.2,rfl,hk r2 h2'⟩
    simp only[aF,if_false];exact cont
theorem TabU.size(X:TabU hs t es T ds):es.size=T.length:=by rw[X.en];simp
theorem TabU.fit(X:TabU hs t es T ds)(hl:T.length+ds.length<=t.mask):t.fits es.size=true:=by
 have e1:=X.size;have e3:t.place.size=T.length:=by rw[X.pl];simp
 have e4:t.dummies.size=ds.length:=by rw[X.du];simp
 unfold aIt aIs;simp only[bH,beq_iff_eq,decide_eq_true_eq];exact⟨by rw[e3,e1],by rw[e3,e4];exact hl⟩
theorem aIE{a x:BJ}{o:BM}{kx:List Key}{ep:Nat}{Q:Option Nat->BI->Prop}(hu:A.units<AR)(ho:s.heap.get? a=some o)(hd:o.data=.set es ep t)(X:TabU (tK prog w).hash t es T ds)(hm:T.length+ds.length<=t.mask)
  (hx:(tK prog w).is s.heap kx x) (hk:∀r∈T,(tK prog w).is s.heap r.2.1 r.2.2)
  (q1:∀B r C,T=B++r::C->r.2.1=kx->Q (some B.length) s) (q2:kx∉T.map (·.2.1)->Q none s):AG (AF prog w) A (setFind a (.ref x)<|(tK prog w).hash kx) Q E s:=by
 have fit:=X.fit hm;obtain⟨e,e1,e2,e3⟩:=X.room hm<|(tK prog w).hash kx;unfold setFind setFindIn;refine AA<|AM ho hd fit ?_;dsimp only;have bs:byScan (.ref x) es=false:=rfl;rw[bs];simp only[aF,if_false];unfold setSearch;refine AA<|aEy hu ho hd X fit hx hk e2 e3 e1 (λB r C eT er=> ?_) (λnk j b=> ?_) 100000 0 none none (by rw[aGF];rfl) (bI _) ?_ λr hr er=> ?_
 ·exact AB<|q1 B r C eT er
 ·exact AB<|q2 nk
 ·have:dY t.mask<=1000:=by rcases X.om with q|q|q|q|q<;>rw[q]<;>decide
  omega
 ·obtain⟨n,n1,n2⟩:=X.ahead hr (e:=e) (by rw[er];exact e2);rw[er] at n2;exact⟨n,bI _,n1,n2⟩
theorem aLj{α:Type}(a:List α)(x:α)(b:List α):iQ (a++x::b).toArray a.length=(a++b).toArray:=by unfold iQ;apply oW.mp;simp;exact fJ<|by omega
theorem oI{α β:Type}{f:α->β}{l:List α}{l':List β}(h:l'.Perm (l.map f)):∃l2:List α,l2.Perm l/\l'=l2.map f:=by
 generalize hy:l.map f=y at h
 induction h generalizing l with
 |nil=>
  have:l=[]:=by simpa using hy
  subst this;exact⟨[],.refl _,rfl⟩
 |cons x p ih=>
  cases l with
  |nil=>simp at hy
  |cons a t=>simp only[aR,List.cons.injEq] at hy;obtain⟨l3,q1,q2⟩:=ih hy.2;exact⟨a::l3,q1.cons a,by rw[aR,hy.1,q2]⟩
 |swap x y l0=>
  match l,hy with
  |a::b::t,hy=>simp only[aR,List.cons.injEq] at hy;exact⟨b::a::t,List.Perm.swap a b t,by rw[aR,aR,hy.1,hy.2.1,hy.2.2]⟩
  |[a],hy=>simp at hy
  |[],hy=>simp at hy
 |trans p1 p2 ih1 ih2=>obtain⟨l3,q1,q2⟩:=ih2 hy;obtain⟨l4,r1,r2⟩:=ih1 q2.symm;exact⟨l4,r1.trans q1,r2⟩
theorem TabU.drop(X:TabU hs t es T ds){A B:List dB}{r:dB}(e:T=A++r::B):
  ∃ds',ds'.length=ds.length+1/\TabU hs (t.drop A.length) (iQ es A.length) (A++B) ds'/\(t.drop A.length).mask=t.mask:=by
 have hr:r∈T:=by rw[e];simp
 have hnd:r.1∉ds:=λz=>X.dj _ z<|aY hr
 obtain⟨d1,d2,ed,hd1,hd2⟩:=tR r.1 X.dr
 have hbl:eF t.dummies r.1=d1.length:=by rw[X.du,ed];exact lD hd1 hd2
 have hpl:t.place[A.length]? =some r.1:=by rw[X.pl,e];simp
 have hd2':∀x∈d2,r.1<x:=λx hx=>by
  rcases bW (hd2 x hx) with z|z
  ·exact z
  ·exact absurd (by rw[ed,z];exact aC _ hx) hnd
 have ep:(t.drop A.length).place=((A++B).map (·.1)).toArray:=by
  unfold rE;rw[hpl];show iQ t.place A.length=_;have q:t.place=(A.map (·.1)++r.1::B.map (·.1)).toArray:=by rw[X.pl,e,aI,aR]
  rw[q];have:=aLj (A.map (·.1)) r.1 (B.map (·.1));rw[aA] at this;rw[this,aI]
 have edu:(t.drop A.length).dummies=(d1++r.1::d2).toArray:=by unfold rE;rw[hpl];show gP t.dummies (eF t.dummies r.1) r.1=_;rw[hbl,X.du,aIK,ed];congr 1;rw[aMB,aMC]
 have em:(t.drop A.length).mask=t.mask:=by unfold rE;rw[hpl]
 have sub:∀ {x:dB},x∈A++B->x∈T:=λ{x} hx=>by
  rw[e]
  rcases aJ.mp hx with z|z
  ·exact aU _ z
  ·exact aC _<|aO _ z
 have sl:(A++B).Sublist T:=by rw[e];exact List.Sublist.append (List.Sublist.refl _)<|List.sublist_cons_self _ _
 have occ:∀ {x:Nat},x∈T.map (·.1)++ds->x∈(A++B).map (·.1)++(d1++r.1::d2):=λ{x} hx=>by
  rcases aJ.mp hx with z|z
  ·rw[e,aI,aR] at z
   rcases aJ.mp z with z|z
   ·exact aU _ (by rw[aI];exact aU _ z)
   ·rcases aV.mp z with z|z
    ·exact aC _ (by rw[z];simp)
    ·exact aU _ (by rw[aI];exact aC _ z)
  ·rw[ed] at z;refine aC _ ?_
   rcases aJ.mp z with z|z
   ·exact aU _ z
   ·exact aC _<|aO _ z
 refine⟨d1++r.1::d2,by rw[ed];simp;omega,⟨by rw[em];exact X.om,ep, ?_,edu, ?_, ?_,λd hd hc=> ?_,λx hx=>by rw[em];exact X.lt x<|sub hx,λx hx=> ?_, ?_⟩,em⟩
 ·rw[X.en,e,aI,aR];have:=aLj (A.map λr=>(hs r.2.1,Value.ref r.2.2)) (hs r.2.1,Value.ref r.2.2)<|B.map λr=>(hs r.2.1,Value.ref r.2.2);rw[aA] at this;rw[this,aI]
 ·exact X.rs.sublist<|sl.map _
 ·have hp:=X.dr;rw[ed] at hp;obtain⟨p1,p2,p3⟩:=cV.mp hp;refine cV.mpr ⟨p1,fE.mpr ⟨hd2',p2⟩,λx hx y hy=> ?_⟩
  rcases aV.mp hy with rfl|hy
  ·exact hd1 x hx
  ·exact p3 x hx y hy
 ·obtain⟨x,hx,ex⟩:=aH.mp hc;have hxT:=sub hx
  rcases aJ.mp hd with z|z
  ·exact X.dj d (by rw[ed];exact aU _ z)<|ex▸aY hxT
  ·rcases aV.mp z with z|z
   ·have:x=r:=X.same_row hxT hr<|ex.trans z;subst this;have nd:=X.kn;rw[e,aI,aR] at nd;obtain⟨n1,n2,n3⟩:=cX.mp nd
    rcases aJ.mp hx with w|w
    ·exact n3 _ (aY w) _ aK rfl
    ·exact(fB.mp n2).1<|aY w
   ·exact X.dj d (by rw[ed];exact aC _ z)<|ex▸aY hxT
 ·obtain⟨n,q1,q2⟩:=X.rc x<|sub hx;rw[em];exact⟨n,q1,λi hi=>occ<|q2 i hi⟩
 ·exact X.kn.sublist<|sl.map _
def SetU(prog:AI)(w:AL)(o:BM)(T:List dB)(ds:List Nat)(m:Nat):Prop:=∃ (es:Array (Int×BH)) (ep:Nat) (t:BQ),o={cls:=.type "set",dict:=none,data:=.set es ep t}/\TabU (tK prog w).hash t es T ds/\t.mask=m/\t.led= !byT w/\t.plain=true
theorem SetT.U{o:BM}(S:SetT prog w true o T):∃m,SetU prog w o T [] m/\okM m/\SzT m T.length:=by obtain⟨es,ep,t,e,X,h7,hl,hp⟩:=S;exact⟨t.mask,⟨es,ep,t,e,X.U,rfl,hl,hp rfl⟩,X.om,h7⟩
theorem aFR{a x:BJ}{o:BM}{kx:List Key}{m:Nat}{Q:Bool->BI->Prop}(hu:A.units<AR)(ho:s.heap.get? a=some o)(S:SetU prog w o T ds m)(hm:T.length+ds.length<=m)(h16:T.length<=1000)
  (hx:(tK prog w).is s.heap kx x) (hk:∀r∈T,(tK prog w).is s.heap r.2.1 r.2.2)
  (h:∀ (b:Bool) (h':BL) (o':BM) (T':List dB) (ds':List Nat),Heap.SameBut a s.heap h'->h'.get? a=some o'->SetU prog w o' T' ds' m->T'.length+ds'.length=T.length+ds.length->(∀p,p∈T'->p∈T)->(∀k,k∈T'.map (·.2.1)↔k∈T.map (·.2.1)/\k≠kx)->Q b {s with heap:=h'}):
  AG (AF prog w) A (setDiscardHashed a (.ref x)<|(tK prog w).hash kx) Q E s:=by
 have S0:=S;obtain⟨es,ep,t,rfl,X,rfl,hl,hp⟩:=S;have fit:=X.fit hm;unfold setDiscardHashed;refine AA<|aIE hu ho rfl X hm hx hk (λB r C eT er=> ?_) λnk=> ?_
 ·dsimp only;refine AA<|AM ho rfl fit ?_;dsimp only;obtain⟨ds',l',X',em⟩:=X.drop eT
  have hz:(iQ es B.length).size<=AN:=by
   rw[X'.size,AU];have:T.length=(B++C).length+1:=by rw[eT];simp;omega
   omega
  refine AA<|Ap ho rfl ?_ hz;refine AA (wpAny_point<|AB ?_);have g1:=cY (Obj.putSet (iQ es B.length)<|t.drop B.length) ho (by rw[Av _ _ rfl];rfl);rw[Av _ _ rfl] at g1
  have dl:(t.drop B.length).led=t.led/\(t.drop B.length).plain=t.plain:=by
   unfold rE
   split<;>exact⟨rfl,rfl⟩
  refine h true _ _ (B++C) ds' (Heap.SameBut.update s.heap a _) g1 ⟨_,_,_,rfl,X',em,dl.1.trans hl,dl.2.trans hp⟩ (by rw[l',eT];simp;omega) (λp hp=> ?_) λk=> ?_
  ·rw[eT]
   rcases aJ.mp hp with z|z
   ·exact aU _ z
   ·exact aC _<|aO _ z
  ·have nd:=X.kn;rw[eT,aI,aR] at nd;obtain⟨n1,n2,n3⟩:=cX.mp nd;rw[eT,aI,aI,aR,aJ,aJ,aV,er];rw[er] at n2 n3
   constructor
   ·rintro(z|z)
    ·exact⟨.inl z,λq=>n3 k z kx aK q⟩
    ·exact⟨.inr<|.inr z,λq=>(fB.mp n2).1<|q▸z⟩
   ·rintro⟨z|z|z,q⟩
    ·exact .inl z
    ·exact absurd z q
    ·exact .inr z
 ·dsimp only;refine AB (h false s.heap _ T ds (Heap.SameBut.refl a s.heap) ho S0 rfl (λp hp=>hp) λk=>⟨λz=>⟨z,λq=>nk<|q▸z⟩,λz=>z.1⟩)
theorem aFJ{a:BJ}{o:BM}{m:Nat}{others:List BJ}{filled:Option BJ}{Q:Array (Int×BH)->BI->Prop}(ho:s.heap.get? a=some o)(S:SetU prog w o T ds m)(hm:T.length+ds.length<=m)
  (h:∀T':List dB,T'.Perm T->Q (T'.map<|gT (tK prog w).hash).toArray s):AG (AF prog w) A (setWalkUnseen a others filled) Q E s:=by
 obtain⟨es,ep,t,rfl,X,rfl,hl,hp⟩:=S;have fit:=X.fit hm;have ee:es=(T.map<|gT (tK prog w).hash).toArray:=X.en
 have pick:∀ {f:Nat->Nat},∃T':List dB,T'.Perm T/\pickOrder f es=(T'.map<|gT (tK prog w).hash).toArray:=λ{f}=>by
  have p1:(pickOrder f es).toList.Perm es.toList:=by have:=aBb f es.size 0 es.toList #[] (by simp);simpa[pickOrder] using this
  rw[ee] at p1;obtain⟨T',q1,q2⟩:=oI (f:=gT (tK prog w).hash) (l:=T) (l':=(pickOrder f es).toList) (by simpa[ee] using p1);exact⟨T',q1,by rw[<-q2]⟩
 unfold setWalkUnseen;refine AA<|AM ho rfl fit ?_;dsimp only;unfold setsByText;refine AA<|AA (Ab<|AB ?_)
 have hc:(w.params.followText "set-order"||(t.led&&t.plain)||decide (es.size<=1))=true:=by rw[hl,hp];show(byT w||(!byT w&&true)||_)=true;cases byT w<;>rfl
 show AG _ _ (if(w.params.followText "set-order"||(t.led&&t.plain)||decide (es.size<=1))=true then _ else _) _ _ _;rw[if_pos hc];unfold setWalk setsByText;refine AA<|AM ho rfl fit ?_;dsimp only;refine AA<|AA (Ab<|AB ?_);show AG _ _ (if byT w=true then _ else _) _ _ _;cases hb:byT w with
 |true=>rw[if_pos rfl];refine AA (Ab<|AB ?_);obtain⟨T',q1,q2⟩:=pick (f:=w.params.setOrder a ep);show Q (pickOrder (w.params.setOrder a ep) es) s;rw[q2];exact h T' q1
 |false=>rw[if_neg<|by decide];show AG _ _ (if(!t.plain&&decide (es.size>1))=true then _ else _) _ _ _;rw[hp];simp only[dR,iZ,aF,if_false];refine AA ?_;show AG _ _ (if(!t.led&&decide (es.size>1))=true then _ else _) _ _ _;rw[hl,hb];simp only[jA,dR,iZ,aF,if_false];refine AB<|AB ?_;rw[ee];exact h T<|.refl _
theorem SetU.room{o:BM}{m:Nat}(S:SetU prog w o T ds m)(hm:T.length+ds.length<=m):∃es ep t,o.data=.set es ep t/\t.fits es.size=true/\es.size=T.length:=by obtain⟨es,ep,t,rfl,X,rfl,_,_⟩:=S;exact⟨es,ep,t,rfl,X.fit hm,X.size⟩
theorem zT{a:BJ}{o:BM}{m:Nat}{Q:Nat->BI->Prop}(ho:s.heap.get? a=some o)(S:SetU prog w o T ds m)(hm:T.length+ds.length<=m)(h:Q T.length s):AG (AF prog w) A (Builtin.Frozenset.sizeOf a) Q E s:=by obtain⟨es,ep,t,hd,fit,sz⟩:=S.room hm;unfold Builtin.Frozenset.sizeOf setEntries;refine AA (AA<|AM ho hd fit (AB<|AB ?_));rw[sz];exact h
theorem rQ{a:BJ}{o:BM}{Q:Bool->BI->Prop}(ho:s.heap.get? a=some o)(hc:o.cls=.type "set")(h:Q true s):AG (AF prog w) A (Builtin.Frozenset.isAnySet<|.ref a) Q E s:=by have hT:s.TypeIs (.ref a) "set":=⟨o,ho,hc⟩;unfold Builtin.Frozenset.isAnySet orM;exact AA<|BD (T:="set") (b:=true) hT sub_set_self (show AG _ _ (pure true) _ _ _ from AB h)
theorem aAR{a:BJ}{o:BM}{Q:BH->BI->Prop}(ho:s.heap.get? a=some o)(hc:o.cls=.type "set")(h:Q (.type "set") s):AG (AF prog w) A (Builtin.Frozenset.baseOf a) Q E s:=by have hT:s.TypeIs (.ref a) "set":=⟨o,ho,hc⟩;unfold Builtin.Frozenset.baseOf;exact AA (BD (T:="set") (b:=true) hT sub_set_self<|AB h)
theorem aBc{Q:BH->BI->Prop}(h:Q (.ref s.heap.objs.size) {s with heap:=s.heap.push (jR w)}):AG (AF prog w) A (newSet<|.type "set") Q E s:=by unfold newSet setsByText;refine AA<|AA (Ab<|AB ?_);dsimp only;exact Ah h
theorem aBF{a:BJ}{o:BM}{m:Nat}{Q:Nat->BI->Prop}(ho:s.heap.get? a=some o)(S:SetU prog w o T ds m)(hm:T.length+ds.length<=m)(h:∀n,(∀s':BI,s'.heap.get? a=some o->∀ {Q':Unit->BI->Prop}{A':BK}{E':BH->BI->Prop} (id:String),Q' () s'->AG (AF prog w) A' (Builtin.Frozenset.unchanged id a n) Q' E' s')->Q n s):AG (AF prog w) A (setEpoch a) Q E s:=by obtain⟨es,ep,t,hd,fit,sz⟩:=S.room hm;refine wpAny_setEpoch_of ho hd fit<|h ep λs' ho' Q' A' E' id hq=> ?_;unfold Builtin.Frozenset.unchanged;refine AA<|wpAny_setEpoch_of ho' hd fit ?_;simp only[bne_self_eq_false,aF,if_false];exact AB hq
def RowsIn(prog:AI)(w:AL)(h0:BL)(T:List dB):Prop:=∀p∈T.map (·.2),(tK prog w).is h0 p.1 p.2/\∀z∈p.1,∃i,z=Sum.inl i
theorem RowsIn.row{h0:BL}(R:RowsIn prog w h0 T){r:dB}(hr:r∈T):(tK prog w).is h0 r.2.1 r.2.2/\∀z∈r.2.1,∃i,z=Sum.inl i:=R r.2<|aY hr
theorem aIH{a b r:BJ}{oa ob:BM}{Ta Tb:List dB}{mb:Nat}{id:String}{was:Nat}{h0:BL}(hu:A.units<AR)(hn:∀s':BI,s'.heap.get? a=some oa->∀ {Q':Unit->BI->Prop}{A':BK}{E':BH->BI->Prop} (id:String),Q' () s'->AG (AF prog w) A' (Builtin.Frozenset.unchanged id a was) Q' E' s')
  (Sb:SetU prog w ob Tb [] mb) (hmb:Tb.length<=mb) (RA:RowsIn prog w h0 Ta) (RB:RowsIn prog w h0 Tb) (hra:r≠a) (hrb:r≠b) (hr0:h0.get? r=none) (ha0:h0.get? a=some oa) (hb0:h0.get? b=some ob) (h16:Ta.length<=72) {Q:PUnit->BI->Prop}
  (hq:∀ (h':BL) (tk:Nat) (o':BM) (T':List dB),(∀x o,h0.get? x=some o->h'.get? x=some o)->h'.get? r=some o'->SetT prog w true o' T'->(∀k,k∈T'.map (·.2.1)↔k∈Ta.map (·.2.1)/\k∉Tb.map (·.2.1))->Q ⟨⟩ {s with heap:=h',toks:=tk}):
  ∀ (rest done:List dB) (h1:BL) (tk:Nat) (o1:BM) (T1:List dB),(done++rest).Perm Ta->(∀x o,h0.get? x=some o->h1.get? x=some o)->h1.get? r=some o1->SetT prog w true o1 T1->RowsIn prog w h0 T1->(∀k,k∈T1.map (·.2.1)↔k∈done.map (·.2.1)/\k∉Tb.map (·.2.1))->T1.length<=done.length->
   AG (AF prog w) A (forIn (rest.map (gT (tK prog w).hash)) PUnit.unit fun (p:Int × BH) (_:PUnit)=>do
    holding [p.2] do
     let there <-do pure (<-setFind b p.2 p.1).isSome
     if !there then
      let _ <-setAddHashed r p.2 p.1
    Builtin.Frozenset.unchanged id a was
    pure (ForInStep.yield PUnit.unit)) Q E {s with heap:=h1,toks:=tk}
 |[],done,h1,tk,o1,T1,pm,kp,g,S1,R1,k1,l1=>by rw[dD,nK];refine AB<|hq h1 tk o1 T1 kp g S1 λk=> ?_;rw[k1,(pm.map (·.2.1)).mem_iff.symm];simp
 |q::rest,done,h1,tk,o1,T1,pm,kp,g,S1,R1,k1,l1=>by
  have hqa:q∈Ta:=pm.mem_iff.mp (by simp);obtain⟨ik,ii⟩:=RA.row hqa
  have lq:done.length+rest.length+1=Ta.length:=by have:=pm.length_eq;simp at this;omega
  have ik1:(tK prog w).is h1 q.2.1 q.2.2:=iN ik λo g=>kp _ _ g
  have hb1:h1.get? b=some ob:=kp b ob hb0;have pm':((done++[q])++rest).Perm Ta:=by simpa using pm
  rw[aR,jS];refine AA (AA<|AS ?_);obtain⟨es,ep,t,eo,X,rfl,_,_⟩:=Sb;have hd:ob.data=.set es ep t:=by rw[eo]
  refine AA (aIE (s:={s with heap:=h1,toks:=tk}) hu hb1 hd X (by simpa using hmb) ik1 (λr' hr'=>iN (RB.row hr').1 λo g=>kp _ _ g) (λB r' C eT er=>AA<|AB ?_) λnk=>AA<|AB ?_)
  ·simp only[rX,dR,aF,if_false];refine AB (AA (hn _ (kp a oa ha0) id<|AB ?_))
   have hin:q.2.1∈Tb.map (·.2.1):=by rw[eT,<-er];simp
   refine aIH hu hn ⟨es,ep,t,eo,X,rfl,by assumption,by assumption⟩ hmb RA RB hra hrb hr0 ha0 hb0 h16 hq rest (done++[q]) h1 tk o1 T1 pm' kp g S1 R1 (λk=> ?_) (by simp;omega);rw[k1]
   constructor
   ·rintro⟨z1,z2⟩;exact⟨by simp only[aI,aJ];exact .inl z1,z2⟩
   ·rintro⟨z1,z2⟩;simp only[aI,aJ,aR,dD,bA] at z1
    rcases z1 with z1|z1
    ·exact⟨z1,z2⟩
    ·exact absurd (z1▸hin) z2
  ·simp only[aFx,jA,if_true];refine AA (aIB (s:={s with heap:=h1,toks:=tk}) (ip:=true) (λ_=>ii) hu (by omega) g S1 (λr' hr'=>iN (R1.row hr').1 λo g=>kp _ _ g) ik1 λbb h2 o2 tk2 T2 sb g2 S2 rr2 kk2=> ?_)
   have kp2:∀x o,h0.get? x=some o->h2.get? x=some o:=λx o gx=>by rw[sb.2 x λz=>by rw[z,hr0] at gx;cases gx];exact kp x o gx
   refine AB<|AA (hn _ (kp2 a oa ha0) id<|AB ?_)
   have R2:RowsIn prog w h0 T2:=λp hp=>by
    rcases rr2 p hp with rfl|z
    ·exact⟨ik,ii⟩
    ·exact R1 p z
   refine aIH hu hn ⟨es,ep,t,eo,X,rfl,by assumption,by assumption⟩ hmb RA RB hra hrb hr0 ha0 hb0 h16 hq rest (done++[q]) h2 tk2 o2 T2 pm' kp2 g2 S2 R2 (λk=> ?_) ?_
   ·rw[kk2,k1];simp only[aI,aJ,aR,dD,bA]
    constructor
    ·rintro(z|⟨z1,z2⟩)
     ·exact⟨.inr z,z▸nk⟩
     ·exact⟨.inl z1,z2⟩
    ·rintro⟨z1|z1,z2⟩
     ·exact .inr ⟨z1,z2⟩
     ·exact .inl z1
   ·have nd:=S2.nd
    have:T2.length<=(q.2.1::T1.map (·.2.1)).length:=by
     have:=nd.length_le_of_subset (l₂:=q.2.1::T1.map (·.2.1)) λk hk=>by
      rcases(kk2 k).mp hk with z|z
      ·rw[z];exact aK
      ·exact aO _ z
     rwa[aA] at this
    simp at this ⊢;omega
theorem aKX{b r:BJ}{ob:BM}{Tb Ta:List dB}{m:Nat}{id:String}{was:Nat}{h0:BL}(hu:A.units<AR)(hn:∀s':BI,s'.heap.get? b=some ob->∀ {Q':Unit->BI->Prop}{A':BK}{E':BH->BI->Prop} (id:String),Q' () s'->AG (AF prog w) A' (Builtin.Frozenset.unchanged id b was) Q' E' s')
  (RB:RowsIn prog w h0 Tb) (hrb:r≠b) (hr0:h0.get? r=none) (hb0:h0.get? b=some ob) (hm:Ta.length<=m) (h16:Ta.length<=72) {Q:PUnit->BI->Prop}
  (hq:∀ (h':BL) (o':BM) (T':List dB) (ds:List Nat),(∀x o,h0.get? x=some o->h'.get? x=some o)->h'.get? r=some o'->SetU prog w o' T' ds m->T'.length+ds.length=Ta.length->ds.length<=Tb.length->(∀k,k∈T'.map (·.2.1)↔k∈Ta.map (·.2.1)/\k∉Tb.map (·.2.1))->Q ⟨⟩ {s with heap:=h'}):
  ∀ (rest done:List dB) (h1:BL) (o1:BM) (T1:List dB) (ds:List Nat),(done++rest).Perm Tb->(∀x o,h0.get? x=some o->h1.get? x=some o)->h1.get? r=some o1->SetU prog w o1 T1 ds m->RowsIn prog w h0 T1->T1.length+ds.length=Ta.length->ds.length<=done.length->(∀k,k∈T1.map (·.2.1)↔k∈Ta.map (·.2.1)/\k∉done.map (·.2.1))->
   AG (AF prog w) A (forIn (rest.map (gT (tK prog w).hash)) PUnit.unit fun (p:Int × BH) (_:PUnit)=>do
    let _ <-holding [p.2] (setDiscardHashed r p.2 p.1)
    Builtin.Frozenset.unchanged id b was
    pure (ForInStep.yield PUnit.unit)) Q E {s with heap:=h1}
 |[],done,h1,o1,T1,ds,pm,kp,g,S1,R1,l1,d1,k1=>by
  rw[dD,nK];refine AB<|hq h1 o1 T1 ds kp g S1 l1 ?_ λk=> ?_
  ·have:=pm.length_eq;simp at this;omega
  ·rw[k1]
   have:k∈done.map (·.2.1)↔k∈Tb.map (·.2.1):=by have:=(pm.map (·.2.1)).mem_iff (a:=k);simpa using this
   rw[this]
 |q::rest,done,h1,o1,T1,ds,pm,kp,g,S1,R1,l1,d1,k1=>by
  have hqb:q∈Tb:=pm.mem_iff.mp (by simp);obtain⟨ik,ii⟩:=RB.row hqb;have ik1:(tK prog w).is h1 q.2.1 q.2.2:=iN ik λo g=>kp _ _ g
  have pm':((done++[q])++rest).Perm Tb:=by simpa using pm
  rw[aR,jS];refine AA<|AA (AS<|aFR (s:={s with heap:=h1}) hu g S1 (by omega) (by omega) ik1 (λr' hr'=>iN (R1.row hr').1 λo g=>kp _ _ g) λbb h2 o2 T2 ds2 sb g2 S2 l2 sub k2=> ?_)
  have kp2:∀x o,h0.get? x=some o->h2.get? x=some o:=λx o gx=>by rw[sb.2 x λz=>by rw[z,hr0] at gx;cases gx];exact kp x o gx
  refine AA (hn _ (kp2 b ob hb0) id<|AB ?_)
  have dd:ds2.length<=ds.length+1:=by
   have nd2:(T2.map (·.2.1)).Nodup:=by obtain⟨_,_,_,_,X2,_⟩:=S2;exact X2.kn
   have nd1:(T1.map (·.2.1)).Nodup:=by obtain⟨_,_,_,_,X1,_⟩:=S1;exact X1.kn
   have:T1.length<=(q.2.1::T2.map (·.2.1)).length:=by
    have:=nd1.length_le_of_subset (l₂:=q.2.1::T2.map (·.2.1)) λk hk=>by
     by_cases z:k=q.2.1
     ·rw[z];exact aK
     ·exact aO _<|(k2 k).mpr ⟨hk,z⟩
    rwa[aA] at this
   simp at this;omega
  refine aKX hu hn RB hrb hr0 hb0 hm h16 hq rest (done++[q]) h2 o2 T2 ds2 pm' kp2 g2 S2 (λp hp=> ?_) (by omega) (by simp;omega) λk=> ?_
  ·obtain⟨r',hr',rfl⟩:=aH.mp hp;exact R1.row<|sub r' hr'
  ·rw[k2,k1];simp only[aI,aJ,aR,dD,bA]
   constructor
   ·rintro⟨⟨z1,z2⟩,z3⟩;exact⟨z1,λz=>z.elim z2 z3⟩
   ·rintro⟨z1,z2⟩;exact⟨⟨z1,λz=>z2<|.inl z⟩,λz=>z2<|.inr z⟩
theorem aLB{a:BJ}{o:BM}{ep:Nat}{wanted:Nat}{Q:Unit->BI->Prop}(ho:s.heap.get? a=some o)(ho':o={cls:=.type "set",dict:=none,data:=.set es ep t})(X:TabT (tK prog w).hash t es T)(hl:T.length<=t.mask)(hm:okM (dE wanted-1))(hw:dE wanted<=1000)(h16:T.length<=dE wanted-1+1)
  (h:∀ (es':Array (Int×BH)) (ep':Nat) (t':BQ) (T':List dB) (h':BL),Heap.SameBut a s.heap h'->h'.get? a=some {cls:=.type "set",dict:=none,data:=.set es' ep' t'}->TabT (tK prog w).hash t' es' T'->t'.mask=dE wanted-1->t'.led=t.led->t'.plain=t.plain->T'.length=T.length->Q () {s with heap:=h'}):
  AG (AF prog w) A (setRelay a wanted) Q E s:=by
 subst ho';have fit:=X.fit hl;obtain⟨t',ord,T',e1,m1,_,ld1,pn1,X',l',p'⟩:=aAZ (hs:=(tK prog w).hash) (T:=T) hm h16 X.kn t.finger (t.movedTo<|dE wanted-1) t.led t.plain;have ee:es=(T.map<|gT (tK prog w).hash).toArray:=X.en;unfold setRelay;refine AA<|AM ho rfl fit ?_;dsimp only;rw[if_neg (show ¬ dE wanted>AN by rw[AU];omega)];refine AA ?_
 have rl:t.relaid (es.map (·.1)) wanted=some (t',ord):=by unfold aFD;rw[ee];exact e1
 rw[rl,ee]
 have sz:(ord.filterMap ((T.map<|gT (tK prog w).hash).toArray[·]?)).size=(T.map<|gT (tK prog w).hash).toArray.size:=by rw[X'.size,l'];simp
 show AG _ _ (if((ord.filterMap ((T.map<|gT (tK prog w).hash).toArray[·]?)).size !=(T.map<|gT (tK prog w).hash).toArray.size)=true then _ else _) _ _ _;rw[sz];simp only[bne_self_eq_false,aF,if_false];refine AB ?_;dsimp only;refine Ap ho rfl ?_ (by rw[sz,AU];simp;omega);have g1:=cY (Obj.putSet (ord.filterMap ((T.map<|gT (tK prog w).hash).toArray[·]?)) t') ho (by rw[Av _ _ rfl];rfl);rw[Av _ _ rfl] at g1;exact h _ _ _ T' _ (Heap.SameBut.update s.heap a _) g1 X' m1 ld1 pn1 l'
theorem aGx:∀n,n<73->8<=n->(dE (n*2)=32\/dE (n*2)=64\/dE (n*2)=128\/dE (n*2)=256)/\n*2<dE (n*2):=by decide+kernel
theorem aNw{a:BJ}{oa:BM}{Ta:List dB}{ma:Nat}{Q:BH->BI->Prop}(ho:s.heap.get? a=some oa)(S:SetU prog w oa Ta [] ma)(hm:Ta.length<=ma)(h8:8<=Ta.length)(h16:Ta.length<=72)
  (h:∀ (h':BL) (o':BM) (T':List dB) (m:Nat),(∀x o,s.heap.get? x=some o->h'.get? x=some o)->h'.get? s.heap.objs.size=some o'->SetU prog w o' T' [] m->(31<=m/\2*Ta.length<=m)->(T'.map (·.2)).Perm (Ta.map (·.2))->Q (.ref s.heap.objs.size) {s with heap:=h'}):
  AG (AF prog w) A (Builtin.Frozenset.copyOf a) Q E s:=by
 have hc:oa.cls=.type "set":=by obtain⟨_,_,_,e,_⟩:=S;rw[e]
 unfold Builtin.Frozenset.copyOf;refine AA<|aAR ho hc (AA<|aBc ?_);refine AA<|AB ?_;have ha:a<s.heap.objs.size:=aM ho;have ho1:(s.heap.push<|jR w).get? a=some oa:=aE _ ho;have hr1:(s.heap.push<|jR w).get? s.heap.objs.size=some (jR w):=bE _ rfl;obtain⟨es,ep,t,rfl,X,rfl,hl,hp⟩:=S;have fit:=X.fit (by simpa using hm);have sz:=X.size;have ee:es=(Ta.map<|gT (tK prog w).hash).toArray:=X.en;unfold setMerge;refine AA ?_;rw[if_neg (show ¬ (s.heap.objs.size==a)=true by simp;exact λz=>cQ _<|z▸ha)];refine AA<|AM (s:={s with heap:=s.heap.push (jR w)}) ho1 rfl fit ?_;dsimp only;rw[if_neg (show ¬ es.isEmpty=true by rw[Array.isEmpty_iff_size_eq_zero,sz];omega)];unfold setRoomFor
 have X0:TabT (tK prog w).hash (aHi (!byT w) []) #[] []:=by obtain⟨_,_,_,e,X0,_⟩:=aDb (prog:=prog) (w:=w) (ip:=true);cases e;exact X0
 refine AA (AA<|AM (s:={s with heap:=s.heap.push (jR w)}) hr1 rfl (X0.fit<|bI _) ?_)
 have rf:(aHi (!byT w) []).roomFor es.size=some (es.size*2):=by unfold SetTable.roomFor;have f0:(aHi (!byT w) []).fill=0:=X0.fill;have m7:(aHi (!byT w) []).mask=7:=rfl;have p0:(aHi (!byT w) []).place.size=0:=rfl;rw[f0,m7,p0,if_pos<|by rw[sz];omega];simp
 dsimp only;rw[rf];dsimp only;obtain⟨ab,ab2⟩:=aGx es.size (by rw[sz];omega) (by rw[sz];exact h8);refine aLB (s:={s with heap:=s.heap.push (jR w)}) (T:=[]) hr1 rfl X0 (bI _) (by rcases ab with q|q|q|q<;>rw[q]<;>simp[okM]) (by rcases ab with q|q|q|q<;>rw[q]<;>decide) (bI _) λes' ep' ts T0 h1 sb g1 XS ms lds pns l0=> ?_
 have t0:T0=[]:=fG.mp l0;subst t0;refine AA<|AM (s:={s with heap:=h1}) g1 rfl (XS.fit<|bI _) ?_;dsimp only
 have kp1:∀x o,s.heap.get? x=some o->h1.get? x=some o:=λx o gx=>by rw[sb.2 x λz=>cQ _<|z▸aM gx];exact aE _ gx
 have kpU:∀f,∀x o,s.heap.get? x=some o->(h1.update s.heap.objs.size f).get? x=some o:=λf x o gx=>by rw[(Heap.SameBut.update h1 s.heap.objs.size f).2 x λz=>cQ _<|z▸aM gx];exact kp1 x o gx
 have m31:31<=ts.mask/\2*Ta.length<=ts.mask:=by refine⟨by rw[ms];rcases ab with q|q|q|q<;>rw[q]<;>decide, ?_⟩;rw[ms];omega
 have s16:es.size<=AN:=by rw[sz,AU];omega
 have lds':ts.led= !byT w:=lds;have pns':ts.plain=true:=pns;have fl0:ts.fill=0:=XS.fill;unfold SetTable.road;rw[fl0];simp only[bne_self_eq_false,aF,if_false]
 by_cases hr:(ts.mask==t.mask&&t.dummies.isEmpty)=true
 ·rw[if_pos hr];dsimp only;refine Ap (s:={s with heap:=h1}) g1 rfl (AB ?_) s16;have g2:=cY (Obj.putSet es {t with finger:=ts.finger,led:=ts.led&&t.led,moves:=ts.moves,plain:=ts.plain&&t.plain}) g1 (by rw[Av _ _ rfl];rfl);rw[Av _ _ rfl] at g2;refine h _ _ Ta t.mask (kpU _) g2 ⟨es,_,_,rfl,⟨X.om,X.pl,X.en,X.du,X.rs,X.dr,X.dj,X.lt,X.rc,X.kn⟩,rfl, ?_, ?_⟩ ?_ (.refl _)
  ·show(ts.led&&t.led)=_;rw[lds',hl];cases byT w<;>rfl
  ·show(ts.plain&&t.plain)=true;rw[pns',hp];rfl
  ·simp only[bH,beq_iff_eq] at hr;rw[<-hr.1];exact m31
 ·rw[if_neg hr];dsimp only;obtain⟨t',ord,T',e1,m1,_,ld1,pn1,X',l',p'⟩:=aAZ (hs:=(tK prog w).hash) (T:=Ta) XS.om (by omega) X.kn ts.finger ts.moves (ts.led&&t.led) (ts.plain&&t.plain)
  have e1':zF ts.mask ts.finger ts.moves (ts.led&&t.led) (ts.plain&&t.plain) (es.map (·.1))=some (t',ord):=by rw[ee];exact e1
  rw[e1',ee]
  have sz2:(ord.filterMap ((Ta.map<|gT (tK prog w).hash).toArray[·]?)).size=(Ta.map<|gT (tK prog w).hash).toArray.size:=by rw[X'.size,l'];simp
  refine AA ?_;show AG _ _ (if((ord.filterMap ((Ta.map<|gT (tK prog w).hash).toArray[·]?)).size !=(Ta.map<|gT (tK prog w).hash).toArray.size)=true then _ else _) _ _ _;rw[sz2];simp only[bne_self_eq_false,aF,if_false];refine AB ?_;dsimp only;refine Ap (s:={s with heap:=h1}) g1 rfl (AB ?_) (by rw[sz2,<-ee];exact s16);have g2:=cY (Obj.putSet (ord.filterMap ((Ta.map<|gT (tK prog w).hash).toArray[·]?)) t') g1 (by rw[Av _ _ rfl];rfl);rw[Av _ _ rfl] at g2;refine h _ _ T' t'.mask (kpU _) g2 ⟨_,_,t',rfl,X'.U,rfl, ?_, ?_⟩ (by rw[m1];exact m31) p'
  ·rw[ld1,lds',hl];cases byT w<;>rfl
  ·rw[pn1,pns',hp];rfl
theorem SetU.cls{o:BM}{m:Nat}(S:SetU prog w o T ds m):o.cls=.type "set":=by obtain⟨_,_,_,e,_⟩:=S;rw[e]
def aKY(prog:AI)(w:AL)(s:BI)(Ta Tb:List dB)(Q:BH->BI->Prop):Prop:=
 ∀ (h':BL) (tk:Nat) (r:BJ) (o':BM) (es':Array (Int×BH)) (ep':Nat) (t':BQ),(∀x o,s.heap.get? x=some o->h'.get? x=some o)->s.heap.objs.size<=r->h'.get? r=some o'->o'={cls:=.type "set",dict:=none,data:=.set es' ep' t'}->t'.fits es'.size=true->es'.size<=72->(es'.size=0↔∀k∈Ta.map (·.2.1),k∈Tb.map (·.2.1))->Q (.ref r) {s with heap:=h',toks:=tk}
theorem aOb{a b:BJ}{oa ob:BM}{Ta Tb:List dB}{id:String}{Q:BH->BI->Prop}(hu:A.units<AR)(hab:a≠b)(hoa:s.heap.get? a=some oa)(hob:s.heap.get? b=some ob)(SA:SetT prog w true oa Ta)(SB:SetT prog w true ob Tb)(RA:RowsIn prog w s.heap Ta)(RB:RowsIn prog w s.heap Tb)(la:Ta.length<=72)(lb:Tb.length<=72)(lb1:1<=Tb.length)
  (h:aKY prog w s Ta Tb Q):AG (AF prog w) A (Builtin.Frozenset.difference id a<|.ref b) Q E s:=by
 obtain⟨ma,UA,oma,a7⟩:=SA.U;obtain⟨mb,UB,omb,b7⟩:=SB.U;have hma:Ta.length<=ma:=a7.fit oma la;have hmb:Tb.length<=mb:=b7.fit omb lb;unfold Builtin.Frozenset.difference;refine AA<|rQ hob UB.cls ?_;simp only[dR,aF,if_false,iZ,if_true];refine AA<|AB ?_;refine AA<|zT hob UB (by simpa using hmb) ?_;refine AA<|zT hoa UA (by simpa using hma) ?_
 by_cases hv:Ta.length / 4>Tb.length
 ·rw[if_pos hv];refine AA<|Az ?_;refine AA<|aNw hoa UA hma (by omega) la λh1 o1 T1 m kp1 g1 S1 m31 pm=> ?_;have hr0:s.heap.get? s.heap.objs.size=none:=lV (aG _)
  have lT1:T1.length=Ta.length:=by have:=pm.length_eq;simpa using this
  have R1:RowsIn prog w s.heap T1:=λp hp=>RA p<|pm.mem_iff.mp hp
  have k1:∀k,k∈T1.map (·.2.1)↔k∈Ta.map (·.2.1):=λk=>by have:=(pm.map (·.1)).mem_iff (a:=k);simpa[aX] using this
  have hrb:s.heap.objs.size≠b:=λz=>cQ _<|z▸aM hob
  have hob1:h1.get? b=some ob:=kp1 b ob hob;refine AA<|AB (AA<|AS ?_);unfold Builtin.Frozenset.differenceUpdate
  rw [if_neg (show ¬ (Value.ref b==Value.ref s.heap.objs.size)=true by
   intro z;have:Value.ref b=Value.ref s.heap.objs.size:=eq_of_beq z;cases this
   exact hrb rfl)]
  refine AA<|rQ (s:={s with heap:=h1}) hob1 UB.cls ?_;simp only[if_true];refine AA<|AB ?_;refine AA<|zT (s:={s with heap:=h1}) hob1 UB (by simpa using hmb) ?_;refine AA<|zT (s:={s with heap:=h1}) g1 S1 (by simp;omega) ?_;rw[if_neg (show ¬ Tb.length / 8>T1.length by omega)];refine AA<|aBF (s:={s with heap:=h1}) hob1 UB (by simpa using hmb) λwas hn=> ?_;refine AA<|AS ?_;refine AA<|aFJ (s:={s with heap:=h1}) hob1 UB (by simpa using hmb) λTw pw=> ?_;rw[<-iC];refine AA (aKX (s:=s) (Ta:=T1) (m:=m) (h0:=s.heap) hu hn RB hrb hr0 hob (by omega) (by omega) (λh2 o2 T2 ds kp2 g2 S2 l2 d2 k2=> ?_) Tw [] h1 o1 T1 [] (by simpa using pw) kp1 g1 S1 R1 (by simp) (by simp) λk=>by simp);refine AB ?_;unfold setTidy;obtain⟨es2,ep2,t2,e2,X2,rfl,hl2,hp2⟩:=S2;have fit2:=X2.fit (by omega);refine AA<|AM (s:={s with heap:=h2}) g2 (by rw[e2]) fit2 ?_;dsimp only
  have td:t2.tooManyDummies=false:=by
   unfold SetTable.tooManyDummies;have:t2.dummies.size=ds.length:=by rw[X2.du];simp
   rw[this];exact decide_eq_false<|by omega
  rw[td];simp only[aF,if_false];refine AB<|AB ?_;have hs2:=X2.size;refine h h2 s.toks s.heap.objs.size o2 es2 ep2 t2 kp2 (aG _) g2 e2 fit2 (by omega) ?_;rw[hs2]
  constructor
  ·intro z k hk;refine Classical.byContradiction λnk=> ?_
   have:k∈T2.map (·.2.1):=(k2 k).mpr ⟨(k1 k).mpr hk,nk⟩;rw[fG.mp z] at this;simp at this
  ·intro z;refine fG.mpr ?_;cases T2 with
   |nil=>rfl
   |cons q T2=>have:=(k2 q.2.1).mp (by simp);exact absurd (z _<|(k1 _).mp this.1) this.2
 ·rw[if_neg hv];refine AA<|aAR hoa UA.cls (AA<|aBc ?_);refine AA<|AB ?_;have hr0:s.heap.get? s.heap.objs.size=none:=lV<|aG _;have hra:s.heap.objs.size≠a:=λz=>cQ _ (z▸aM hoa)
  have hrb:s.heap.objs.size≠b:=λz=>cQ _<|z▸aM hob
  have kp1:∀x o,s.heap.get? x=some o->(s.heap.push<|jR w).get? x=some o:=λx o g=>aE _ g
  refine AA<|aBF (s:={s with heap:=s.heap.push (jR w)}) (kp1 a oa hoa) UA (by simpa using hma) λwas hn=> ?_;refine AA<|AS ?_;refine AA<|aFJ (s:={s with heap:=s.heap.push (jR w)}) (kp1 a oa hoa) UA (by simpa using hma) λTw pw=> ?_;rw[<-iC];refine AA (aIH (s:=s) (h0:=s.heap) hu hn UB hmb RA RB hra hrb hr0 hoa hob la (λh2 tk2 o2 T2 kp2 g2 S2 k2=> ?_) Tw [] _ s.toks (jR w) [] (by simpa using pw) kp1 (bE _ rfl) aDb (λp hp=>by cases hp) (λk=>by simp)<|aG _);refine AB<|AB ?_;have nd2:=S2.nd;obtain⟨es2,ep2,t2,e2,X2,h72,hl2,hp2⟩:=S2
  have l2:T2.length<=72:=by
   have:=nd2.length_le_of_subset (l₂:=Ta.map (·.2.1)) λk hk=>((k2 k).mp hk).1
   rw[aA,aA] at this;omega
  have fit2:=X2.fit<|h72.fit X2.om l2;have hs2:=X2.size;refine h h2 tk2 s.heap.objs.size o2 es2 ep2 t2 kp2 (aG _) g2 e2 fit2 (by omega) ?_;rw[hs2]
  constructor
  ·intro z k hk;refine Classical.byContradiction λnk=> ?_
   have:k∈T2.map (·.2.1):=(k2 k).mpr ⟨hk,nk⟩;rw[fG.mp z] at this;simp at this
  ·intro z;refine fG.mpr ?_;cases T2 with
   |nil=>rfl
   |cons q T2=>have:=(k2 q.2.1).mp (by simp);exact absurd (z _ this.1) this.2
theorem yL:entryFor table "set.__sub__"=some Builtin.«frozenset.__sub__»:=
 entryFor_alias (id':="frozenset.__sub__") (by kernel_rfl) rfl (by decide+kernel) (by kernel_rfl)
theorem aNr{a b:BJ}{oa ob:BM}{Ta Tb:List dB}{Q:BH->BI->Prop}(hu:A.units+4<AR)(hab:a≠b)(hoa:s.heap.get? a=some oa)(hob:s.heap.get? b=some ob)(SA:SetT prog w true oa Ta)(SB:SetT prog w true ob Tb)(RA:RowsIn prog w s.heap Ta)(RB:RowsIn prog w s.heap Tb)(la:Ta.length<=72)(lb:Tb.length<=72)(lb1:1<=Tb.length)
  (h:aKY prog w s Ta Tb Q):AG (AF prog w) A (Am .Sub (.ref a)<|.ref b) Q E s:=by
 have ca:oa.cls=.type "set":=by obtain⟨_,_,_,e,_⟩:=SA;rw[e]
 have cb:ob.cls=.type "set":=by obtain⟨_,_,_,e,_⟩:=SB;rw[e]
 have hTa:s.TypeIs (.ref a) "set":=⟨oa,hoa,ca⟩;have hTb:s.TypeIs (.ref b) "set":=⟨ob,hob,cb⟩;refine wpAny_binaryOp_same (op:= .Sub) (T:="set") hTa hTb PySem.F.fills_set_sub aCt ?_;refine AY aCt hTa yL ?_<|PySem.F.args_set_sub_2 _ _;show AG _ _ (Builtin.Frozenset.slot1 "__sub__" ⟨[.ref a,.ref b],[]⟩>>=_) _ _ _;refine AA ?_;unfold Builtin.Frozenset.slot1 slotArgs;simp only[aKe,dR,aF,if_false,cM,gW,bne_self_eq_false];refine AA (AB<|AB ?_);dsimp only;unfold andM;refine AA (AA<|rQ hoa ca ?_);show AG _ _ (Builtin.Frozenset.isAnySet<|.ref b) _ _ _;refine rQ hob cb ?_;simp only[dR,aF,if_false];refine AA<|AB ?_;refine AA<|aOb (by simp only[Around.in1];omega) hab hoa hob SA SB RA RB la lb lb1 ?_;intro h' tk r o' es' ep' t' kp le g e f l z;exact AB ⟨_,rfl,(λq=>by cases q),h h' tk r o' es' ep' t' kp le g e f l z⟩
noncomputable def aFH(k:List Key):D:=.tup<|k.map kD
theorem uX{p2 q2:Pos}(hu:X.A.units+10<AR)(hg2:Gl X "set")(hm2:X.mg "set"=none)(hi:∀k∈ks,∀z∈k,∃i,z=Sum.inl i)(h16:ks.length<=72)(hc:X.calm=true)(hst:AD [e] X.env=(false,eval e X.env)::AD [] X.env)
  (ha:PEd X sd e (.val (.lst<|ks.map aFH))) {σ:St}{F H:Hp} (S:StF X.K X.B₀ F H σ sd) {pins:List (BJ×BM)}{s:BI} (I:Inv X pins σ H s) {Q:BH->BI->Prop}
  (k:∀ (s2:BI) (H1 F1:Hp) (S1:BJ) (o1:BM) (T1:List dB),Inv X pins σ H1 s2->StF X.K X.B₀ F1 H1 σ sd->Same F F1->s2.heap.get? S1=some o1->SetT X.prog X.w true o1 T1->uF X pins H1 S1->(∀k,k∈T1.map (·.2.1)↔k∈ks)->(∀p∈T1.map (·.2),F1 p.2=some (.tup<|p.1.map kV))->Q (.ref S1) s2):
  AG (AF X.prog X.w) X.A (eval (.Call (.Name "set" p2) [e] [] q2) X.env) Q X.xe s:=by
 refine Ad<|qG I hg2 hm2 PyProof.Rows.boot_set ?_;refine PyProof.Rows.callWith_type1 (thn ((lZ (te:=wE X e) gI pa_nil hst) q2 pins s σ H (λus H1=>∃v F1,us=[v]/\StF X.K X.B₀ F1 H1 σ sd/\Same F F1/\ResOk X.K F1 H1 sd (.val (.lst<|ks.map aFH)) v) I<|(ha σ F H S).imp λv H1 ⟨F1,S1,s1,q1⟩=>⟨v,F1,rfl,S1,s1,q1⟩) λus s1 hus=> ?_) hst rfl;obtain⟨ws,H1,I1,rv,v,F1,rfl,S1,sF,q1⟩:=hus;obtain⟨u,rfl,ru⟩:=uM rv;simp only[ResOk,Rep] at q1;obtain⟨l,xs,rfl,hl,rl⟩:=q1;cases ru;obtain⟨its,rv2,ht0,hz⟩:=I1.list (.of<|S1.sub _ _ hl);have ht:s1.heap.IsList l its.toArray:=ht0.isList;have lx:xs.length=ks.length:=by rw[rl.len,aA]
 have ln:its.length=ks.length:=by rw[<-rv2.length,lx]
 have item:∀ (i:Nat) (v:BH),its[i]? =some v->∃a,v=.ref a/\i<ks.length/\F1 a=some (.tup<|(ks.getD i []).map kV):=λi v hv'=>by
  have hi:i<ks.length:=by rw[<-ln];exact(aZ.mp hv').1
  obtain⟨x,hx,rx⟩:=rl.get (i:=i) (d:=D.tup<|(ks[i]).map kD) (by rw[bL,dH hi];rfl);obtain⟨u,hu',ru⟩:=rv2.get hx;rw[hv'] at hu';cases hu';simp only[Rep] at rx;obtain⟨a,ys,rfl,fa,ry⟩:=rx;have ey:=qD ry;subst ey;cases ru;have e:ks.getD i []=ks[i]:=by simp[bF,hi]
  exact⟨a,rfl,hi,by rw[e];exact fa⟩
 refine aOh (by omega) ks (ip:=true) (λ_=>hi) (by simpa using ln.symm) (by simpa[ln] using h16) (λi v hv=> ?_) (I1.ok.hd hc) ht λh' tk o' T kp g sm kt rt=> ?_
 ·obtain⟨a,rfl,hi,fa⟩:=item i v (by simpa using hv);exact⟨a,rfl,mO I1.hok<|S1.sub _ _ fa⟩
 ·have fp:=I1.fpOk (aG s1.heap.objs.size) (I1.hok.fresh<|aG _);refine k _ H1 F1 s1.heap.objs.size o' T (I1.kept kp) S1 sF g sm fp kt λp hp=> ?_
  obtain⟨i,hi,ei⟩:=rt p hp;obtain⟨a,ea,_,fa⟩:=item i _ (by simpa using hi);cases ea;rw[<-ei];exact fa
theorem aGk{p p2 p3 p4 q2 q3 q4 q5:Pos}{j5}{ka kb:List (List Key)}(hu:X.A.units+12<AR)(hg:Gl X "len")(hm:X.mg "len"=none)(hg2:Gl X "set")(hm2:X.mg "set"=none)(ha:PEd X sd a (.val (.lst<|ka.map aFH)))(hb:PEd X sd b (.val (.lst<|kb.map aFH)))
  (ia:∀k∈ka,∀z∈k,∃i,z=Sum.inl i) (ib:∀k∈kb,∀z∈k,∃i,z=Sum.inl i) (la:ka.length<=72) (lb:kb.length<=72) (lb0:kb≠[]) {r:Bool} (hr:r=true↔∀k∈ka,k∈kb)
  (hc:X.calm=true:=by rfl) (hsa:AD [a] X.env=(false,eval a X.env)::AD [] X.env:=by rfl) (hsb:AD [b] X.env=(false,eval b X.env)::AD [] X.env:=by rfl)
  (hst2:AD [.BinOp (.Call (.Name "set" p2) [a] [] q2) .Sub (.Call (.Name "set" p3) [b] [] q3) p4] X.env=(false,eval (.BinOp (.Call (.Name "set" p2) [a] [] q2) .Sub (.Call (.Name "set" p3) [b] [] q3) p4) X.env)::AD [] X.env:=by rfl):
  PEd X sd (.Compare (.Call (.Name "len" p) [.BinOp (.Call (.Name "set" p2) [a] [] q2) .Sub (.Call (.Name "set" p3) [b] [] q3) p4] [] q4) [.Eq] [.Constant (.int 0) j5 q5] pos) (.val<|.bl r):=.mk λσ F H S=>by
 have left:wE X (.Call (.Name "len" p) [.BinOp (.Call (.Name "set" p2) [a] [] q2) .Sub (.Call (.Name "set" p3) [b] [] q3) p4] [] q4) σ H λv H'=>∃n:Nat,v=.int (n:Int)/\(n=0↔r=true)/\∃F',StF X.K X.B₀ F' H' σ sd/\Same F F':=λpins s I=>by
  refine Ad<|qG I hg hm PySem.boot_len ?_;refine PyProof.Rows.callWith_builtin1 ?_ hst2 rfl;rw[hst2];refine Calls.spliced_cons<|wpAny_BinOp ?_;refine uX (by omega) hg2 hm2 ia la hc hsa ha S I λs1 H1 F1 A1 o1 T1 I1 S1 sF1 g1 m1 fp1 k1 r1=> ?_
  obtain⟨f0,f1,f2,f3,f4,f5⟩:=fp1
  have nc:∀v,o1.data≠ .cell v:=λv z=>by obtain⟨_,_,_,e,_⟩:=m1;rw[e] at z;cases z
  have IP:Inv X (pins++[(A1,o1)]) σ H1 s1:=I1.pins_of λq hq=>by
   rcases aJ.mp hq with z|z
   ·exact I1.pin q<|aC _ z
   ·have:q=(A1,o1):=by simpa using z
    subst this;exact⟨g1,f0,f1,f2,nc⟩
  refine uX (by omega) hg2 hm2 ib lb hc hsb hb S1 IP λs2 H2 F2 A2 o2 T2 I2 S2 sF2 g2 m2 fp2 k2 r2=> ?_
  obtain⟨gp,_⟩:=I2.pin (A1,o1) (aC _<|aC _ aK);obtain⟨e0,e1,e2,e3,e4,e5⟩:=fp2;have hne:A1≠A2:=e5 (A1,o1) (aC _<|aC _ aK)
  have RA:RowsIn X.prog X.w s2.heap T1:=λq hq=>by refine⟨mO I2.hok<|S2.sub _ _ (sF2 _ _<|r1 q hq), ?_⟩;obtain⟨row,hr',rfl⟩:=aH.mp hq;exact ia _ ((k1 _).mp<|aY hr')
  have RB:RowsIn X.prog X.w s2.heap T2:=λq hq=>by refine⟨mO I2.hok (S2.sub _ _<|r2 q hq), ?_⟩;obtain⟨row,hr',rfl⟩:=aH.mp hq;exact ib _ ((k2 _).mp<|aY hr')
  have l2:1<=T2.length:=by
   cases kb with
   |nil=>exact absurd rfl lb0
   |cons z zs=>
    have:=(k2 z).mpr aK;cases T2 with
    |nil=>simp at this
    |cons _ _=>simp
  have I3:Inv X pins σ H2 s2:=I2.unpinned;refine aNr (by omega) hne gp g2 m1 m2 RA RB (sW m1.nd k1 la) (sW m2.nd k2 lb) l2 ?_;intro h' tk r' o' es' ep' t' kp le g e f l z;subst e;refine Calls.spliced_nil ?_;refine call_len_set (s:={s2 with heap:=h',toks:=tk}) g ⟨rfl,rfl,rfl⟩ rfl f (by omega) ?_;refine⟨.int (es'.size:Int),H2,I3.kept kp,⟨_,rfl⟩,es'.size,rfl, ?_,F2,S2,sF1.trans sF2⟩;rw[z,hr]
  constructor
  ·intro q k hk;exact(k2 k).mp (q k<|(k1 k).mpr hk)
  ·intro q k hk;exact(k2 k).mpr (q k<|(k1 k).mp hk)
 refine(aEi aFL gI pe_int<|kO _).to<|left.imp λv H1 ⟨n,e,hn,F1,S1,s1⟩=> ?_;subst e;refine⟨rfl,F1,S1,s1, ?_⟩;simp only[ResOk,Rep];congr 1;rw[eP,decide_eq_true_iff,<-hn]
 constructor
 ·intro z;have:(n:Int)=0:=V.int.inj z;omega
 ·intro z;rw[z];rfl
open PySem.W (KasT kas_sort kas_asc kas_desc kas_tail3 kas_descPart kas_count kas_place kas_bin kas_rev kas_ask kas_item kat_lt kat_cons kat_nil kat_yes kat_no kat_one kat_kind kat_run kat_snds KatTups)
inductive Bel{α:Type}(n:Nat)(P:α->Prop):KasT α->Prop
 |ret {a:α}:P a->Bel n P (.ret a)
 |ask {i j:Nat}{k:Bool->KasT α}:i<n->j<n->(∀b,Bel n P<|k b)->Bel n P (.ask i j k)
def aMl(h:BL)(v:BH)(x:Int×Int):Prop:=∃a o n t u,v=.ref a/\h.get? a=some o/\o.cls=.type "tuple"/\o.data=.seq #[.int x.1 t,.int x.2 u] n
inductive aAM(h:BL):List BH->List (Int×Int)->Prop
 |nil:aAM h [] []
 |cons {v:BH}{x:Int×Int}{vs:List BH}{ps:List (Int×Int)}:aMl h v x->aAM h vs ps->aAM h (v::vs) (x::ps)
open PySem.W (KasT kas_sort kas_asc kas_desc kas_tail3 kas_descPart kas_count kas_place kas_bin kas_rev)
structure Ord(n:Nat)(ans:Nat->Nat->Bool):Prop where
 tr:∀i j k,i<n->j<n->k<n->ans i j=true->ans j k=true->ans i k=true
 ir:∀i,i<n->ans i i=false
 tt:∀i j,i<n->j<n->i≠j->ans i j=true\/ans j i=true
noncomputable abbrev gN(p:Array Nat)(k:Nat):Nat:=p.getD k 0
open PySem.W (KasT kas_sort kas_asc kas_desc kas_tail3 kas_descPart kas_count kas_place kas_bin kas_rev kas_ask kas_item kat_lt kat_cons kat_nil kat_yes kat_no kat_one kat_kind kat_run kat_snds KatTups KatLex)
noncomputable def aHf(fin:Bool):List Int->List Int->Bool
 |a::as,b::bs=>if(a==b)=true then aHf fin as bs else decide (a<b)
 |_,_=>fin
noncomputable def ltI(x y:List Int):Bool:=aHf (decide<|x.length<y.length) x y
def TupAt1(h:BL)(v:BH)(x:List Int):Prop:=∃a o n,∃its:List BH,v=.ref a/\h.get? a=some o/\o.cls=.type "tuple"/\o.data=.seq its.toArray n/\IntsAre its x/\x≠[]
inductive TupsAt(h:BL):List BH->List (List Int)->Prop
 |nil:TupsAt h [] []
 |cons {v:BH}{x:List Int}{vs:List BH}{ps:List (List Int)}:TupAt1 h v x->TupsAt h vs ps->TupsAt h (v::vs) (x::ps)
theorem TupsAt.tups{h:BL}{vs:List BH}{ps:List (List Int)}(p:TupsAt h vs ps):∃fs:List BH,KatTups h vs fs/\fs.length=ps.length/\∀v∈fs,∃i t,v=.int i t:=by
 induction p with
 |nil=>exact⟨[],.nil,rfl,λv hv=>by cases hv⟩
 |cons a _ ih=>
  obtain⟨a,o,n,its,rfl,g,c,d,hi,hne⟩:=a;obtain⟨fs,k,l,i⟩:=ih;cases hi with
  |nil=>exact absurd rfl hne
  |cons z t hi=>
   refine⟨.int z t::fs,.cons g c d (by simp) k,by rw[cM,cM,l],λv hv=> ?_⟩
   rcases aV.mp hv with rfl|hv
   ·exact⟨_,_,rfl⟩
   ·exact i v hv
theorem aOr{fin:Bool}{Q:Bool->BI->Prop}:∀ {x y:List Int}{vs us:List BH} (i:Nat),IntsAre vs x->IntsAre us y->Q (aHf fin x y) s->KatLex prog w A true fin Q (vs.zip us) (i+1) s
 |[],y,_,us,i,.nil,_,h=>by
  have e:aHf fin [] y=fin:=by cases y<;>rfl
  rw[e] at h;rw[List.zip_nil_left];exact kat_nil h
 |a::as,[],_::_,_,i,.cons _ _ _,.nil,h=>by rw[List.zip_nil_right];exact kat_nil h
 |a::as,b::bs,_::_,_::_,i,.cons _ t h1,.cons _ u h2,h=>by
  rw[iH];refine kat_cons<|wpAny_eqBool_int ?_
  by_cases e:(a==b)=true
  ·rw[e];refine kat_yes<|aOr (i+1) h1 h2 ?_;unfold aHf at h;rw[if_pos e] at h;exact h
  ·rw[oD.mpr e];unfold aHf at h;rw[if_neg e] at h;refine kat_no ?_;have e0:(true&&(i+1==0))=false:=by simp
   rw[e0];exact kat_one _ _<|PyProof.Rows.lt_int h
theorem askI{v1 v2:BH}{x y:List Int}{Q:Bool->BI->Prop}(h1:TupAt1 s.heap v1 x)(h2:TupAt1 s.heap v2 y)(h:Q (ltI x y) s):AG (AF prog w) A (keyLt' (tuples' true) v1 v2) Q E s:=by
 obtain⟨a,o,n,its,rfl,g,c,d,i1,e1⟩:=h1;obtain⟨a2,o2,n2,its2,rfl,g2,c2,d2,i2,e2⟩:=h2;have l1:its.length=x.length:=i1.length;have l2:its2.length=y.length:=i2.length;refine kat_lt g d g2 d2 ?_;unfold ltI at h;rw[aQ,aQ,l1,l2];show KatLex prog w A true _ Q (its.zip its2) 0 s;cases i1 with
 |nil=>exact absurd rfl e1
 |cons p t i1=>
  cases i2 with
  |nil=>exact absurd rfl e2
  |cons q u i2=>
   rw[iH];refine kat_cons<|wpAny_eqBool_int ?_
   by_cases e:(p==q)=true
   ·rw[e];refine kat_yes<|aOr 0 i1 i2 ?_;unfold aHf at h;rw[if_pos e] at h;exact h
   ·rw[oD.mpr e];unfold aHf at h;rw[if_neg e] at h;exact kat_no<|oneLt_int h
theorem aNt{vs:List BH}{ps:List (List Int)}{Q:Aq->BI->Prop}(p:TupsAt s.heap vs ps)(h0:0<ps.length)(h:Q (tuples' true) s):AG (AF prog w) A (keyKind' vs.toArray) Q E s:=by obtain⟨fs,k,l,i⟩:=p.tups;refine kat_kind (T:=.type "int") k (by omega) (λv hv=> ?_) rfl h;obtain⟨n,t,rfl⟩:=i v hv;exact .now
open PySem.W (KasT kas_sort)
def CanC(p:Int×Int)(c:List (List Int)):Prop:=((bC p).filter λf=>decide<|f∈c)=c
variable {τ:List Nat}{c d:List (List Int)}{W:List (Option (List (List Int)))}{T:List (List Int)}
structure WCan(p:Int×Int)(W:List (Option (List<|List Int))):Prop where
 len:W.length=(bC p).length
 ok:∀o∈W,∀c,o=some c->c≠[]/\CanC p c
noncomputable def lcQ(p:Int×Int):Option (List<|List Int)->Option (List<|List Int)->Bool
 |none,_=>true
 |some c,none=>decide<|c.length=(bC p).length
 |some c,some d=>decide (∀k∈d,k∈c)
noncomputable def loQ(p:Int×Int)(A B:List (Option (List<|List Int))):Bool:=((bK (bC p).length).map λj=>lcQ p (A.getD j none)<|B.getD j none).all id
theorem lo_iff{A B:List (Option (List<|List Int))}:loQ p A B=true↔∀j,j<(bC p).length->lcQ p (A.getD j none) (B.getD j none)=true:=by unfold loQ;rw[aCX,bN];exact⟨λh j hj=>h j<|bB.mpr hj,λh j hj=>h j<|bB.mp hj⟩
noncomputable def aIu:D->Option (List<|List Int)
 |.lst es=>some<|es.map kK
 |_=>none
theorem vF(o:Option (List<|List Int)):aIu (wsD o)=o:=by
 cases o with
 |none=>rfl
 |some c=>show some ((c.map aT).map kK)=some c;rw[aX];refine congrArg some ?_;refine Eq.trans (cI λf _=> ?_)<|oA c;exact jL f
noncomputable def rkA(r:AH->Nat)(xs:Array AH)(i:Nat):Nat:=match xs[i]? with
 |some p=>r p
 |none=>0
def AscR(r:AH->Nat)(xs:Array AH)(l h:Nat):Prop:=∀i j,l<=i->i<j->j<h->rkA r xs i<rkA r xs j
theorem iF{r:AH->Nat}{xs ys:Array AH}{i j:Nat}(h:xs[i]? =ys[j]?):rkA r xs i=rkA r ys j:=by unfold rkA;rw[h]
theorem eE{r:AH->Nat}{xs:Array AH}{i:Nat}(h:i<xs.size):rkA r xs i=r xs[i]:=by unfold rkA;rw[getElem?_pos xs i h]
structure lW(prog:AI)(w:AL)(A:BK)(E:BH->BI->Prop)(s:BI)(κ:Aq)(r:AH->Nat)(a₀:Array AH):Prop where
 ask:∀ {x y:AH}{st:BP}{Q:Option Bool->BP->Prop},x∈a₀.toList->y∈a₀.toList->kindOf st=κ->Q (some (decide<|r x<r y)) st->wpS (AF prog w) A E s (lt' x y) Q st
 nd:(a₀.toList.map r).Nodup
structure SB(κ:Aq)(a₀:Array AH)(st:BP):Prop where
 perm:(AK st).Perm a₀
 kind:kindOf st=κ
 failed:failedOf st=none
structure Stp(κ:Aq)(a₀:Array AH)(lo hi:Nat)(st st':BP):Prop where
 sb:SB κ a₀ st'
 pend:AC st'=AC st
 keep:∀k,k<lo\/hi<=k->(AK st')[k]? =(AK st)[k]?
variable {κ:Aq}{r:AH->Nat}{a₀:Array AH}{st st':BP}
theorem SB.size(h:SB κ a₀ st):(AK st).size=a₀.size:=h.perm.size_eq
theorem SB.mem(h:SB κ a₀ st){i:Nat}(hi:i<(AK st).size):(AK st)[i]∈a₀.toList:=(gJ.mp h.perm).mem_iff.mp<|by simp
theorem aNK{xs:Array AH}(nd:(xs.toList.map r).Nodup){i j:Nat}(hi:i<xs.size)(hj:j<xs.size)(hij:i≠j):rkA r xs i≠rkA r xs j:=λe=>by
 rw[eE hi,eE hj] at e;have e2:(xs.toList.map r)[i]'(by simpa using hi)=(xs.toList.map r)[j]'(by simpa using hj):=by simpa using e
 exact hij<|(lH nd).mp e2
theorem SB.nd(h:SB κ a₀ st)(K:lW prog w A E s κ r a₀):((AK st).toList.map r).Nodup:=(((gJ.mp h.perm).map r).nodup_iff).mpr K.nd
theorem SB.ne(h:SB κ a₀ st)(K:lW prog w A E s κ r a₀){i j:Nat}(hi:i<a₀.size)(hj:j<a₀.size)(hij:i≠j):rkA r (AK st) i≠rkA r (AK st) j:=
 aNK (h.nd K) (by rw[h.size];exact hi) (by rw[h.size];exact hj) hij
theorem Stp.refl(h:SB κ a₀ st)(lo hi:Nat):Stp κ a₀ lo hi st st:=⟨h,rfl,λ_ _=>rfl⟩
theorem Stp.trans{lo hi:Nat}{st'':BP}(h:Stp κ a₀ lo hi st st')(h2:Stp κ a₀ lo hi st' st''):Stp κ a₀ lo hi st st'':=⟨h2.sb,h2.pend.trans h.pend,λk hk=>(h2.keep k hk).trans<|h.keep k hk⟩
theorem SB.setArr(h:SB κ a₀ st){xs:Array AH}(hp:xs.Perm (AK st)):SB κ a₀ (setArr st xs):=⟨hp.trans h.perm,h.kind,h.failed⟩
theorem eG{xs:Array AH}{i:Nat}{Q:AH->BP->Prop}(hi:i<xs.size)(h:Q xs[i] st):wpS (AF prog w) A E s (elem' xs i) Q st:=by rw[elem'_eq,getElem?_pos xs i hi];exact AJ h
theorem tG{i j:Nat}{Q:Option Bool->BP->Prop}(K:lW prog w A E s κ r a₀)(hB:SB κ a₀ st)(hi:i<a₀.size)(hj:j<a₀.size)
  (h:Q (some (decide<|rkA r (AK st) i<rkA r (AK st) j)) st):wpS (AF prog w) A E s (ltAt' i j) Q st:=by
 have hi':i<(AK st).size:=by rw[hB.size];exact hi
 have hj':j<(AK st).size:=by rw[hB.size];exact hj
 rw[ltAt'_eq];refine AE<|wpS_get ?_;show wpS _ _ _ _ (do let x <-elem' (AK st) i;let y <-elem' (AK st) j;lt' x y) Q st;refine AE (eG hi'<|AE (eG hj'<|K.ask (hB.mem hi') (hB.mem hj') hB.kind ?_));rw[eE hi',eE hj'] at h;exact h
theorem zU{xs:Array AH}{i j:Nat}(hj:j<=xs.size)(k:Nat):
  rkA r (mirror xs i j<|(j-i) / 2) k=if i<=k/\k<j then rkA r xs (i+j-1-k) else rkA r xs k:=by
 have e:=getElem?_mirror_all (i:=i) hj k
 by_cases h1:i<=k/\k<j
 ·rw[if_pos h1] at e ⊢;exact iF e
 ·rw[if_neg h1] at e ⊢;exact iF e
theorem aAa{xs:Array AH}{src d:Nat}(hs:src<xs.size)(hd:d<=src)(k:Nat):
  rkA r (bubble xs src d) k=if k=src-d then rkA r xs src else if src-d<k/\k<=src then rkA r xs (k-1) else rkA r xs k:=by
 have e:=getElem?_bubble hs d hd k
 by_cases h1:k=src-d
 ·rw[if_pos h1] at e ⊢;exact iF e
 ·rw[if_neg h1] at e ⊢
  by_cases h2:src-d<k/\k<=src
  ·rw[if_pos h2] at e ⊢;exact iF e
  ·rw[if_neg h2] at e ⊢;exact iF e
theorem AscR.snoc{xs:Array AH}{l h:Nat}(a:AscR r xs l h)(lt:l<h)(q:rkA r xs (h-1)<rkA r xs h):AscR r xs l (h+1):=λi j hi hij hj=>by
 by_cases e:j=h
 ·subst e
  by_cases e2:i=j-1
  ·rw[e2];exact q
  ·exact qJ (a i (j-1) hi (by omega)<|by omega) q
 ·exact a i j hi hij<|by omega
theorem aDH{lo a nrem:Nat}{Q:Option (Option Nat)×Nat->BP->Prop}(K:lW prog w A E s κ r a₀)(hB:SB κ a₀ st)(ha:1<=a)(han:a<=nrem)(hn:lo+nrem<=a₀.size)(hs:AscR r (AK st) lo (lo+a))
  (h:∀m,a<=m->m<=nrem->AscR r (AK st) lo (lo+m)->(m<nrem->rkA r (AK st) (lo+m)<rkA r (AK st) (lo+m-1))->Q (none,m) st):
  wpS (AF prog w) A E s (forIn [a:nrem] ((none,a):Option (Option Nat) × Nat) fun _ __s=>do
   let __x <-ltAt' (lo+__s.snd) (lo+__s.snd-1)
   match __x with
   |some smaller=>if smaller=true then pure (ForInStep.done (none,__s.snd)) else pure (ForInStep.yield (none,__s.snd+1))
   |_=>pure (ForInStep.done (some none,__s.snd))) Q st:=by
 refine AT (I:=λx c st'=>st'=st/\c=(none,x)/\AscR r (AK st) lo (lo+x)) ?_ ?_ ⟨rfl,rfl,hs⟩
 ·rintro x c st' hx hxn ⟨rfl,rfl,hs'⟩;dsimp only;refine AE (tG K hB (by omega) (by omega) ?_)
  by_cases q:rkA r (AK st') (lo+x)<rkA r (AK st') (lo+x-1)
  ·simp only[q,decide_true,if_true];exact AJ<|h x hx (by omega) hs' λ_=>q
  ·simp only[q,decide_false,aF,if_false];refine AJ ⟨rfl,rfl, ?_⟩;have ne:=hB.ne K (i:=lo+x) (j:=lo+x-1) (by omega) (by omega) (by omega);exact hs'.snoc (by omega)<|by omega
 ·rintro c st' ⟨rfl,rfl,hs'⟩;rw[show max a nrem=nrem by omega] at hs' ⊢;exact h nrem han (aG _) hs' λz=>absurd z<|cQ _
def DscR(r:AH->Nat)(xs:Array AH)(l h:Nat):Prop:=∀i j,l<=i->i<j->j<h->rkA r xs j<rkA r xs i
theorem DscR.snoc{xs:Array AH}{l h:Nat}(a:DscR r xs l h)(lt:l<h)(q:rkA r xs h<rkA r xs (h-1)):DscR r xs l (h+1):=λi j hi hij hj=>by
 by_cases e:j=h
 ·subst e
  by_cases e2:i=j-1
  ·rw[e2];exact q
  ·exact qJ q (a i (j-1) hi (by omega)<|by omega)
 ·exact a i j hi hij<|by omega
theorem aCE{lo nrem:Nat}{Q:Option Nat->BP->Prop}(K:lW prog w A E s κ r a₀)(hB:SB κ a₀ st)(h1:1<=nrem)(hn:lo+nrem<=a₀.size)
  (h:∀m st',1<=m->m<=nrem->Stp κ a₀ lo (lo+nrem) st st'->AscR r (AK st') lo (lo+m)->Q (some m) st'):wpS (AF prog w) A E s (countRun' lo nrem) Q st:=by
 rw[countRun'_eq];refine AE<|aDH K hB (aG 1) h1 hn (λi j h1 h2 h3=>by omega) λm hm1 hm2 hs hq=> ?_;dsimp only
 by_cases e:m=nrem
 ·rw[if_pos<|by simpa using e];exact AJ<|h m st hm1 hm2 (.refl hB _ _) hs
 ·rw[if_neg<|by simpa using e]
  by_cases m1:m>1
  ·rw[if_pos m1];refine AE<|tG K hB (by omega) (by omega) ?_;rw[decide_eq_true (hs lo (lo+m-1) (aG _) (by omega)<|by omega)];dsimp only;rw[if_pos rfl];exact AJ<|h m st hm1 hm2 (.refl hB _ _) hs
  ·rw[if_neg m1];have em:m=1:=by omega
   subst em;have hq:=hq (by omega);refine AE (wpS_lift<|Az ⟨rfl, ?_⟩);refine AE<|AZ (AT (I:=λx c st'=>st'=st/\c=(none,x,0)/\DscR r (AK st) lo (lo+x)) (Q:=λc st'=>st'=st/\∃m,c=(none,m,0)/\2<=m/\m<=nrem/\DscR r (AK st) lo (lo+m)) ?step ?fin ⟨rfl,rfl, ?init⟩) ?post
   case init=>
    intro i j h1 h2 h3;have e1:i=lo:=by omega
    have e2:j=lo+1:=by omega
    subst e1 e2;exact hq
   case step=>
    rintro x c st' hx hxn ⟨rfl,rfl,hs'⟩;dsimp only;refine AE<|tG K hB (by omega) (by omega) ?_
    by_cases q:rkA r (AK st') (lo+x)<rkA r (AK st') (lo+x-1)
    ·simp only[q,decide_true,if_true];rw[if_neg<|by omega];exact AJ ⟨rfl,rfl,hs'.snoc (by omega) q⟩
    ·simp only[q,decide_false,aF,if_false];refine AE<|tG K hB (by omega) (by omega) ?_;have ne:=hB.ne K (i:=lo+x) (j:=lo+x-1) (by omega) (by omega) (by omega);rw[decide_eq_true (show rkA r (AK st') (lo+x-1)<rkA r (AK st') (lo+x) by omega)];dsimp only;rw[if_pos rfl];exact AJ ⟨rfl,x,rfl,hx,by omega,hs'⟩
   case fin=>rintro c st' ⟨rfl,rfl,hs'⟩;rw[show max (1+1) nrem=nrem by omega] at hs' ⊢;exact⟨rfl,nrem,rfl,by omega,aG _,hs'⟩
   case post=>
    rintro c st' ⟨rfl,m,rfl,m2,mn,hd⟩;dsimp only;rw[if_neg<|by omega,reverseSlice'_eq];refine AE<|BA ?_;have hz:lo+m<=(AK st').size:=by rw[hB.size];omega
    have S:Stp κ a₀ lo (lo+nrem) st' (setArr st' (mirror (AK st') lo (lo+m)<|(lo+m-lo) / 2)):=by refine⟨hB.setArr<|mirror_perm _ _ _ _,rfl,λk hk=> ?_⟩;show(mirror (AK st') lo (lo+m)<|(lo+m-lo) / 2)[k]? =_;rw[getElem?_mirror_all hz,if_neg<|by omega]
    refine AE<|aDH K S.sb (by omega) mn hn (λi j h1 h2 h3=> ?_) λm' a1 a2 a3 _=> ?_
    ·show rkA r (mirror (AK st') lo (lo+m)<|(lo+m-lo) / 2) i<rkA r (mirror (AK st') lo (lo+m)<|(lo+m-lo) / 2) j;rw[zU hz,zU hz,if_pos<|by omega,if_pos<|by omega];exact hd _ _ (by omega) (by omega)<|by omega
    ·exact AJ<|h m' _ (by omega) a2 S a3
theorem aGW{lo n ok:Nat}{Q:Bool->BP->Prop}(K:lW prog w A E s κ r a₀)(hB:SB κ a₀ st)(hn:lo+n<=a₀.size)(hok:ok<=n)(hs:AscR r (AK st) lo (lo+ok))
  (h:∀st',Stp κ a₀ lo (lo+n) st st'->AscR r (AK st') lo (lo+n)->Q true st'):wpS (AF prog w) A E s (binarySort' lo n ok) Q st:=by
 rw[binarySort'_eq]
 refine AE (AZ (AT (I:=fun k c st'=>c=(none,())∧Stp κ a₀ lo (lo+n) st st'∧AscR r (AK st') lo (lo+min k n))
  (Q:=λc st'=>c=(none,())/\Stp κ a₀ lo (lo+n) st st'/\AscR r (AK st') lo (lo+n)) ?step ?fin ?init) ?post)
 case post=>rintro c st' ⟨rfl,S,hs'⟩;exact AJ<|h st' S hs'
 case init=>refine⟨rfl,.refl hB _ _,λi j hi hij hj=> ?_⟩;exact hs i j hi hij<|by omega
 case fin=>
  rintro c st' ⟨hc,S,hs'⟩;refine⟨hc,S, ?_⟩
  rwa[show min (max (max ok 1) n) n=n by omega] at hs'
 case step=>
  rintro k c st' hak hkn ⟨rfl,S,hs'⟩;rw[show min k n=k by omega] at hs';have hB':=S.sb;have hk:lo+k<a₀.size:=by omega
  refine AE (AZ (AT (I:=fun x c st''=>st''=st'∧∃l r',c=(none,l,r')∧l≤r'∧r'≤k∧r' - l≤k - x∧
    (∀i,i<l->rkA r (AK st') (lo+i)<rkA r (AK st') (lo+k))/\(∀i,r'<=i->i<k->rkA r (AK st') (lo+k)<rkA r (AK st') (lo+i)))
   (Q:=fun c st''=>st''=st'∧∃l r',c=(none,l,r')∧l≤k∧
    (∀i,i<l->rkA r (AK st') (lo+i)<rkA r (AK st') (lo+k))/\(∀i,l<=i->i<k->rkA r (AK st') (lo+k)<rkA r (AK st') (lo+i))) ?istep ?ifin ?iinit) ?ipost)
  case iinit=>exact⟨rfl,0,k,rfl,by omega,by omega,by omega,λi hi=>by omega,λi h1 h2=>by omega⟩
  case ifin=>
   rintro c st'' ⟨rfl,l,r',rfl,hlr,hrk,hm,hlo,hhi⟩;have:l=r':=by omega
   subst this;exact⟨rfl,l,l,rfl,hrk,hlo,hhi⟩
  case istep=>
   rintro x c st'' _ hxk ⟨rfl,l,r',rfl,hlr,hrk,hm,hlo,hhi⟩;dsimp only
   by_cases hge:l>=r'
   ·rw[if_pos hge];have:l=r':=by omega
    subst this;exact AJ ⟨rfl,l,l,rfl,hrk,hlo,hhi⟩
   ·rw[if_neg hge];refine AE (tG K hB' hk (by omega) ?_)
    by_cases hless:rkA r (AK st'') (lo+k)<rkA r (AK st'') (lo+(l+r') / 2)
    ·simp only[hless,decide_true,if_true];refine AJ ⟨rfl,l,(l+r') / 2,rfl,by omega,by omega,by omega,hlo,λi h1 h2=> ?_⟩
     by_cases e:i=(l+r') / 2
     ·rw[e];exact hless
     ·exact qJ hless (hs' _ _ (by omega) (by omega)<|by omega)
    ·simp only[hless,decide_false,aF,if_false];have ne:=hB'.ne K (i:=lo+k) (j:=lo+(l+r') / 2) hk (by omega) (by omega);have hl:rkA r (AK st'') (lo+(l+r') / 2)<rkA r (AK st'') (lo+k):=by omega
     refine AJ ⟨rfl,(l+r') / 2+1,r',rfl,by omega,by omega,by omega,λi h1=> ?_,hhi⟩
     by_cases e:i=(l+r') / 2
     ·rw[e];exact hl
     ·exact qJ (hs' _ _ (by omega) (by omega)<|by omega) hl
  case ipost=>
   rintro c st'' ⟨rfl,l,r',rfl,hlk,hlo,hhi⟩;show wpS _ _ _ _ (do moveDown' (lo+k) (lo+l);pure (ForInStep.yield (none,()))) _ _;rw[moveDown'_eq];have hks:lo+k<(AK st'').size:=by rw[hB'.size];exact hk
   have ed:lo+k-(lo+l)=k-l:=by omega
   rw[ed];refine AE (BA<|AJ ⟨rfl,S.trans ⟨hB'.setArr<|bubble_perm _ _ _,rfl,λi hi=> ?_⟩, ?_⟩)
   ·show(bubble (AK st'') (lo+k)<|k-l)[i]? =_;rw[getElem?_bubble hks _<|by omega,if_neg<|by omega,if_neg<|by omega]
   rw[show min (k+1) n=k+1 by omega];intro i j hi hij hj;show rkA r (bubble (AK st'') (lo+k)<|k-l) i<rkA r (bubble (AK st'') (lo+k)<|k-l) j;rw[aAa hks<|by omega,aAa hks<|by omega,show lo+k-(k-l)=lo+l by omega]
   have hlo':∀i,lo<=i->i<lo+l->rkA r (AK st'') i<rkA r (AK st'') (lo+k):=λi a b=>by
    have:=hlo (i-lo)<|by omega
    rwa[show lo+(i-lo)=i by omega] at this
   have hhi':∀i,lo+l<=i->i<lo+k->rkA r (AK st'') (lo+k)<rkA r (AK st'') i:=λi a b=>by
    have:=hhi (i-lo) (by omega)<|by omega
    rwa[show lo+(i-lo)=i by omega] at this
   repeat' split
   all_goals first
    |(exfalso;omega)
    |exact hlo' _ (by omega) (by omega)
    |exact hhi' _ (by omega) (by omega)
    |exact hs' _ _ (by omega) (by omega) (by omega)
noncomputable def nE:Bool->AH->Array AH->Nat->Nat->Nat->StateT BP Sem (Option Nat):=sortPriv%PySem.Builtin.gallop
noncomputable def bey(left:Bool)(key:AH)(arr:Array AH)(base i:Nat):StateT BP Sem (Option Bool):=do
  let x <-elem' arr (base+i)
  if left then lt' x key else return (<-lt' key x).map (!·)
theorem aCL(left:Bool)(key:AH)(arr:Array AH)(base n hint:Nat):nE left key arr base n hint=(do
 let mut lastofs:=0
 let mut ofs:=1
 let mut lo:=0
 let mut hi:=0
 let some right <-bey left key arr base hint|return none
 if right then
  let maxofs:=n-hint
  for _ in[0:n] do
   if ofs>=maxofs then break
   let some more <-bey left key arr base (hint+ofs)|return none
   if !more then break
   lastofs:=ofs
   ofs:=2*ofs+1
  lo:=hint+lastofs+1
  hi:=hint+min ofs maxofs
 else
  let maxofs:=hint+1
  for _ in[0:n] do
   if ofs>=maxofs then break
   let some found <-bey left key arr base (hint-ofs)|return none
   if found then break
   lastofs:=ofs
   ofs:=2*ofs+1
  lo:=hint+1-min ofs maxofs
  hi:=hint-lastofs
 for _ in[0:n] do
  if lo>=hi then break
  let m:=lo+(hi-lo) / 2
  let some more <-bey left key arr base m|return none
  if more then lo:=m+1 else hi:=m
 return some hi):=rfl
theorem sU{left:Bool}{key:AH}{xs:Array AH}{base i:Nat}{Q:Option Bool->BP->Prop}(K:lW prog w A E s κ r a₀)(hk:kindOf st=κ)(mx:∀x∈xs.toList,x∈a₀.toList)(mk:key∈a₀.toList)(hi:base+i<xs.size)(ne:rkA r xs (base+i)≠r key)
  (h:Q (some (decide<|rkA r xs (base+i)<r key)) st):wpS (AF prog w) A E s (bey left key xs base i) Q st:=by
 unfold bey;refine AE<|eG hi ?_;have m1:xs[base+i]∈a₀.toList:=mx _ (by simp);rw[eE hi] at h ne;cases left with
 |true=>exact K.ask m1 mk hk h
 |false=>
  refine AE (K.ask mk m1 hk<|AJ ?_)
  have e:(!decide (r key<r xs[base+i]))=decide (r xs[base+i]<r key):=by
   by_cases q:r xs[base+i]<r key
   ·rw[decide_eq_true q,decide_eq_false<|by omega];rfl
   ·rw[decide_eq_false q,decide_eq_true<|by omega];rfl
  show Q (some<|!decide (r key<r xs[base+i])) st;rw[e];exact h
theorem AscR.le{xs:Array AH}{base n:Nat}(a:AscR r xs base (base+n)){i j:Nat}(hij:i<=j)(hj:j<n):rkA r xs (base+i)<=rkA r xs (base+j):=by
 by_cases e:i=j
 ·rw[e];exact aG _
 ·exact cZ (a _ _ (by omega) (by omega)<|by omega)
theorem qP{left:Bool}{key:AH}{xs:Array AH}{base n hint:Nat}{Q:Option Nat->BP->Prop}(K:lW prog w A E s κ r a₀)(hk:kindOf st=κ)(mx:∀x∈xs.toList,x∈a₀.toList)(mk:key∈a₀.toList)(hx:base+n<=xs.size)(hh:hint<n)
  (asc:AscR r xs base (base+n)) (ne:∀i,i<n->rkA r xs (base+i)≠r key)
  (h:∀k,k<=n->(∀i,i<k->rkA r xs (base+i)<r key)->(∀i,k<=i->i<n->r key<rkA r xs (base+i))->Q (some k) st):wpS (AF prog w) A E s (nE left key xs base n hint) Q st:=by
 rw[aCL];refine AE<|sU K hk mx mk (by omega) (ne _ hh) ?_
 by_cases q:rkA r xs (base+hint)<r key
 ·simp only[q,decide_true,if_true]
  refine AE (AZ (AT (I:=fun x c st'=>st'=st∧∃last ofs,c=(none,last,ofs)∧last<ofs∧x+1≤ofs∧hint+last<n∧rkA r xs (base+(hint+last))<r key)
   (Q:=λc st'=>st'=st/\∃last ofs,c=(none,last,ofs)/\last<ofs/\hint+last<n/\rkA r xs (base+(hint+last))<r key/\(n-hint<=ofs\/(hint+ofs<n/\r key<rkA r xs (base+(hint+ofs))))) ?step ?fin ⟨rfl,0,1,rfl,by omega,by omega,hh,q⟩) ?post)
  case fin=>rintro c st' ⟨rfl,last,ofs,rfl,a,b,c,d⟩;exact⟨rfl,last,ofs,rfl,a,c,d,.inl<|by omega⟩
  case step=>
   rintro x c st' _ hxn ⟨rfl,last,ofs,rfl,a,b,c,d⟩;dsimp only
   by_cases z:ofs>=n-hint
   ·rw[if_pos z];exact AJ ⟨rfl,last,ofs,rfl,a,c,d,.inl z⟩
   ·rw[if_neg z];refine AE (sU K hk mx mk (by omega) (ne _<|by omega) ?_)
    by_cases y:rkA r xs (base+(hint+ofs))<r key
    ·simp only[y,decide_true,dR,aF,if_false];exact AJ ⟨rfl,ofs,2*ofs+1,rfl,by omega,by omega,by omega,y⟩
    ·simp only[y,decide_false,jA,if_true];have y':=ne (hint+ofs) (by omega);exact AJ ⟨rfl,last,ofs,rfl,a,c,d,.inr ⟨by omega,by omega⟩⟩
  case post=>
   rintro c st' ⟨rfl,last,ofs,rfl,a,b,c,d⟩;dsimp only;have l1:hint+last+1<=hint+min ofs (n-hint):=by omega
   have l2:hint+min ofs (n-hint)<=n:=by omega
   have hl:∀i,i<hint+last+1->rkA r xs (base+i)<r key:=λi hi=>cB (asc.le (by omega) b) c
   have hg:∀i,hint+min ofs (n-hint)<=i->i<n->r key<rkA r xs (base+i):=λi h1 h2=>by
    rcases d with d|⟨d1,d2⟩
    ·omega
    ·exact aW d2<|asc.le (by omega) h2
   refine AE (AZ (AT (I:=fun x c st''=>st''=st'∧∃lo hi,c=(none,lo,hi)∧lo≤hi∧hi≤n∧hi - lo≤n - x∧(∀i,i<lo→rkA r xs (base+i)<r key)∧(∀i,hi≤i→i<n→r key<rkA r xs (base+i)))
    (Q:=λc st''=>st''=st'/\∃k,c=(none,k,k)/\k<=n/\(∀i,i<k->rkA r xs (base+i)<r key)/\(∀i,k<=i->i<n->r key<rkA r xs (base+i))) ?step ?fin ⟨rfl,_,_,rfl,l1,l2,by omega,hl,hg⟩) ?post)
   case post=>rintro c st'' ⟨rfl,k,rfl,a,b,c⟩;exact AJ<|h k a b c
   case fin=>
    rintro c st'' ⟨rfl,lo,hi,rfl,a,b,c,d,e⟩;have:lo=hi:=by omega
    subst this;exact⟨rfl,lo,rfl,b,d,e⟩
   case step=>
    rintro x c st'' _ hxn ⟨rfl,lo,hi,rfl,a,b,c,d,e⟩;dsimp only
    by_cases q:lo>=hi
    ·rw[if_pos q];have:lo=hi:=by omega
     subst this;exact AJ ⟨rfl,lo,rfl,b,d,e⟩
    ·rw[if_neg q];refine AE (sU K hk mx mk (by omega) (ne _<|by omega) ?_)
     by_cases z:rkA r xs (base+(lo+(hi-lo) / 2))<r key
     ·simp only[z,decide_true,if_true];refine AJ ⟨rfl,lo+(hi-lo) / 2+1,hi,rfl,by omega,b,by omega,λi hi'=> ?_,e⟩;exact cB (asc.le (by omega)<|by omega) z
     ·simp only[z,decide_false,aF,if_false];have z':=ne (lo+(hi-lo) / 2) (by omega);refine AJ ⟨rfl,lo,lo+(hi-lo) / 2,rfl,by omega,by omega,by omega,d,λi h1 h2=> ?_⟩;exact aW (by omega)<|asc.le h1 h2
 ·simp only[q,decide_false,aF,if_false];have q':=ne hint hh
  refine AE (AZ (AT (I:=fun x c st'=>st'=st∧∃last ofs,c=(none,last,ofs)∧last<ofs∧x+1≤ofs∧last≤hint∧r key<rkA r xs (base+(hint - last)))
   (Q:=λc st'=>st'=st/\∃last ofs,c=(none,last,ofs)/\last<ofs/\last<=hint/\r key<rkA r xs (base+(hint-last))/\(hint+1<=ofs\/(ofs<=hint/\rkA r xs (base+(hint-ofs))<r key))) ?step ?fin ⟨rfl,0,1,rfl,by omega,by omega,by omega,by rw[Nat.sub_zero];omega⟩) ?post)
  case fin=>rintro c st' ⟨rfl,last,ofs,rfl,a,b,c,d⟩;exact⟨rfl,last,ofs,rfl,a,c,d,.inl<|by omega⟩
  case step=>
   rintro x c st' _ hxn ⟨rfl,last,ofs,rfl,a,b,c,d⟩;dsimp only
   by_cases z:ofs>=hint+1
   ·rw[if_pos z];exact AJ ⟨rfl,last,ofs,rfl,a,c,d,.inl z⟩
   ·rw[if_neg z];refine AE (sU K hk mx mk (by omega) (ne _<|by omega) ?_)
    by_cases y:rkA r xs (base+(hint-ofs))<r key
    ·simp only[y,decide_true,if_true];exact AJ ⟨rfl,last,ofs,rfl,a,c,d,.inr ⟨by omega,y⟩⟩
    ·simp only[y,decide_false,aF,if_false];have y':=ne (hint-ofs) (by omega);exact AJ ⟨rfl,ofs,2*ofs+1,rfl,by omega,by omega,by omega,by omega⟩
  case post=>
   rintro c st' ⟨rfl,last,ofs,rfl,a,b,c,d⟩;dsimp only;have l1:hint+1-min ofs (hint+1)<=hint-last:=by omega
   have l2:hint-last<=n:=by omega
   have hl:∀i,i<hint+1-min ofs (hint+1)->rkA r xs (base+i)<r key:=λi hi=>by
    rcases d with d|⟨d1,d2⟩
    ·omega
    ·exact cB (asc.le (by omega)<|by omega) d2
   have hg:∀i,hint-last<=i->i<n->r key<rkA r xs (base+i):=λi h1 h2=>aW c<|asc.le (by omega) h2
   refine AE (AZ (AT (I:=fun x c st''=>st''=st'∧∃lo hi,c=(none,lo,hi)∧lo≤hi∧hi≤n∧hi - lo≤n - x∧(∀i,i<lo→rkA r xs (base+i)<r key)∧(∀i,hi≤i→i<n→r key<rkA r xs (base+i)))
    (Q:=λc st''=>st''=st'/\∃k,c=(none,k,k)/\k<=n/\(∀i,i<k->rkA r xs (base+i)<r key)/\(∀i,k<=i->i<n->r key<rkA r xs (base+i))) ?step ?fin ⟨rfl,_,_,rfl,l1,l2,by omega,hl,hg⟩) ?post)
   case post=>rintro c st'' ⟨rfl,k,rfl,a,b,c⟩;exact AJ<|h k a b c
   case fin=>
    rintro c st'' ⟨rfl,lo,hi,rfl,a,b,c,d,e⟩;have:lo=hi:=by omega
    subst this;exact⟨rfl,lo,rfl,b,d,e⟩
   case step=>
    rintro x c st'' _ hxn ⟨rfl,lo,hi,rfl,a,b,c,d,e⟩;dsimp only
    by_cases q:lo>=hi
    ·rw[if_pos q];have:lo=hi:=by omega
     subst this;exact AJ ⟨rfl,lo,rfl,b,d,e⟩
    ·rw[if_neg q];refine AE (sU K hk mx mk (by omega) (ne _<|by omega) ?_)
     by_cases z:rkA r xs (base+(lo+(hi-lo) / 2))<r key
     ·simp only[z,decide_true,if_true];refine AJ ⟨rfl,lo+(hi-lo) / 2+1,hi,rfl,by omega,b,by omega,λi hi'=> ?_,e⟩;exact cB (asc.le (by omega)<|by omega) z
     ·simp only[z,decide_false,aF,if_false];have z':=ne (lo+(hi-lo) / 2) (by omega);refine AJ ⟨rfl,lo,lo+(hi-lo) / 2,rfl,by omega,by omega,by omega,d,λi h1 h2=> ?_⟩;exact aW (by omega)<|asc.le h1 h2
structure MS(r:AH->Nat)(a b:Array AH)(out:List AH)(ia ib:Nat):Prop where
 ha:ia<=a.size
 hb:ib<=b.size
 perm:out.Perm (a.toList.take ia++b.toList.take ib)
 asc:(out.map r).Pairwise (·<·)
 la:∀x∈out,∀i,ia<=i->i<a.size->r x<rkA r a i
 lb:∀x∈out,∀i,ib<=i->i<b.size->r x<rkA r b i
def MD(r:AH->Nat)(a b:Array AH)(out:List AH):Prop:=out.Perm (a.toList++b.toList)/\(out.map r).Pairwise (·<·)
variable {a b:Array AH}{out:List AH}{ia ib:Nat}
theorem MS.swap(m:MS r a b out ia ib):MS r b a out ib ia:=⟨m.hb,m.ha,m.perm.trans lF,m.asc,m.lb,m.la⟩
theorem MS.pushA(m:MS r a b out ia ib)(h:ia<a.size)(asa:AscR r a 0 a.size)(hb:∀j,ib<=j->j<b.size->rkA r a ia<rkA r b j):MS r a b (out++[a[ia]]) (ia+1) ib:=by
 refine⟨h,m.hb, ?_, ?_,λx hx i h1 h2=> ?_,λx hx i h1 h2=> ?_⟩
 ·have e:a.toList.take (ia+1)=a.toList.take ia++[a[ia]]:=by rw[dO];simp[h]
  rw[e,gA];refine(m.perm.append_right _).trans ?_;rw[gA];exact List.Perm.append_left _ lF
 ·rw[aI,cV];refine⟨m.asc,pG _ _,λx hx y hy=> ?_⟩;obtain⟨z,hz,rfl⟩:=aH.mp hx;have:y=r a[ia]:=by simpa using hy
  rw[this,<-eE (r:=r) h];exact m.la z hz ia (aG _) h
 ·rcases aJ.mp hx with hx|hx
  ·exact m.la x hx i (by omega) h2
  ·rw[bA.mp hx,<-eE (r:=r) h];exact asa ia i (bI _) (by omega) h2
 ·rcases aJ.mp hx with hx|hx
  ·exact m.lb x hx i h1 h2
  ·rw[bA.mp hx,<-eE (r:=r) h];exact hb i h1 h2
theorem MS.pushB(m:MS r a b out ia ib)(h:ib<b.size)(asb:AscR r b 0 b.size)(hb:∀j,ia<=j->j<a.size->rkA r b ib<rkA r a j):MS r a b (out++[b[ib]]) ia (ib+1):=(m.swap.pushA h asb hb).swap
theorem aFT{k:Nat}(h:ia+k<a.size):(a.extract ia<|ia+(k+1)).toList=(a.extract ia<|ia+k).toList++[a[ia+k]]:=by simp only[dU,cR];rw[show ia+(k+1)-ia=k+1 by omega,show ia+k-ia=k by omega,dO];simp[h]
theorem aGO(i:Nat):(a.extract i<|i+0).toList=[]:=by simp[dU,cR]
theorem MS.extA(asa:AscR r a 0 a.size)(m:MS r a b out ia ib):∀k,ia+k<=a.size->(∀i,i<k->∀j,ib<=j->j<b.size->rkA r a (ia+i)<rkA r b j)->MS r a b (out++(a.extract ia<|ia+k).toList) (ia+k) ib
 |0,_,_=>by rw[aGO,eO];exact m
 |k+1,h,hb=>by
  have ih:=MS.extA asa m k (by omega) λi hi=>hb i<|by omega
  rw[aFT<|by omega,<-gA];exact ih.pushA (by omega) asa (hb k<|by omega)
theorem MS.extB(asb:AscR r b 0 b.size)(m:MS r a b out ia ib)(k:Nat)(h:ib+k<=b.size)(hb:∀i,i<k->∀j,ia<=j->j<a.size->rkA r b (ib+i)<rkA r a j):MS r a b (out++(b.extract ib<|ib+k).toList) ia (ib+k):=(m.swap.extA asb k h hb).swap
theorem MS.done(m:MS r a b out a.size b.size):MD r a b out:=by refine⟨?_,m.asc⟩;have:=m.perm;rw[fJ<|by simp,fJ<|by simp] at this;exact this
theorem MS.finA(m:MS r a b out ia b.size)(asa:AscR r a 0 a.size):MD r a b (out++(a.extract ia a.size).toList):=by
 have h:=m.ha;have:=m.extA asa (a.size-ia) (by omega) λi hi j h1 h2=>by omega
 rw[show ia+(a.size-ia)=a.size by omega] at this;exact this.done
theorem MS.finL(m:MS r a b out ia ib)(asa:AscR r a 0 a.size)(asb:AscR r b 0 b.size)(h1:ia+1=a.size)(hab:∀j,j<b.size->rkA r b j<rkA r a (a.size-1)):MD r a b (out++(b.extract ib b.size).toList++(a.extract ia a.size).toList):=by
 have h:=m.hb
 have:=m.extB asb (b.size-ib) (by omega) λi hi j h1 h2=>by
  have e:j=a.size-1:=by omega
  rw[e];exact hab _<|by omega
 rw[show ib+(b.size-ib)=b.size by omega] at this;exact this.finA asa
theorem aJw(i:Nat)(h:a.size<=i):(a.extract i a.size).toList=[]:=by
 rw[dU,cR];have:a.size-i=0:=by omega
 rw[this];rfl
noncomputable def aOS(st:BP)(g:Nat):BP:=SortSt.mk' (kindOf st) (AK st) (AC st) g<|failedOf st
noncomputable def jF:Nat->StateT BP Sem Unit:=sortPriv%PySem.Builtin.setMinGallop
theorem iU(g:Nat):jF g=modify λs=>aOS s g:=rfl
noncomputable def wU:Array AH->Array AH->StateT BP Sem (Array AH):=sortPriv%PySem.Builtin.mergeLo
structure SameG(st st':BP):Prop where
 kind:kindOf st'=kindOf st
 arr:AK st'=AK st
 pend:AC st'=AC st
 failed:failedOf st'=failedOf st
theorem SameG.refl(st:BP):SameG st st:=⟨rfl,rfl,rfl,rfl⟩
theorem SameG.set(h:SameG st st')(g:Nat):SameG st (aOS st' g):=⟨h.kind,h.arr,h.pend,h.failed⟩
structure MPre(r:AH->Nat)(a₀ a b:Array AH):Prop where
 a1:1<=a.size
 b1:1<=b.size
 asa:AscR r a 0 a.size
 asb:AscR r b 0 b.size
 ma:∀x∈a.toList,x∈a₀.toList
 mb:∀x∈b.toList,x∈a₀.toList
 ne:∀i j,i<a.size->j<b.size->rkA r a i≠rkA r b j
 first:rkA r b 0<rkA r a 0
 last:rkA r b (b.size-1)<rkA r a (a.size-1)
theorem AscR.le0{xs:Array AH}{n i j:Nat}(a:AscR r xs 0 n)(hij:i<=j)(hj:j<n):rkA r xs i<=rkA r xs j:=by
 by_cases e:i=j
 ·rw[e];exact aG _
 ·exact cZ (a _ _ (by omega) (by omega)<|by omega)
noncomputable abbrev SM:=StateT BP Sem
noncomputable abbrev ML1:=Option (Array AH)×Array AH×Nat×Nat×Nat×Nat
noncomputable abbrev ML2:=Option (Array AH)×Array AH×Nat×Nat×Nat×Nat×Nat
noncomputable abbrev ML0:=Option (Array AH)×Array AH×Nat×Nat×Nat
noncomputable def dnA(a b out:Array AH)(ia ib:Nat):Array AH:=out++a.extract ia a.size++b.extract ib b.size
noncomputable def lsA(a b out:Array AH)(ia ib:Nat):Array AH:=out++b.extract ib b.size++a.extract ia a.size
noncomputable def lo1(a b:Array AH)(mg:Nat)(c:ML1):SM (ForInStep ML1):=do
 let y <-elem' b c.2.2.2.1
 let x <-elem' a c.2.2.1
 let q <-lt' y x
 match q with
 |some bw=>
  if bw=true then do
   let y <-elem' b c.2.2.2.1
   if(c.2.2.2.1+1==b.size)=true then pure (.done (some (dnA a b (c.2.1.push y) c.2.2.1<|c.2.2.2.1+1),c.2.1.push y,c.2.2.1,c.2.2.2.1+1,0,c.2.2.2.2.2+1))
   else if c.2.2.2.2.2+1>=mg then pure (.done (none,c.2.1.push y,c.2.2.1,c.2.2.2.1+1,0,c.2.2.2.2.2+1))
   else pure (.yield (none,c.2.1.push y,c.2.2.1,c.2.2.2.1+1,0,c.2.2.2.2.2+1))
  else do
   let x <-elem' a c.2.2.1
   if(c.2.2.1+1+1==a.size)=true then pure (.done (some<|lsA a b (c.2.1.push x) (c.2.2.1+1) c.2.2.2.1,c.2.1.push x,c.2.2.1+1,c.2.2.2.1,c.2.2.2.2.1+1,0))
   else if c.2.2.2.2.1+1>=mg then pure (.done (none,c.2.1.push x,c.2.2.1+1,c.2.2.2.1,c.2.2.2.2.1+1,0))
   else pure (.yield (none,c.2.1.push x,c.2.2.1+1,c.2.2.2.1,c.2.2.2.2.1+1,0))
 |_=>pure<|.done (some<|dnA a b c.2.1 c.2.2.1 c.2.2.2.1,c.2.1,c.2.2.1,c.2.2.2.1,c.2.2.2.2.1,c.2.2.2.2.2)
noncomputable def aMN(a b out:Array AH)(ia ib mg k k1:Nat):SM (ForInStep ML2):=do
 let x <-elem' a ia
 if(ia+1+1==a.size)=true then pure (.done (some<|lsA a b (out.push x) (ia+1) ib,out.push x,ia+1,ib,mg,k,k1))
 else if(decide (k<7)&&decide (k1<7))=true then pure (.done (none,out.push x,ia+1,ib,mg,k,k1))
 else pure (.yield (none,out.push x,ia+1,ib,mg,k,k1))
noncomputable def aMI(a b out:Array AH)(ia ib mg k bc:Nat):SM (ForInStep ML2):=do
 let y <-elem' b ib
 if(ib+1==b.size)=true then pure (.done (some (dnA a b (out.push y) ia<|ib+1),out.push y,ia,ib+1,mg,k,bc))
 else do
  let x <-elem' a ia
  let q <-nE true x b (ib+1) (b.size-(ib+1)) 0
  match q with
  |some k1=>
   if k1>0 then
    if(ib+1+k1==b.size)=true then pure (.done (some (dnA a b (out.push y++b.extract (ib+1) (ib+1+k1)) ia<|ib+1+k1),out.push y++b.extract (ib+1) (ib+1+k1),ia,ib+1+k1,mg,k,k1))
    else aMN a b (out.push y++b.extract (ib+1) (ib+1+k1)) ia (ib+1+k1) mg k k1
   else aMN a b (out.push y) ia (ib+1) mg k k1
  |_=>pure<|.done (some (dnA a b (out.push y) ia<|ib+1),out.push y,ia,ib+1,mg,k,bc)
noncomputable def aKC(a b out:Array AH)(ia ib mg ac bc:Nat):SM (ForInStep ML2):=do
 jF mg
 let y <-elem' b ib
 let q <-nE false y a ia (a.size-ia) 0
 match q with
 |some k=>
  if k>0 then
   if(ia+k+1==a.size)=true then pure (.done (some<|lsA a b (out++a.extract ia (ia+k)) (ia+k) ib,out++a.extract ia (ia+k),ia+k,ib,mg,k,bc))
   else if(ia+k==a.size)=true then pure (.done (some<|dnA a b (out++a.extract ia (ia+k)) (ia+k) ib,out++a.extract ia (ia+k),ia+k,ib,mg,k,bc))
   else aMI a b (out++a.extract ia (ia+k)) (ia+k) ib mg k bc
  else aMI a b out ia ib mg k bc
 |_=>pure<|.done (some<|dnA a b out ia ib,out,ia,ib,mg,ac,bc)
noncomputable def lo2(a b:Array AH)(c:ML2):SM (ForInStep ML2):=
 if c.2.2.2.2.1>1 then aKC a b c.2.1 c.2.2.1 c.2.2.2.1 (c.2.2.2.2.1-1) c.2.2.2.2.2.1 c.2.2.2.2.2.2
 else aKC a b c.2.1 c.2.2.1 c.2.2.2.1 c.2.2.2.2.1 c.2.2.2.2.2.1 c.2.2.2.2.2.2
noncomputable def lo0(a b:Array AH)(c:ML0):SM (ForInStep ML0):=do
 let d <-forIn [:a.size+b.size] ((none,c.2.1,c.2.2.1,c.2.2.2.1,0,0):ML1) λ_ d=>lo1 a b c.2.2.2.2 d
 match d.1 with
 |some r=>pure<|.done (some r,d.2.1,d.2.2.1,d.2.2.2.1,c.2.2.2.2)
 |none=>do
  liftM (rule "list.sort.gallop")
  let e <-forIn [:a.size+b.size] ((none,d.2.1,d.2.2.1,d.2.2.2.1,c.2.2.2.2+1,d.2.2.2.2.1,d.2.2.2.2.2):ML2) λ_ e=>lo2 a b e
  match e.1 with
  |some r=>pure<|.done (some r,e.2.1,e.2.2.1,e.2.2.2.1,e.2.2.2.2.1)
  |none=>do
   jF (e.2.2.2.2.1+1)
   pure (.yield (none,e.2.1,e.2.2.1,e.2.2.2.1,e.2.2.2.2.1+1))
noncomputable def loM(a b:Array AH):SM (Array AH):=do
 liftM (rule "list.sort.merge-lo")
 let y <-elem' b 0
 if(1==b.size)=true then pure (dnA a b #[y] 0 1)
 else if(0+1==a.size)=true then pure (lsA a b #[y] 0 1)
 else do
  let g <-get
  let c <-forIn [:a.size+b.size] ((none, #[y],0,1,gallopOf g):ML0) λ_ c=>lo0 a b c
  match c.1 with
  |some r=>pure r
  |none=>liftM (unsupported "internal:list.sort.merge-bound":Sem (Array AH))
theorem aMh(a b:Array AH):wU a b=loM a b:=by kernel_rfl
def FIN(r:AH->Nat)(a b:Array AH)(o:Option (Array AH)):Prop:=∃res,o=some res/\MD r a b res.toList
def OKm(r:AH->Nat)(a b:Array AH)(N:Nat)(o:Option (Array AH))(out:Array AH)(ia ib:Nat):Prop:=o=none/\MS r a b out.toList ia ib/\ia+1<a.size/\ib<b.size/\N<=ia+ib
theorem OKm.mono{N N':Nat}{o:Option (Array AH)}{out:Array AH}(h:OKm r a b N o out ia ib)(le:N'<=N):OKm r a b N' o out ia ib:=⟨h.1,h.2.1,h.2.2.1,h.2.2.2.1,cP le h.2.2.2.2⟩
variable {out:Array AH}{st0:BP}
theorem MPre.last'(M:MPre r a₀ a b):∀j,j<b.size->rkA r b j<rkA r a (a.size-1):=λj hj=>cB (M.asb.le0 (by omega)<|by omega) M.last
theorem aBG(M:MPre r a₀ a b)(m:MS r a b out.toList ia ib)(h:ib=b.size):FIN r a b (some<|dnA a b out ia ib):=by subst h;refine⟨_,rfl, ?_⟩;have:=m.finA M.asa;unfold dnA;rw[dA,dA,aJw _<|aG _,eO];exact this
theorem aBr(M:MPre r a₀ a b)(m:MS r a b out.toList ia ib)(h:ia+1=a.size):FIN r a b (some<|lsA a b out ia ib):=by refine⟨_,rfl, ?_⟩;have:=m.finL M.asa M.asb h M.last';unfold lsA;rw[dA,dA];exact this
theorem MS.pushA'(M:MPre r a₀ a b)(m:MS r a b out.toList ia ib)(h:ia<a.size)(hb:∀j,ib<=j->j<b.size->rkA r a ia<rkA r b j):MS r a b (out.push a[ia]).toList (ia+1) ib:=by rw[iK];exact m.pushA h M.asa hb
theorem MS.pushB'(M:MPre r a₀ a b)(m:MS r a b out.toList ia ib)(h:ib<b.size)(hb:∀j,ia<=j->j<a.size->rkA r b ib<rkA r a j):MS r a b (out.push b[ib]).toList ia (ib+1):=by rw[iK];exact m.pushB h M.asb hb
theorem MS.extA'(M:MPre r a₀ a b)(m:MS r a b out.toList ia ib){k:Nat}(h:ia+k<=a.size)(hb:∀i,i<k->∀j,ib<=j->j<b.size->rkA r a (ia+i)<rkA r b j):MS r a b (out++a.extract ia (ia+k)).toList (ia+k) ib:=by rw[dA];exact m.extA M.asa k h hb
theorem MS.extB'(M:MPre r a₀ a b)(m:MS r a b out.toList ia ib){k:Nat}(h:ib+k<=b.size)(hb:∀i,i<k->∀j,ia<=j->j<a.size->rkA r b (ib+i)<rkA r a j):MS r a b (out++b.extract ib (ib+k)).toList ia (ib+k):=by rw[dA];exact m.extB M.asb k h hb
def P2(r:AH->Nat)(a b:Array AH)(st0:BP)(N:Nat):ForInStep ML2->BP->Prop:=λq st'=>SameG st0 st'/\match q with
 |.done c=>FIN r a b c.1\/OKm r a b N c.1 c.2.1 c.2.2.1 c.2.2.2.1
 |.yield c=>OKm r a b N c.1 c.2.1 c.2.2.1 c.2.2.2.1
theorem aEr{N mg k k1:Nat}(M:MPre r a₀ a b)(S:SameG st0 st)(m:MS r a b out.toList ia ib)(h1:ia+1<a.size)(h2:ib<b.size)(hN:N<=ia+1+ib)(hb:∀j,ib<=j->j<b.size->rkA r a ia<rkA r b j):wpS (AF prog w) A E s (aMN a b out ia ib mg k k1) (P2 r a b st0 N) st:=by
 unfold aMN;refine AE<|eG (by omega) ?_;have m2:=m.pushA' M (by omega) hb
 by_cases e:ia+1+1=a.size
 ·rw[if_pos<|by simpa using e];exact AJ ⟨S,.inl<|aBr M m2 e⟩
 ·rw[if_neg<|by simpa using e]
  split
  ·exact AJ ⟨S,.inr ⟨rfl,m2,by show ia+1+1<_;omega,h2,hN⟩⟩
  ·exact AJ ⟨S,rfl,m2,by show ia+1+1<_;omega,h2,hN⟩
theorem aDI{N mg k bc:Nat}(K:lW prog w A E s κ r a₀)(hk:kindOf st0=κ)(M:MPre r a₀ a b)(S:SameG st0 st)(m:MS r a b out.toList ia ib)(h1:ia+1<a.size)(h2:ib<b.size)(hN:N<=ia+1+ib)(hb:∀j,ia<=j->j<a.size->rkA r b ib<rkA r a j):wpS (AF prog w) A E s (aMI a b out ia ib mg k bc) (P2 r a b st0 N) st:=by
 unfold aMI;refine AE<|eG (by omega) ?_;have m2:=m.pushB' M h2 hb
 by_cases e:ib+1=b.size
 ·rw[if_pos<|by simpa using e];exact AJ ⟨S,.inl<|aBG M m2 e⟩
 ·rw[if_neg<|by simpa using e];have h1':ia<a.size:=by omega
  refine AE<|eG h1' (AE<|qP K (S.kind.trans hk) M.mb (M.ma _<|by simp) (by omega) (by omega) (λi j h1 h2 h3=>M.asb i j (by omega) h2<|by omega) (λi hi e=>M.ne ia (ib+1+i) h1' (by omega)<|by rw[e,eE h1']) λk1 c1 c2 c3=> ?_);dsimp only;rw[<-eE (r:=r) h1'] at c2 c3;have m3:=m2.extB' M (k:=k1) (by omega) λi hi j j1 j2=>aW (c2 i hi)<|M.asa.le0 j1 j2
  have c3':∀j,ib+1+k1<=j->j<b.size->rkA r a ia<rkA r b j:=λj j1 j2=>by
   have:=c3 (j-(ib+1)) (by omega)<|by omega
   rwa[show ib+1+(j-(ib+1))=j by omega] at this
  by_cases z:k1>0
  ·rw[if_pos z]
   by_cases y:ib+1+k1=b.size
   ·rw[if_pos<|by simpa using y];exact AJ ⟨S,.inl<|aBG M m3 y⟩
   ·rw[if_neg<|by simpa using y];exact aEr M S m3 h1 (by omega) (by omega) c3'
  ·rw[if_neg z];have z0:k1=0:=by omega
   subst z0;exact aEr M S m2 h1 (by omega) (by omega) c3'
theorem aJy{N mg ac bc:Nat}(K:lW prog w A E s κ r a₀)(hk:kindOf st0=κ)(M:MPre r a₀ a b)(S:SameG st0 st)(m:MS r a b out.toList ia ib)(h1:ia+1<a.size)(h2:ib<b.size)(hN:N<=ia+1+ib):wpS (AF prog w) A E s (aKC a b out ia ib mg ac bc) (P2 r a b st0 N) st:=by
 unfold aKC;rw[iU];refine AE<|BA ?_;have S:=S.set mg;refine AE<|eG h2 (AE<|qP K (S.kind.trans hk) M.ma (M.mb _<|by simp) (by omega) (by omega) (λi j h1 h2 h3=>M.asa i j (by omega) h2<|by omega) (λi hi e=>M.ne (ia+i) ib (by omega) h2<|by rw[e,eE h2]) λk c1 c2 c3=> ?_);dsimp only;rw[<-eE (r:=r) h2] at c2 c3;have m3:=m.extA' M (k:=k) (by omega) λi hi j j1 j2=>aW (c2 i hi)<|M.asb.le0 j1 j2
 have c3':∀j,ia+k<=j->j<a.size->rkA r b ib<rkA r a j:=λj j1 j2=>by
  have:=c3 (j-ia) (by omega)<|by omega
  rwa[show ia+(j-ia)=j by omega] at this
 have kl:ia+k<a.size:=by
  by_cases q:ia+k<a.size
  ·exact q
  ·have:=c2 (a.size-1-ia) (by omega);rw[show ia+(a.size-1-ia)=a.size-1 by omega] at this;have:=M.last' ib h2;omega
 by_cases z:k>0
 ·rw[if_pos z]
  by_cases y:ia+k+1=a.size
  ·rw[if_pos<|by simpa using y];exact AJ ⟨S,.inl<|aBr M m3 y⟩
  ·rw[if_neg (by simpa using y),if_neg<|by simp;omega];exact aDI K hk M S m3 (by omega) h2 (by omega) c3'
 ·rw[if_neg z];have z0:k=0:=by omega
  subst z0;exact aDI K hk M S m (by omega) h2 (by omega) c3'
def P1(r:AH->Nat)(a b:Array AH)(st:BP)(N:Nat):ForInStep ML1->BP->Prop:=λq st'=>st'=st/\match q with
 |.done c=>FIN r a b c.1\/OKm r a b N c.1 c.2.1 c.2.2.1 c.2.2.2.1
 |.yield c=>OKm r a b N c.1 c.2.1 c.2.2.1 c.2.2.2.1
theorem aMf{N mg:Nat}{c:ML1}(K:lW prog w A E s κ r a₀)(hk:kindOf st=κ)(M:MPre r a₀ a b)(h:OKm r a b N c.1 c.2.1 c.2.2.1 c.2.2.2.1):wpS (AF prog w) A E s (lo1 a b mg c) (P1 r a b st<|N+1) st:=by
 obtain⟨o,out,ia,ib,ac,bc⟩:=c;obtain⟨h0,m,h1,h2,hN⟩:=h;dsimp only at h0 m h1 h2 hN;unfold lo1;dsimp only;have h1':ia<a.size:=by omega
 refine AE<|eG h2 (AE<|eG h1' (AE<|K.ask (M.mb _<|by simp) (M.ma _<|by simp) hk ?_));dsimp only
 by_cases q:r b[ib]<r a[ia]
 ·rw[if_pos<|by simpa using q];refine AE<|eG h2 ?_;have q':rkA r b ib<rkA r a ia:=by rw[eE h2,eE h1'];exact q
  have m2:=m.pushB' M h2 λj j1 j2=>aW q'<|M.asa.le0 j1 j2
  by_cases e:ib+1=b.size
  ·rw[if_pos<|by simpa using e];exact AJ ⟨rfl,.inl<|aBG M m2 e⟩
  ·rw[if_neg<|by simpa using e]
   split
   ·exact AJ ⟨rfl,.inr ⟨rfl,m2,h1,by show ib+1<_;omega,by show _<=ia+(ib+1);omega⟩⟩
   ·exact AJ ⟨rfl,rfl,m2,h1,by show ib+1<_;omega,by show _<=ia+(ib+1);omega⟩
 ·rw[if_neg<|by simpa using q];refine AE (eG h1' ?_)
  have q':rkA r a ia<rkA r b ib:=by have:=M.ne ia ib h1' h2;rw[eE h1',eE h2] at this ⊢;omega
  have m2:=m.pushA' M h1' λj j1 j2=>aW q'<|M.asb.le0 j1 j2
  by_cases e:ia+1+1=a.size
  ·rw[if_pos<|by simpa using e];exact AJ ⟨rfl,.inl<|aBr M m2 e⟩
  ·rw[if_neg<|by simpa using e]
   split
   ·exact AJ ⟨rfl,.inr ⟨rfl,m2,by show ia+1+1<_;omega,h2,by show _<=ia+1+ib;omega⟩⟩
   ·exact AJ ⟨rfl,rfl,m2,by show ia+1+1<_;omega,h2,by show _<=ia+1+ib;omega⟩
def P0(r:AH->Nat)(a b:Array AH)(st0:BP)(N:Nat):ForInStep ML0->BP->Prop:=λq st'=>SameG st0 st'/\match q with
 |.done c=>FIN r a b c.1
 |.yield c=>OKm r a b N c.1 c.2.1 c.2.2.1 c.2.2.2.1
theorem aLR{N:Nat}{c:ML0}(K:lW prog w A E s κ r a₀)(hk:kindOf st0=κ)(M:MPre r a₀ a b)(S:SameG st0 st)(h:OKm r a b N c.1 c.2.1 c.2.2.1 c.2.2.2.1):wpS (AF prog w) A E s (lo0 a b c) (P0 r a b st0<|N+1) st:=by
 obtain⟨o,out,ia,ib,mg⟩:=c;obtain⟨h0,m,h1,h2,hN⟩:=h;dsimp only at h0 m h1 h2 hN;unfold lo0;dsimp only;refine AE<|AZ (AT (I:=λx d st'=>st'=st/\OKm r a b (N+x) d.1 d.2.1 d.2.2.1 d.2.2.2.1) (Q:=λd st'=>st'=st/\(FIN r a b d.1\/OKm r a b (N+1) d.1 d.2.1 d.2.2.1 d.2.2.2.1)) ?step ?fin ⟨rfl,rfl,m,h1,h2,hN⟩) ?post
 case step=>
  rintro x d st' _ hx ⟨rfl,hd⟩;refine AZ (aMf K (S.kind.trans hk) M hd) λq st'' hq=> ?_
  obtain⟨rfl,hq⟩:=hq;cases q with
  |done d=>exact⟨rfl,hq.imp id λz=>z.mono<|by omega⟩
  |yield d=>exact⟨rfl,hq⟩
 case fin=>rintro d st' ⟨rfl,_,_,h3,h4,h5⟩;omega
 case post=>
  rintro d st' ⟨rfl,hd⟩;obtain⟨o1,out,ia,ib,ac,bc⟩:=d
  rcases hd with⟨res,e,hres⟩|⟨e,m,h1,h2,hN⟩
  ·dsimp only at e;subst e;exact AJ ⟨S,res,rfl,hres⟩
  ·dsimp only at e m h1 h2 hN;subst e;dsimp only;refine AE (wpS_lift<|Az ⟨rfl, ?_⟩);refine AE (AZ (AT (I:=λx d st'=>SameG st0 st'/\OKm r a b (N+1+x) d.1 d.2.1 d.2.2.1 d.2.2.2.1) (Q:=λd st'=>SameG st0 st'/\(FIN r a b d.1\/OKm r a b (N+1) d.1 d.2.1 d.2.2.1 d.2.2.2.1)) ?step2 ?fin2 ⟨S,rfl,m,h1,h2,hN⟩) ?post2)
   case step2=>
    rintro x ⟨o2,out,ia,ib,mg,ac,bc⟩ st' _ hx ⟨S,_,m,h1,h2,hN⟩;dsimp only at m h1 h2 hN;have key:∀mg,wpS (AF prog w) A E s (aKC a b out ia ib mg ac bc) (P2 r a b st0<|N+1+(x+1)) st':=λmg=>aJy K hk M S m h1 h2<|by omega
    unfold lo2;dsimp only
    split<;>
    ·refine AZ (key _) λq st'' hq=> ?_
     obtain⟨S',hq⟩:=hq;cases q with
     |done d=>exact⟨S',hq.imp id λz=>z.mono<|by omega⟩
     |yield d=>exact⟨S',hq⟩
   case fin2=>rintro d st' ⟨_,_,_,h3,h4,h5⟩;omega
   case post2=>
    rintro⟨o2,out,ia,ib,mg,ac,bc⟩ st' ⟨S,hd⟩
    rcases hd with⟨res,e,hres⟩|⟨e,m,h1,h2,hN⟩
    ·dsimp only at e;subst e;exact AJ ⟨S,res,rfl,hres⟩
    ·dsimp only at e m h1 h2 hN;subst e;dsimp only;rw[iU];exact AE (BA<|AJ ⟨S.set _,rfl,m,h1,h2,hN⟩)
theorem aBg{Q:Array AH->BP->Prop}(K:lW prog w A E s κ r a₀)(hk:kindOf st=κ)(M:MPre r a₀ a b)
  (h:∀out st',MD r a b out.toList->SameG st st'->Q out st'):wpS (AF prog w) A E s (wU a b) Q st:=by
 rw[aMh];unfold loM;refine AE (wpS_lift<|Az ⟨rfl, ?_⟩);have b1:=M.b1;have a1:=M.a1;refine AE<|eG (by omega) ?_;have m0:MS r a b (#[]:Array AH).toList 0 0:=⟨by omega,by omega,by simp,by simp,λx hx=>by simp at hx,λx hx=>by simp at hx⟩;have m:MS r a b (#[b[0]]:Array AH).toList 0 1:=m0.pushB' M (by omega) λj j1 j2=>aW M.first<|M.asa.le0 j1 j2
 by_cases e:1=b.size
 ·rw[if_pos<|by simpa using e];obtain⟨res,e2,hr⟩:=aBG M m e;cases e2;exact AJ (h _ _ hr<|.refl _)
 ·rw[if_neg<|by simpa using e]
  by_cases e1:0+1=a.size
  ·rw[if_pos<|by simpa using e1];obtain⟨res,e2,hr⟩:=aBr M m e1;cases e2;exact AJ (h _ _ hr<|.refl _)
  ·rw[if_neg<|by simpa using e1];refine AE (wpS_get (AE<|AZ (AT (I:=λx d st'=>SameG st st'/\OKm r a b (x+1) d.1 d.2.1 d.2.2.1 d.2.2.2.1) (Q:=λd st'=>SameG st st'/\FIN r a b d.1) ?step ?fin ⟨.refl _,rfl,m,by show 0+1<_;omega,by show 1<_;omega,aG _⟩) ?post))
   case step=>
    rintro x d st' _ hx ⟨S,hd⟩;refine AZ (aLR K hk M S hd) λq st'' hq=> ?_
    obtain⟨S',hq⟩:=hq;cases q with
    |done d=>exact⟨S',hq⟩
    |yield d=>exact⟨S',hq⟩
   case fin=>rintro d st' ⟨_,_,_,h3,h4,h5⟩;omega
   case post=>rintro d st' ⟨S,res,e,hr⟩;rw[e];exact AJ<|h _ _ hr S
structure HS(r:AH->Nat)(a b:Array AH)(out:List AH)(na nb:Nat):Prop where
 ha:na<=a.size
 hb:nb<=b.size
 perm:out.Perm (a.toList.drop na++b.toList.drop nb)
 dsc:(out.map r).Pairwise (λx y=>y<x)
 la:∀x∈out,∀i,i<na->rkA r a i<r x
 lb:∀x∈out,∀i,i<nb->rkA r b i<r x
variable {out:List AH}{na nb:Nat}
theorem HS.swap(m:HS r a b out na nb):HS r b a out nb na:=⟨m.hb,m.ha,m.perm.trans lF,m.dsc,m.lb,m.la⟩
theorem HS.pushA(m:HS r a b out (na+1) nb)(asa:AscR r a 0 a.size)(hb:∀j,j<nb->rkA r b j<rkA r a na):HS r a b (out++[a[na]'m.ha]) na nb:=by
 have h:na<a.size:=m.ha;refine⟨cZ h,m.hb, ?_, ?_,λx hx i h1=> ?_,λx hx i h1=> ?_⟩
 ·have e:a.toList.drop na=a[na]::a.toList.drop (na+1):=by rw[jG<|by simpa using h];simp
  rw[e,List.cons_append];exact(lF).trans<|List.Perm.cons _ m.perm
 ·rw[aI,cV];refine⟨m.dsc,pG _ _,λx hx y hy=> ?_⟩;obtain⟨z,hz,rfl⟩:=aH.mp hx;have:y=r a[na]:=by simpa using hy
  rw[this,<-eE (r:=r) h];exact m.la z hz na<|pO _
 ·rcases aJ.mp hx with hx|hx
  ·exact m.la x hx i<|by omega
  ·rw[bA.mp hx,<-eE (r:=r) h];exact asa i na (bI _) h1 h
 ·rcases aJ.mp hx with hx|hx
  ·exact m.lb x hx i h1
  ·rw[bA.mp hx,<-eE (r:=r) h];exact hb i h1
theorem aGb{k:Nat}(h:k+1<=na)(h2:na<=a.size):(a.extract (na-(k+1)) na).toList.reverse=(a.extract (na-k) na).toList.reverse++[a[na-(k+1)]'(by omega)]:=by
 simp only[dU,cR]
 have e:a.toList.drop (na-(k+1))=a[na-(k+1)]'(by omega)::a.toList.drop (na-k):=by rw[jG<|by simp;omega];rw[show na-(k+1)+1=na-k by omega];simp
 rw[e,show na-(na-(k+1))=(na-(na-k))+1 by omega,aFA,List.reverse_cons]
theorem HS.extA(asa:AscR r a 0 a.size)(m:HS r a b out na nb):∀k,k<=na->(∀i,na-k<=i->i<na->∀j,j<nb->rkA r b j<rkA r a i)->HS r a b (out++(a.extract (na-k) na).toList.reverse) (na-k) nb
 |0,_,_=>by
  have e:(a.extract (na-0) na).toList.reverse=[]:=by simp[dU,cR]
  rw[e,eO];exact m
 |k+1,h,hb=>by
  have ih:=HS.extA asa m k (by omega) λi h1 h2=>hb i (by omega) h2
  rw[aGb h m.ha,<-gA];have e:na-k=na-(k+1)+1:=by omega
  rw[e] at ih;have:=ih.pushA asa (hb (na-(k+1)) (aG _)<|by omega);rw[show a.extract (na-k) na=a.extract (na-(k+1)+1) na by rw[e]];exact this
theorem HS.extB(asb:AscR r b 0 b.size)(m:HS r a b out na nb)(k:Nat)(h:k<=nb)(hb:∀i,nb-k<=i->i<nb->∀j,j<na->rkA r a j<rkA r b i):HS r a b (out++(b.extract (nb-k) nb).toList.reverse) na (nb-k):=(m.swap.extA asb k h hb).swap
theorem HS.done(m:HS r a b out 0 0):MD r a b out.reverse:=by
 refine⟨(List.reverse_perm _).trans ?_, ?_⟩
 ·have:=m.perm;simpa using this
 ·rw[List.map_reverse,List.pairwise_reverse];exact m.dsc
theorem HS.finB(m:HS r a b out 0 nb)(asb:AscR r b 0 b.size):MD r a b ((b.extract 0 nb).toList++out.reverse):=by
 have:=m.extB asb nb (aG _) λi h1 h2 j hj=>by omega
 rw[qL] at this;have:=this.done
 rwa[aFB,aFt] at this
theorem HS.finL(m:HS r a b out na 1)(asa:AscR r a 0 a.size)(asb:AscR r b 0 b.size)(first:∀i,i<a.size->rkA r b 0<rkA r a i):MD r a b ((b.extract 0 1).toList++(a.extract 0 na).toList++out.reverse):=by
 have ha:=m.ha
 have:=m.extA asa na (aG _) λi h1 h2 j hj=>by
  have:j=0:=by omega
  subst this;exact first i<|by omega
 rw[qL] at this;have:=this.finB asb
 rwa[aFB,aFt,<-gA] at this
noncomputable def wO:Array AH->Array AH->StateT BP Sem (Array AH):=sortPriv%PySem.Builtin.mergeHi
noncomputable abbrev MH1:=Option (Array AH)×Nat×Nat×Array AH×Nat×Nat
noncomputable abbrev MH2:=Option (Array AH)×Nat×Nat×Array AH×Nat×Nat×Nat
noncomputable abbrev MH0:=Option (Array AH)×Nat×Nat×Array AH×Nat
noncomputable def dnH(a b out:Array AH)(na nb:Nat):Array AH:=a.extract 0 na++b.extract 0 nb++out.reverse
noncomputable def fsB(a b out:Array AH)(na nb:Nat):Array AH:=b.extract 0 nb++a.extract 0 na++out.reverse
noncomputable def hi1(a b:Array AH)(mg:Nat)(c:MH1):SM (ForInStep MH1):=do
 let y <-elem' b (c.2.2.1-1)
 let x <-elem' a (c.2.1-1)
 let q <-lt' y x
 match q with
 |some aw=>
  if aw=true then do
   let x <-elem' a (c.2.1-1)
   if(c.2.1-1==0)=true then pure (.done (some<|dnH a b (c.2.2.2.1.push x) (c.2.1-1) c.2.2.1,c.2.1-1,c.2.2.1,c.2.2.2.1.push x,c.2.2.2.2.1+1,0))
   else if c.2.2.2.2.1+1>=mg then pure (.done (none,c.2.1-1,c.2.2.1,c.2.2.2.1.push x,c.2.2.2.2.1+1,0))
   else pure (.yield (none,c.2.1-1,c.2.2.1,c.2.2.2.1.push x,c.2.2.2.2.1+1,0))
  else do
   let y <-elem' b (c.2.2.1-1)
   if(c.2.2.1-1==1)=true then pure (.done (some (fsB a b (c.2.2.2.1.push y) c.2.1<|c.2.2.1-1),c.2.1,c.2.2.1-1,c.2.2.2.1.push y,0,c.2.2.2.2.2+1))
   else if c.2.2.2.2.2+1>=mg then pure (.done (none,c.2.1,c.2.2.1-1,c.2.2.2.1.push y,0,c.2.2.2.2.2+1))
   else pure (.yield (none,c.2.1,c.2.2.1-1,c.2.2.2.1.push y,0,c.2.2.2.2.2+1))
 |_=>pure<|.done (some<|dnH a b c.2.2.2.1 c.2.1 c.2.2.1,c.2.1,c.2.2.1,c.2.2.2.1,c.2.2.2.2.1,c.2.2.2.2.2)
noncomputable def aMK(a b out:Array AH)(na nb mg k k1:Nat):SM (ForInStep MH2):=do
 let x <-elem' a (na-1)
 if(na-1==0)=true then pure (.done (some<|dnH a b (out.push x) (na-1) nb,na-1,nb,out.push x,mg,k,k1))
 else if(decide (k<7)&&decide (k1<7))=true then pure (.done (none,na-1,nb,out.push x,mg,k,k1))
 else pure (.yield (none,na-1,nb,out.push x,mg,k,k1))
noncomputable def aMS(a b out:Array AH)(na nb mg k bc:Nat):SM (ForInStep MH2):=do
 let y <-elem' b (nb-1)
 if(nb-1==1)=true then pure (.done (some (fsB a b (out.push y) na<|nb-1),na,nb-1,out.push y,mg,k,bc))
 else do
  let x <-elem' a (na-1)
  let q <-nE true x b 0 (nb-1) (nb-1-1)
  match q with
  |some at_=>
   if nb-1-at_>0 then
    if(at_==1)=true then pure (.done (some<|fsB a b (out.push y++(b.extract at_<|nb-1).reverse) na at_,na,at_,out.push y++(b.extract at_<|nb-1).reverse,mg,k,nb-1-at_))
    else if(at_==0)=true then pure (.done (some<|dnH a b (out.push y++(b.extract at_<|nb-1).reverse) na at_,na,at_,out.push y++(b.extract at_<|nb-1).reverse,mg,k,nb-1-at_))
    else aMK a b (out.push y++(b.extract at_<|nb-1).reverse) na at_ mg k (nb-1-at_)
   else aMK a b (out.push y) na (nb-1) mg k (nb-1-at_)
  |_=>pure<|.done (some (dnH a b (out.push y) na<|nb-1),na,nb-1,out.push y,mg,k,bc)
noncomputable def aKB(a b out:Array AH)(na nb mg ac bc:Nat):SM (ForInStep MH2):=do
 jF mg
 let y <-elem' b (nb-1)
 let q <-nE false y a 0 na (na-1)
 match q with
 |some at_=>
  if na-at_>0 then
   if(at_==0)=true then pure (.done (some<|dnH a b (out++(a.extract at_ na).reverse) at_ nb,at_,nb,out++(a.extract at_ na).reverse,mg,na-at_,bc))
   else aMS a b (out++(a.extract at_ na).reverse) at_ nb mg (na-at_) bc
  else aMS a b out na nb mg (na-at_) bc
 |_=>pure<|.done (some<|dnH a b out na nb,na,nb,out,mg,ac,bc)
noncomputable def hi2(a b:Array AH)(c:MH2):SM (ForInStep MH2):=
 if c.2.2.2.2.1>1 then aKB a b c.2.2.2.1 c.2.1 c.2.2.1 (c.2.2.2.2.1-1) c.2.2.2.2.2.1 c.2.2.2.2.2.2
 else aKB a b c.2.2.2.1 c.2.1 c.2.2.1 c.2.2.2.2.1 c.2.2.2.2.2.1 c.2.2.2.2.2.2
noncomputable def hi0(a b:Array AH)(c:MH0):SM (ForInStep MH0):=do
 let d <-forIn [:a.size+b.size] ((none,c.2.1,c.2.2.1,c.2.2.2.1,0,0):MH1) λ_ d=>hi1 a b c.2.2.2.2 d
 match d.1 with
 |some r=>pure<|.done (some r,d.2.1,d.2.2.1,d.2.2.2.1,c.2.2.2.2)
 |none=>do
  liftM (rule "list.sort.gallop")
  let e <-forIn [:a.size+b.size] ((none,d.2.1,d.2.2.1,d.2.2.2.1,c.2.2.2.2+1,d.2.2.2.2.1,d.2.2.2.2.2):MH2) λ_ e=>hi2 a b e
  match e.1 with
  |some r=>pure<|.done (some r,e.2.1,e.2.2.1,e.2.2.2.1,e.2.2.2.2.1)
  |none=>do
   jF (e.2.2.2.2.1+1)
   pure (.yield (none,e.2.1,e.2.2.1,e.2.2.2.1,e.2.2.2.2.1+1))
noncomputable def hiM(a b:Array AH):SM (Array AH):=do
 liftM (rule "list.sort.merge-hi")
 let x <-elem' a (a.size-1)
 if(a.size-1==0)=true then pure (dnH a b #[x] (a.size-1) b.size)
 else if(b.size==1)=true then pure (fsB a b #[x] (a.size-1) b.size)
 else do
  let g <-get
  let c <-forIn [:a.size+b.size] ((none,a.size-1,b.size, #[x],gallopOf g):MH0) λ_ c=>hi0 a b c
  match c.1 with
  |some r=>pure r
  |none=>liftM (unsupported "internal:list.sort.merge-bound":Sem (Array AH))
theorem aMa(a b:Array AH):wO a b=hiM a b:=by kernel_rfl
def OKh(r:AH->Nat)(a b:Array AH)(N:Nat)(o:Option (Array AH))(out:Array AH)(na nb:Nat):Prop:=o=none/\HS r a b out.toList na nb/\1<=na/\2<=nb/\na+nb+N<=a.size+b.size
theorem OKh.mono{N N':Nat}{o:Option (Array AH)}{out:Array AH}(h:OKh r a b N o out na nb)(le:N'<=N):OKh r a b N' o out na nb:=⟨h.1,h.2.1,h.2.2.1,h.2.2.2.1,by have:=h.2.2.2.2;omega⟩
variable {out:Array AH}
theorem MPre.first'(M:MPre r a₀ a b):∀i,i<a.size->rkA r b 0<rkA r a i:=λi hi=>aW M.first<|M.asa.le0 (bI _) hi
theorem ex0(xs:Array AH):(xs.extract 0 0).toList=[]:=by simp[dU,cR]
theorem aBv(M:MPre r a₀ a b)(m:HS r a b out.toList na nb)(h:na=0):FIN r a b (some<|dnH a b out na nb):=by subst h;refine⟨_,rfl, ?_⟩;have:=m.finB M.asb;unfold dnH;rw[dA,dA,ex0,qH,lU];exact this
theorem aBw(M:MPre r a₀ a b)(m:HS r a b out.toList na nb)(h:nb=1):FIN r a b (some<|fsB a b out na nb):=by subst h;refine⟨_,rfl, ?_⟩;have:=m.finL M.asa M.asb M.first';unfold fsB;rw[dA,dA,lU];exact this
theorem HS.pushA'(M:MPre r a₀ a b)(m:HS r a b out.toList na nb)(h1:1<=na)(hb:∀j,j<nb->rkA r b j<rkA r a (na-1)):HS r a b (out.push<|a[na-1]'(by have:=m.ha;omega)).toList (na-1) nb:=by
 rw[iK];have e:na=na-1+1:=by omega
 have m':HS r a b out.toList (na-1+1) nb:=by rw[<-e];exact m
 exact m'.pushA M.asa hb
theorem HS.pushB'(M:MPre r a₀ a b)(m:HS r a b out.toList na nb)(h1:1<=nb)(hb:∀j,j<na->rkA r a j<rkA r b (nb-1)):HS r a b (out.push<|b[nb-1]'(by have:=m.hb;omega)).toList na (nb-1):=by
 rw[iK];have e:nb=nb-1+1:=by omega
 have m':HS r a b out.toList na (nb-1+1):=by rw[<-e];exact m
 exact(m'.swap.pushA M.asb hb).swap
theorem HS.extA'(M:MPre r a₀ a b)(m:HS r a b out.toList na nb){t:Nat}(h:t<=na)(hb:∀i,t<=i->i<na->∀j,j<nb->rkA r b j<rkA r a i):HS r a b (out++(a.extract t na).reverse).toList t nb:=by rw[dA,lU];have:=m.extA M.asa (na-t) (by omega) (by rw[show na-(na-t)=t by omega];exact hb);rw[show na-(na-t)=t by omega] at this;exact this
theorem HS.extB'(M:MPre r a₀ a b)(m:HS r a b out.toList na nb){t:Nat}(h:t<=nb)(hb:∀i,t<=i->i<nb->∀j,j<na->rkA r a j<rkA r b i):HS r a b (out++(b.extract t nb).reverse).toList na t:=by rw[dA,lU];have:=m.extB M.asb (nb-t) (by omega) (by rw[show nb-(nb-t)=t by omega];exact hb);rw[show nb-(nb-t)=t by omega] at this;exact this
def H2(r:AH->Nat)(a b:Array AH)(st0:BP)(N:Nat):ForInStep MH2->BP->Prop:=λq st'=>SameG st0 st'/\match q with
 |.done c=>FIN r a b c.1\/OKh r a b N c.1 c.2.2.2.1 c.2.1 c.2.2.1
 |.yield c=>OKh r a b N c.1 c.2.2.2.1 c.2.1 c.2.2.1
theorem aEw{N mg k k1:Nat}(M:MPre r a₀ a b)(S:SameG st0 st)(m:HS r a b out.toList na nb)(h1:1<=na)(h2:2<=nb)(hN:na-1+nb+N<=a.size+b.size)(hb:∀j,j<nb->rkA r b j<rkA r a (na-1)):wpS (AF prog w) A E s (aMK a b out na nb mg k k1) (H2 r a b st0 N) st:=by
 unfold aMK;have ha:=m.ha;refine AE<|eG (by omega) ?_;have m2:=m.pushA' M h1 hb
 by_cases e:na-1=0
 ·rw[if_pos<|by simpa using e];exact AJ ⟨S,.inl<|aBv M m2 e⟩
 ·rw[if_neg<|by simpa using e]
  split
  ·exact AJ ⟨S,.inr ⟨rfl,m2,by show 1<=na-1;omega,h2,hN⟩⟩
  ·exact AJ ⟨S,rfl,m2,by show 1<=na-1;omega,h2,hN⟩
theorem aEp{N mg k bc:Nat}(K:lW prog w A E s κ r a₀)(hk:kindOf st0=κ)(M:MPre r a₀ a b)(S:SameG st0 st)(m:HS r a b out.toList na nb)(h1:1<=na)(h2:2<=nb)(hN:na-1+nb+N<=a.size+b.size)(hb:∀j,j<na->rkA r a j<rkA r b (nb-1)):wpS (AF prog w) A E s (aMS a b out na nb mg k bc) (H2 r a b st0 N) st:=by
 unfold aMS;have ha:=m.ha;have hbb:=m.hb;refine AE<|eG (by omega) ?_;have m2:=m.pushB' M (by omega) hb
 by_cases e:nb-1=1
 ·rw[if_pos<|by simpa using e];exact AJ ⟨S,.inl<|aBw M m2 e⟩
 ·rw[if_neg<|by simpa using e];have h1':na-1<a.size:=by omega
  refine AE<|eG h1' (AE<|qP K (S.kind.trans hk) M.mb (M.ma _<|by simp) (by omega) (by omega) (λi j h1 h2 h3=>M.asb i j (by omega) h2<|by omega) (λi hi e=>M.ne (na-1) i h1' (by omega)<|by rw[uU] at e;rw[e,eE h1']) λat_ c1 c2 c3=> ?_);dsimp only;simp only[uU] at c2 c3;rw[<-eE (r:=r) h1'] at c2 c3;have m3:=m2.extB' M (t:=at_) c1 λi i1 i2 j hj=>cB (M.asa.le0 (by omega) h1')<|c3 i i1 i2
  have a0:1<=at_:=by
   by_cases q:at_=0
   ·subst q;have:=c3 0 (aG _) (by omega);have:=M.first' (na-1) h1';omega
   ·omega
  by_cases z:nb-1-at_>0
  ·rw[if_pos z]
   by_cases y:at_=1
   ·rw[if_pos<|by simpa using y];exact AJ ⟨S,.inl<|aBw M m3 y⟩
   ·rw[if_neg (by simpa using y),if_neg<|by simp;omega];exact aEw M S m3 h1 (by omega) (by omega) c2
  ·rw[if_neg z];have z0:at_=nb-1:=by omega
   subst z0;exact aEw M S m2 h1 (by omega) (by omega) c2
theorem aJx{N mg ac bc:Nat}(K:lW prog w A E s κ r a₀)(hk:kindOf st0=κ)(M:MPre r a₀ a b)(S:SameG st0 st)(m:HS r a b out.toList na nb)(h1:1<=na)(h2:2<=nb)(hN:na-1+nb+N<=a.size+b.size):wpS (AF prog w) A E s (aKB a b out na nb mg ac bc) (H2 r a b st0 N) st:=by
 unfold aKB;have ha:=m.ha;have hbb:=m.hb;rw[iU];refine AE<|BA ?_;have S:=S.set mg;have h2':nb-1<b.size:=by omega
 refine AE<|eG h2' (AE<|qP K (S.kind.trans hk) M.ma (M.mb _<|by simp) (by omega) (by omega) (λi j h1 h2 h3=>M.asa i j (by omega) h2<|by omega) (λi hi e=>M.ne i (nb-1) (by omega) h2'<|by rw[uU] at e;rw[e,eE h2']) λat_ c1 c2 c3=> ?_);dsimp only;simp only[uU] at c2 c3;rw[<-eE (r:=r) h2'] at c2 c3;have m3:=m.extA' M (t:=at_) c1 λi i1 i2 j hj=>cB (M.asb.le0 (by omega) h2')<|c3 i i1 i2
 by_cases z:na-at_>0
 ·rw[if_pos z]
  by_cases y:at_=0
  ·rw[if_pos<|by simpa using y];exact AJ ⟨S,.inl<|aBv M m3 y⟩
  ·rw[if_neg<|by simpa using y];exact aEp K hk M S m3 (by omega) h2 (by omega) c2
 ·rw[if_neg z];have z0:at_=na:=by omega
  subst z0;exact aEp K hk M S m h1 h2 hN c2
def H1(r:AH->Nat)(a b:Array AH)(st:BP)(N:Nat):ForInStep MH1->BP->Prop:=λq st'=>st'=st/\match q with
 |.done c=>FIN r a b c.1\/OKh r a b N c.1 c.2.2.2.1 c.2.1 c.2.2.1
 |.yield c=>OKh r a b N c.1 c.2.2.2.1 c.2.1 c.2.2.1
theorem aMx{N mg:Nat}{c:MH1}(K:lW prog w A E s κ r a₀)(hk:kindOf st=κ)(M:MPre r a₀ a b)(h:OKh r a b N c.1 c.2.2.2.1 c.2.1 c.2.2.1):wpS (AF prog w) A E s (hi1 a b mg c) (H1 r a b st<|N+1) st:=by
 obtain⟨o,na,nb,out,ac,bc⟩:=c;obtain⟨h0,m,h1,h2,hN⟩:=h;dsimp only at h0 m h1 h2 hN;unfold hi1;dsimp only;have ha:=m.ha;have hbb:=m.hb;have h1':na-1<a.size:=by omega
 have h2':nb-1<b.size:=by omega
 refine AE<|eG h2' (AE<|eG h1' (AE<|K.ask (M.mb _<|by simp) (M.ma _<|by simp) hk ?_));dsimp only
 by_cases q:r b[nb-1]<r a[na-1]
 ·rw[if_pos<|by simpa using q];refine AE<|eG h1' ?_;have q':rkA r b (nb-1)<rkA r a (na-1):=by rw[eE h1',eE h2'];exact q
  have m2:=m.pushA' M h1 λj hj=>cB (M.asb.le0 (by omega) h2') q'
  by_cases e:na-1=0
  ·rw[if_pos<|by simpa using e];exact AJ ⟨rfl,.inl<|aBv M m2 e⟩
  ·rw[if_neg<|by simpa using e]
   split
   ·exact AJ ⟨rfl,.inr ⟨rfl,m2,by show 1<=na-1;omega,h2,by show na-1+nb+_<=_;omega⟩⟩
   ·exact AJ ⟨rfl,rfl,m2,by show 1<=na-1;omega,h2,by show na-1+nb+_<=_;omega⟩
 ·rw[if_neg<|by simpa using q];refine AE (eG h2' ?_)
  have q':rkA r a (na-1)<rkA r b (nb-1):=by have:=M.ne (na-1) (nb-1) h1' h2';rw[eE h1',eE h2'] at this ⊢;omega
  have m2:=m.pushB' M (by omega) λj hj=>cB (M.asa.le0 (by omega) h1') q'
  by_cases e:nb-1=1
  ·rw[if_pos<|by simpa using e];exact AJ ⟨rfl,.inl<|aBw M m2 e⟩
  ·rw[if_neg<|by simpa using e]
   split
   ·exact AJ ⟨rfl,.inr ⟨rfl,m2,h1,by show 2<=nb-1;omega,by show na+(nb-1)+_<=_;omega⟩⟩
   ·exact AJ ⟨rfl,rfl,m2,h1,by show 2<=nb-1;omega,by show na+(nb-1)+_<=_;omega⟩
def H0(r:AH->Nat)(a b:Array AH)(st0:BP)(N:Nat):ForInStep MH0->BP->Prop:=λq st'=>SameG st0 st'/\match q with
 |.done c=>FIN r a b c.1
 |.yield c=>OKh r a b N c.1 c.2.2.2.1 c.2.1 c.2.2.1
theorem aLT{N:Nat}{c:MH0}(K:lW prog w A E s κ r a₀)(hk:kindOf st0=κ)(M:MPre r a₀ a b)(S:SameG st0 st)(h:OKh r a b N c.1 c.2.2.2.1 c.2.1 c.2.2.1):wpS (AF prog w) A E s (hi0 a b c) (H0 r a b st0<|N+1) st:=by
 obtain⟨o,na,nb,out,mg⟩:=c;obtain⟨h0,m,h1,h2,hN⟩:=h;dsimp only at h0 m h1 h2 hN;unfold hi0;dsimp only;refine AE<|AZ (AT (I:=λx d st'=>st'=st/\OKh r a b (N+x) d.1 d.2.2.2.1 d.2.1 d.2.2.1) (Q:=λd st'=>st'=st/\(FIN r a b d.1\/OKh r a b (N+1) d.1 d.2.2.2.1 d.2.1 d.2.2.1)) ?step ?fin ⟨rfl,rfl,m,h1,h2,hN⟩) ?post
 case step=>
  rintro x d st' _ hx ⟨rfl,hd⟩;refine AZ (aMx K (S.kind.trans hk) M hd) λq st'' hq=> ?_
  obtain⟨rfl,hq⟩:=hq;cases q with
  |done d=>exact⟨rfl,hq.imp id λz=>z.mono<|by omega⟩
  |yield d=>exact⟨rfl,hq⟩
 case fin=>rintro d st' ⟨rfl,_,_,h3,h4,h5⟩;omega
 case post=>
  rintro d st' ⟨rfl,hd⟩;obtain⟨o1,na,nb,out,ac,bc⟩:=d
  rcases hd with⟨res,e,hres⟩|⟨e,m,h1,h2,hN⟩
  ·dsimp only at e;subst e;exact AJ ⟨S,res,rfl,hres⟩
  ·dsimp only at e m h1 h2 hN;subst e;dsimp only;refine AE (wpS_lift<|Az ⟨rfl, ?_⟩);refine AE (AZ (AT (I:=λx d st'=>SameG st0 st'/\OKh r a b (N+1+x) d.1 d.2.2.2.1 d.2.1 d.2.2.1) (Q:=λd st'=>SameG st0 st'/\(FIN r a b d.1\/OKh r a b (N+1) d.1 d.2.2.2.1 d.2.1 d.2.2.1)) ?step2 ?fin2 ⟨S,rfl,m,h1,h2,hN⟩) ?post2)
   case step2=>
    rintro x ⟨o2,na,nb,out,mg,ac,bc⟩ st' _ hx ⟨S,_,m,h1,h2,hN⟩;dsimp only at m h1 h2 hN;have key:∀mg,wpS (AF prog w) A E s (aKB a b out na nb mg ac bc) (H2 r a b st0<|N+1+(x+1)) st':=λmg=>aJx K hk M S m h1 h2<|by omega
    unfold hi2;dsimp only
    split<;>
    ·refine AZ (key _) λq st'' hq=> ?_
     obtain⟨S',hq⟩:=hq;cases q with
     |done d=>exact⟨S',hq.imp id λz=>z.mono<|by omega⟩
     |yield d=>exact⟨S',hq⟩
   case fin2=>rintro d st' ⟨_,_,_,h3,h4,h5⟩;omega
   case post2=>
    rintro⟨o2,na,nb,out,mg,ac,bc⟩ st' ⟨S,hd⟩
    rcases hd with⟨res,e,hres⟩|⟨e,m,h1,h2,hN⟩
    ·dsimp only at e;subst e;exact AJ ⟨S,res,rfl,hres⟩
    ·dsimp only at e m h1 h2 hN;subst e;dsimp only;rw[iU];exact AE (BA<|AJ ⟨S.set _,rfl,m,h1,h2,hN⟩)
theorem aBj{Q:Array AH->BP->Prop}(K:lW prog w A E s κ r a₀)(hk:kindOf st=κ)(M:MPre r a₀ a b)
  (h:∀out st',MD r a b out.toList->SameG st st'->Q out st'):wpS (AF prog w) A E s (wO a b) Q st:=by
 rw[aMa];unfold hiM;refine AE (wpS_lift<|Az ⟨rfl, ?_⟩);have b1:=M.b1;have a1:=M.a1;refine AE<|eG (by omega) ?_;have m0:HS r a b (#[]:Array AH).toList a.size b.size:=⟨aG _,aG _,by rw[aCU<|by simp,aCU<|by simp];exact .refl _,by simp,λx hx=>by simp at hx,λx hx=>by simp at hx⟩;have m:HS r a b (#[a[a.size-1]]:Array AH).toList (a.size-1) b.size:=m0.pushA' M a1 λj hj=>M.last' j hj
 by_cases e:a.size-1=0
 ·rw[if_pos<|by simpa using e];obtain⟨res,e2,hr⟩:=aBv M m e;cases e2;exact AJ (h _ _ hr<|.refl _)
 ·rw[if_neg<|by simpa using e]
  by_cases e1:b.size=1
  ·rw[if_pos<|by simpa using e1];obtain⟨res,e2,hr⟩:=aBw M m e1;cases e2;exact AJ (h _ _ hr<|.refl _)
  ·rw[if_neg<|by simpa using e1];refine AE (wpS_get (AE<|AZ (AT (I:=λx d st'=>SameG st st'/\OKh r a b (x+1) d.1 d.2.2.2.1 d.2.1 d.2.2.1) (Q:=λd st'=>SameG st st'/\FIN r a b d.1) ?step ?fin ⟨.refl _,rfl,m,by show 1<=a.size-1;omega,by show 2<=b.size;omega,by show a.size-1+b.size+(0+1)<=_;omega⟩) ?post))
   case step=>
    rintro x d st' _ hx ⟨S,hd⟩;refine AZ (aLT K hk M S hd) λq st'' hq=> ?_
    obtain⟨S',hq⟩:=hq;cases q with
    |done d=>exact⟨S',hq⟩
    |yield d=>exact⟨S',hq⟩
   case fin=>rintro d st' ⟨_,_,_,h3,h4,h5⟩;omega
   case post=>rintro d st' ⟨S,res,e,hr⟩;rw[e];exact AJ<|h _ _ hr S
noncomputable abbrev Pnd:=Array<|Nat×Nat×Nat
noncomputable def wbA(sa:Nat)(m:Array AH)(xs:Array AH):Array AH:=m.toList.zipIdx.foldl (λa (q:AH×Nat)=>a.setIfInBounds (sa+q.2) q.1) xs
noncomputable def mgC(x y:Array AH)(na nb sa:Nat):SM Bool:=do
 let merged <-if na<=nb then wU x y else wO x y
 modify λs=>setArr s (wbA sa merged<|AK s)
 let s <-get
 pure (failedOf s).isNone
noncomputable def mgB(xs:Array AH)(sa na sb nb:Nat):SM Bool:=do
 if(na==0)=true then pure true
 else do
  let x <-elem' xs (sa+na-1)
  let q <-nE true x xs sb nb (nb-1)
  match q with
  |some nb=>if(nb==0)=true then pure true else mgC (xs.extract sa sb) (xs.extract sb<|sb+nb) na nb sa
  |_=>pure false
noncomputable def mgA(i:Nat):SM Bool:=do
 let s <-get
 match(AC s)[i]?,(AC s)[i+1]? with
 |some (sa,na,pw),some (sb,nb,_)=>do
  set (BB s (((AC s).setIfInBounds i (sa,na+nb,pw)).eraseIdxIfInBounds<|i+1))
  let y <-elem' (AK s) sb
  let q <-nE false y (AK s) sa na 0
  match q with
  |some k=>mgB (AK s) (sa+k) (na-k) sb nb
  |_=>pure false
 |_,_=>liftM (unsupported "internal:list.sort.pending":Sem Bool)
theorem aMz(i:Nat):mergeAt' i=mgA i:=by kernel_rfl
noncomputable def aOL(pw:Nat):SM (ForInStep<|Option Unit×Unit):=do
 let s <-get
 match(if(AC s).size>1 then(AC s)[(AC s).size-2]? else none) with
 |some (_,_,older)=>
  if older<=pw then pure (.done (none,()))
  else do
   let b <-mergeAt' ((AC s).size-2)
   if(!b)=true then pure (.done (some (),())) else pure (.yield (none,()))
 |_=>pure<|.done (none,())
noncomputable def aBH(lo n size:Nat):SM (ForInStep<|Option Unit×Nat):=do
 let s <-get
 match(AC s).back? with
 |some (s1,n1,_)=>do
  let c <-forIn [:size] ((none,()):Option Unit×Unit) λ_ _=>aOL<|power' size (2*s1+n1) (2*s1+n1+n1+n) size
  match c.1 with
  |some r=>pure<|.done (some r,lo)
  |none=>do
   modify λs=>BB s<|(AC s).modify ((AC s).size-1) λ(st,len,_)=>(st,len,power' size (2*s1+n1) (2*s1+n1+n1+n) size)
   modify λs=>BB s<|(AC s).push (lo,n,0)
   pure (.yield (none,lo+n))
 |_=>do
  modify λs=>BB s<|(AC s).push (lo,n,0)
  pure (.yield (none,lo+n))
noncomputable def aHn(size minrun:Nat)(c:Option Unit×Nat):SM (ForInStep<|Option Unit×Nat):=
 if c.2>=size then pure (.done (none,c.2))
 else do
  let f <-countRun' c.2 (size-c.2)
  match f with
  |some found=>
   if found<minrun then do
    liftM (rule "list.sort.binary-insertion")
    let b <-binarySort' c.2 (min (size-c.2) minrun) found
    if(!b)=true then pure (.done (some (),c.2)) else aBH c.2 (min (size-c.2) minrun) size
   else aBH c.2 found size
  |_=>pure<|.done (some (),c.2)
noncomputable def aLe:SM (ForInStep<|Option Unit×Unit):=do
 let s <-get
 if(AC s).size<=1 then pure (.done (none,()))
 else do
  let b <-mergeAt' (if((if(AC s).size-2>0 then(AC s)[(AC s).size-2-1]?.map (·.2.1) else none).any (·<((AC s)[(AC s).size-2+1]?.elim 0 (·.2.1))))=true then(AC s).size-2-1 else(AC s).size-2)
  if(!b)=true then pure (.done (some (),())) else pure (.yield (none,()))
noncomputable def srM:SM Unit:=do
 let s <-get
 let c <-forIn [:(AK s).size] ((none,0):Option Unit×Nat) λ_ c=>aHn (AK s).size (minRun' (AK s).size (AK s).size 0) c
 match c.1 with
 |some r=>pure r
 |none=>do
  let d <-forIn [:(AK s).size] ((none,()):Option Unit×Unit) λ_ _=>aLe
  match d.1 with
  |some r=>pure r
  |none=>pure ()
theorem aLv:sortRuns'=srM:=by kernel_rfl
variable {xs:Array AH}
theorem aDi{i j t:Nat}(h:i+t<j)(hj:j<=xs.size):rkA r (xs.extract i j) t=rkA r xs (i+t):=by refine iF ?_;rw[Array.getElem?_extract,if_pos<|by omega]
theorem aHw(sa t:Nat):∀ (l:List AH) (n:Nat) (xs:Array AH),sa+n+l.length<=xs.size->((l.zipIdx n).foldl (λa (q:AH×Nat)=>a.setIfInBounds (sa+q.2) q.1) xs)[t]? =if sa+n<=t/\t<sa+n+l.length then l[t-(sa+n)]? else xs[t]?
 |[],n,xs,_=>by rw[if_neg<|by rw[gW];omega];rfl
 |p::l,n,xs,h=>by
  rw[cM] at h
  have S:(xs.setIfInBounds (sa+n) p)[t]? =if sa+n=t then some p else xs[t]? :=by
   rw[yU]
   by_cases e:sa+n=t
   ·rw[if_pos e,if_pos e,if_pos<|by omega]
   ·rw[if_neg e,if_neg e]
  rw[vP,aKs,aHw sa t l (n+1) _ (by rw[Array.size_setIfInBounds];omega),cM,S]
  by_cases e:sa+n=t
  ·rw[if_neg (show ¬ (sa+(n+1)<=t/\t<sa+(n+1)+l.length) by omega),if_pos e,if_pos (show sa+n<=t/\t<sa+n+(l.length+1) by omega),show t-(sa+n)=0 by omega];rfl
  ·by_cases q:sa+(n+1)<=t/\t<sa+(n+1)+l.length
   ·rw[if_pos q,if_pos (show sa+n<=t/\t<sa+n+(l.length+1) by omega),show t-(sa+n)=t-(sa+(n+1))+1 by omega,List.getElem?_cons_succ]
   ·rw[if_neg q,if_neg e,if_neg (show ¬ (sa+n<=t/\t<sa+n+(l.length+1)) by omega)]
theorem aLi{sa:Nat}{m:Array AH}(h:sa+m.size<=xs.size)(t:Nat):(wbA sa m xs)[t]? =if sa<=t/\t<sa+m.size then m[t-sa]? else xs[t]? :=by have:=aHw sa t m.toList 0 xs (by simpa using h);unfold wbA;rw[this];simp
theorem aJv{sa:Nat}{m:Array AH}(h:sa+m.size<=xs.size):(wbA sa m xs).toList=xs.toList.take sa++(m.toList++xs.toList.drop (sa+m.size)):=by
 apply uP;intro t;rw[eY,aLi h];have l1:(xs.toList.take sa).length=sa:=by rw[cW];simp;omega
 by_cases h1:t<sa
 ·rw[if_neg<|by omega,fP (by rw[l1];exact h1),aBn h1,eY]
 ·rw[fI (by rw[l1];omega),l1]
  by_cases h2:t<sa+m.size
  ·rw[if_pos ⟨by omega,h2⟩,fP (by simp;omega),eY]
  ·rw[if_neg<|by omega,fI (by simp;omega),List.getElem?_drop,dI];rw[show sa+m.size+(t-sa-m.size)=t by omega,eY]
theorem aCB{sa n:Nat}(h:sa+n<=xs.size):xs.toList=xs.toList.take sa++((xs.extract sa<|sa+n).toList++xs.toList.drop (sa+n)):=by
 rw[dU,cR,show sa+n-sa=n by omega];have e:xs.toList.drop (sa+n)=(xs.toList.drop sa).drop n:=by rw[aMD]
 rw[e,gM,gM]
theorem aJA{sa:Nat}{m:Array AH}(h:sa+m.size<=xs.size)(hp:m.toList.Perm (xs.extract sa<|sa+m.size).toList):(wbA sa m xs).Perm xs:=by apply gJ.mpr;rw[aJv h];refine List.Perm.trans ?_<|List.Perm.of_eq (aCB (xs:=xs) h).symm;exact List.Perm.append_left _<|List.Perm.append_right _ hp
theorem aJm{i j k:Nat}(h1:i<=j)(h2:j<=k)(h3:k<=xs.size):(xs.extract i j).toList++(xs.extract j k).toList=(xs.extract i k).toList:=by simp only[dU,cR];rw[show k-i=(j-i)+(k-j) by omega,List.take_add,aMD,show i+(j-i)=j by omega]
theorem aJI{st2:BP}{Q:PUnit->BP->Prop}(h:Q ⟨⟩ st2):wpS (AF prog w) A E s (set st2:StateT BP Sem PUnit) Q st:=by unfold wpS;rw[StateT.run_set];exact AB ⟨rfl,h⟩
theorem aBf{i sa pw sb pw':Nat}{Q:Bool->BP->Prop}(K:lW prog w A E s κ r a₀)(hB:SB κ a₀ st)(p1:(AC st)[i]? =some (sa,na,pw))(p2:(AC st)[i+1]? =some (sb,nb,pw'))(hs:sb=sa+na)(n1:1<=na)(n2:1<=nb)(hz:sb+nb<=a₀.size)
  (A1:AscR r (AK st) sa sb) (A2:AscR r (AK st) sb (sb+nb))
  (h:∀st',SB κ a₀ st'->AC st'=((AC st).setIfInBounds i (sa,na+nb,pw)).eraseIdxIfInBounds (i+1)->(∀k,k<sa\/sb+nb<=k->(AK st')[k]? =(AK st)[k]?)->AscR r (AK st') sa (sb+nb)->Q true st'):wpS (AF prog w) A E s (mergeAt' i) Q st:=by
 have sz:=hB.size;have mem:∀x∈(AK st).toList,x∈a₀.toList:=λx hx=>(gJ.mp hB.perm).mem_iff.mp hx
 rw[aMz];unfold mgA;refine AE<|wpS_get ?_;rw[p1,p2];dsimp only;refine AE<|aJI ?_;have hB1:SB κ a₀ (BB st (((AC st).setIfInBounds i (sa,na+nb,pw)).eraseIdxIfInBounds<|i+1)):=⟨hB.perm,hB.kind,hB.failed⟩
 have h1:∀st',SameG (BB st (((AC st).setIfInBounds i (sa,na+nb,pw)).eraseIdxIfInBounds<|i+1)) st'->AscR r (AK st) sa (sb+nb)->Q true st':=λst' S a=>by refine h st' ⟨by rw[S.arr];exact hB.perm,by rw[S.kind];exact hB.kind,by rw[S.failed];exact hB.failed⟩ S.pend (λk _=>by rw[S.arr]) ?_;rw[S.arr];exact a
 have hsb:sb<(AK st).size:=by omega
 refine AE<|eG hsb (AE<|qP K hB1.kind mem (mem _<|by simp) (by omega) (by omega) (by rw[<-hs];exact A1) (λj hj e=> ?_) λk c1 c2 c3=> ?_)
 ·rw[<-eE (r:=r) hsb] at e;exact hB.ne K (i:=sa+j) (j:=sb) (by omega) (by omega) (by omega) e
 rw[<-eE (r:=r) hsb] at c2 c3
 have c2':∀j,sa<=j->j<sa+k->rkA r (AK st) j<rkA r (AK st) sb:=λj j1 j2=>by
  have:=c2 (j-sa)<|by omega
  rwa[show sa+(j-sa)=j by omega] at this
 have c3':∀j,sa+k<=j->j<sb->rkA r (AK st) sb<rkA r (AK st) j:=λj j1 j2=>by
  have:=c3 (j-sa) (by omega)<|by omega
  rwa[show sa+(j-sa)=j by omega] at this
 have A2l:∀j,sb<=j->j<sb+nb->rkA r (AK st) sb<=rkA r (AK st) j:=λj j1 j2=>by
  by_cases e:j=sb
  ·rw[e];exact aG _
  ·exact cZ<|A2 sb j (aG _) (by omega) j2
 dsimp only;unfold mgB
 by_cases e0:na-k=0
 ·rw[if_pos<|by simpa using e0];refine AJ (h1 _ (.refl _) λi j i1 ij j1=> ?_)
  by_cases q1:j<sb
  ·exact A1 i j i1 ij q1
  ·by_cases q2:i<sb
   ·exact aW (c2' i i1<|by omega)<|A2l j (by omega) j1
   ·exact A2 i j (by omega) ij j1
 ·rw[if_neg<|by simpa using e0];have ekn:sa+k+(na-k)-1=sb-1:=by omega
  have hkb:sb-1<(AK st).size:=by omega
  rw[ekn];refine AE<|eG hkb (AE<|qP K hB1.kind mem (mem _<|by simp) (by omega) (by omega) A2 (λj hj e=> ?_) λn2' d1 d2 d3=> ?_)
  ·rw[<-eE (r:=r) hkb] at e;exact hB.ne K (i:=sb+j) (j:=sb-1) (by omega) (by omega) (by omega) e
  rw[<-eE (r:=r) hkb] at d2 d3
  have d2':∀j,sb<=j->j<sb+n2'->rkA r (AK st) j<rkA r (AK st) (sb-1):=λj j1 j2=>by
   have:=d2 (j-sb)<|by omega
   rwa[show sb+(j-sb)=j by omega] at this
  have d3':∀j,sb+n2'<=j->j<sb+nb->rkA r (AK st) (sb-1)<rkA r (AK st) j:=λj j1 j2=>by
   have:=d3 (j-sb) (by omega)<|by omega
   rwa[show sb+(j-sb)=j by omega] at this
  have n2p:n2'≠0:=λz=>by subst z;have a:=d3' sb (by omega) (by omega);have b:=c3' (sb-1) (by omega) (by omega);omega
  dsimp only;rw[if_neg<|by simpa using n2p];unfold mgC
  have M:MPre r a₀ ((AK st).extract (sa+k) sb) ((AK st).extract sb<|sb+n2'):=by
   have s1:((AK st).extract (sa+k) sb).size=sb-(sa+k):=by rw[jU];omega
   have s2:((AK st).extract sb<|sb+n2').size=n2':=by rw[jU];omega
   have e1:∀t,t<sb-(sa+k)->rkA r ((AK st).extract (sa+k) sb) t=rkA r (AK st) (sa+k+t):=λt ht=>aDi (by omega)<|by omega
   have e2:∀t,t<n2'->rkA r ((AK st).extract sb<|sb+n2') t=rkA r (AK st) (sb+t):=λt ht=>aDi (by omega)<|by omega
   refine⟨by omega,by omega,λi j _ ij j1=> ?_,λi j _ ij j1=> ?_,λx hx=> ?_,λx hx=> ?_,λi j i1 j1=> ?_, ?_, ?_⟩
   ·rw[s1] at j1;rw[e1 i<|by omega,e1 j j1];exact A1 _ _ (by omega) (by omega)<|by omega
   ·rw[s2] at j1;rw[e2 i<|by omega,e2 j j1];exact A2 _ _ (by omega) (by omega)<|by omega
   ·rw[dU,cR] at hx;exact mem x (iX<|iY hx)
   ·rw[dU,cR] at hx;exact mem x (iX<|iY hx)
   ·rw[s1] at i1;rw[s2] at j1;rw[e1 i i1,e2 j j1];exact hB.ne K (by omega) (by omega)<|by omega
   ·rw[e1 0<|by omega,e2 0<|by omega];exact c3' _ (by omega)<|by omega
   ·rw[s1,s2,e1 _<|by omega,e2 _<|by omega,show sa+k+(sb-(sa+k)-1)=sb-1 by omega];exact d2' _ (by omega)<|by omega
  have fin:∀out st',MD r ((AK st).extract (sa+k) sb) ((AK st).extract sb (sb+n2')) out.toList→SameG (BB st (((AC st).setIfInBounds i (sa,na+nb,pw)).eraseIdxIfInBounds (i+1))) st'→wpS (AF prog w) A E s (do
    modify λs=>setArr s (wbA (sa+k) out<|AK s)
    let s <-get
    pure (failedOf s).isNone) Q st':=λout st' D S=>by
   refine AE (BA<|AE (wpS_get<|AJ ?_))
   have ep:out.toList.Perm ((AK st).extract (sa+k)<|sb+n2').toList:=by
    have:=D.1
    rwa[aJm (by omega) (by omega)<|by omega] at this
   have sO:out.size=sb+n2'-(sa+k):=by have:=ep.length_eq;rw[dI,dI,jU] at this;omega
   have hz2:sa+k+out.size<=(AK st).size:=by omega
   have ep2:out.toList.Perm ((AK st).extract (sa+k)<|sa+k+out.size).toList:=by rw[sO,show sa+k+(sb+n2'-(sa+k))=sb+n2' by omega];exact ep
   have ff:failedOf (setArr st' (wbA (sa+k) out<|AK st'))=none:=by show failedOf st'=none;rw[S.failed];exact hB.failed
   rw[ff];have arr':AK st'=AK st:=S.arr
   have at_:∀t,(AK<|setArr st' (wbA (sa+k) out<|AK st'))[t]? =if sa+k<=t/\t<sb+n2' then out[t-(sa+k)]? else(AK st)[t]? :=λt=>by show(wbA (sa+k) out<|AK st')[t]? =_;rw[arr',aLi hz2,sO,show sa+k+(sb+n2'-(sa+k))=sb+n2' by omega]
   refine h _ ⟨?_, ?_,ff⟩ ?_ (λt ht=>by rw[at_,if_neg<|by omega]) ?_
   ·show(wbA (sa+k) out<|AK st').Perm a₀;rw[arr'];exact(aJA hz2 ep2).trans hB.perm
   ·show kindOf st'=κ;rw[S.kind];exact hB.kind
   ·show AC st'=_;rw[S.pend]
   ·have rin:∀t,sa+k<=t->t<sb+n2'->rkA r (AK<|setArr st' (wbA (sa+k) out<|AK st')) t=rkA r out (t-(sa+k)):=λt t1 t2=>iF (by rw[at_,if_pos ⟨t1,t2⟩])
    have rout:∀t,t<sa+k\/sb+n2'<=t->rkA r (AK<|setArr st' (wbA (sa+k) out<|AK st')) t=rkA r (AK st) t:=λt ht=>iF (by rw[at_,if_neg<|by omega])
    have mo:∀u,u<out.size->∃v,sa+k<=v/\v<sb+n2'/\rkA r out u=rkA r (AK st) v:=λu hu=>by
     have hm:out[u]∈((AK st).extract (sa+k)<|sb+n2').toList:=ep.mem_iff.mp (by simp);obtain⟨v,hv,ev⟩:=eW hm
     have hv':v<sb+n2'-(sa+k):=by have:=hv;rw[dI,jU] at this;omega
     refine⟨sa+k+v,by omega,by omega, ?_⟩;rw[eE hu,<-ev,<-aDi (xs:=AK st) (i:=sa+k) (j:=sb+n2') (t:=v) (by omega) (by omega)];rw[eE<|by rw[jU];omega];simp
    have asO:∀u v,u<v->v<out.size->rkA r out u<rkA r out v:=λu v uv hv=>by have:=(jH.mp D.2) u v (by simp;omega) (by simpa using hv) uv;rw[eE<|by omega,eE hv];simpa using this
    have low:∀t u,sa<=t->t<sa+k->u<out.size->rkA r (AK st) t<rkA r out u:=λt u t1 t2 hu=>by
     obtain⟨v,v1,v2,ev⟩:=mo u hu;rw[ev]
     by_cases q:v<sb
     ·exact A1 t v t1 (by omega) q
     ·exact aW (c2' t t1 t2) (A2l v (by omega)<|by omega)
    have high:∀t u,sb+n2'<=t->t<sb+nb->u<out.size->rkA r out u<rkA r (AK st) t:=λt u t1 t2 hu=>by
     obtain⟨v,v1,v2,ev⟩:=mo u hu;rw[ev]
     by_cases q:v<sb
     ·refine cB ?_ (d3' t t1 t2)
      by_cases e:v=sb-1
      ·rw[e];exact aG _
      ·exact cZ (A1 v (sb-1) (by omega) (by omega)<|by omega)
     ·exact A2 v t (by omega) (by omega) t2
    intro u v u1 uv v1
    by_cases q1:u<sa+k
    ·rw[rout u<|.inl q1]
     by_cases q2:v<sa+k
     ·rw[rout v<|.inl q2];exact A1 u v u1 uv<|by omega
     ·by_cases q3:v<sb+n2'
      ·rw[rin v (by omega) q3];exact low _ _ u1 q1<|by omega
      ·rw[rout v (.inr<|by omega)];exact aW (c2' u u1 q1)<|A2l v (by omega) v1
    ·by_cases q2:u<sb+n2'
     ·rw[rin u (by omega) q2]
      by_cases q3:v<sb+n2'
      ·rw[rin v (by omega) q3];exact asO _ _ (by omega)<|by omega
      ·rw[rout v (.inr<|by omega)];exact high _ _ (by omega) v1<|by omega
     ·rw[rout u (.inr<|by omega),rout v (.inr<|by omega)];exact A2 u v (by omega) uv v1
  dsimp only
  split
  ·exact AE<|aBg K hB1.kind M fin
  ·exact AE<|aBj K hB1.kind M fin
noncomputable def Runs(r:AH->Nat)(xs:Array AH):Nat->List (Nat×Nat×Nat)->Nat->Prop
 |s,[],e=>s=e
 |s,p::l,e=>p.1=s/\1<=p.2.1/\AscR r xs s (s+p.2.1)/\Runs r xs (s+p.2.1) l e
variable {ys:Array AH}
theorem AscR.keep{s e:Nat}(h:AscR r xs s e)(k:∀t,s<=t->t<e->ys[t]? =xs[t]?):AscR r ys s e:=λi j hi hij hj=>by rw[iF (k i hi<|by omega),iF<|k j (by omega) hj];exact h i j hi hij hj
theorem Runs.le:∀ {l:List (Nat×Nat×Nat)}{s e:Nat},Runs r xs s l e->s+l.length<=e
 |[],s,e,h=>by rw[show s=e from h];exact aG _
 |p::l,s,e,⟨_,h1,_,h2⟩=>by have:=h2.le;rw[cM];omega
theorem Runs.keep:∀ {l:List (Nat×Nat×Nat)}{s e:Nat},Runs r xs s l e->(∀t,s<=t->t<e->ys[t]? =xs[t]?)->Runs r ys s l e
 |[],_,_,h,_=>h
 |p::l,s,e,⟨h0,h1,h2,h3⟩,k=>by have:=h3.le;exact⟨h0,h1,h2.keep λt t1 t2=>k t t1<|by omega,h3.keep λt t1 t2=>k t (by omega) t2⟩
theorem Runs.split:∀ {l1 l2:List (Nat×Nat×Nat)}{s e:Nat},Runs r xs s (l1++l2) e->∃m,Runs r xs s l1 m/\Runs r xs m l2 e
 |[],l2,s,e,h=>⟨s,rfl,h⟩
 |p::l1,l2,s,e,⟨h0,h1,h2,h3⟩=>by obtain⟨m,a,b⟩:=Runs.split h3;exact⟨m,⟨h0,h1,h2,a⟩,b⟩
theorem Runs.app:∀ {l1 l2:List (Nat×Nat×Nat)}{s m e:Nat},Runs r xs s l1 m->Runs r xs m l2 e->Runs r xs s (l1++l2) e
 |[],l2,s,m,e,h,h2=>by rw[show s=m from h];exact h2
 |p::l1,l2,s,m,e,⟨h0,h1,h2,h3⟩,b=>⟨h0,h1,h2,Runs.app h3 b⟩
theorem Runs.pow{l1:List (Nat×Nat×Nat)}{x y:Nat×Nat×Nat}{s e:Nat}(h:Runs r xs s (l1++[x]) e)(h1:y.1=x.1)(h2:y.2.1=x.2.1):Runs r xs s (l1++[y]) e:=by obtain⟨m,a,b⟩:=h.split;refine a.app ?_;obtain⟨b0,b1,b2,b3⟩:=b;exact⟨h1.trans b0,by rw[h2];exact b1,by rw[h2];exact b2,by rw[h2];exact b3⟩
theorem aHx{p:Pnd}{i:Nat}(h:i+1<p.size)(v:Nat×Nat×Nat):p.toList=p.toList.take i++p[i]::p[i+1]::p.toList.drop (i+2)/\((p.setIfInBounds i v).eraseIdxIfInBounds<|i+1).toList=p.toList.take i++v::p.toList.drop (i+2):=by
 have e1:p.toList=p.toList.take i++p[i]::p[i+1]::p.toList.drop (i+2):=by
  have a:p.toList.drop i=p[i]::p.toList.drop (i+1):=by rw[jG<|by simp;omega];simp
  have b:p.toList.drop (i+1)=p[i+1]::p.toList.drop (i+1+1):=by rw[jG<|by simp;omega];simp
  rw[<-b,<-a,gM]
 refine⟨e1, ?_⟩;have l1:(p.toList.take i).length=i:=by rw[cW];simp;omega
 rw[Array.toList_eraseIdxIfInBounds,Array.toList_setIfInBounds];generalize p.toList.take i=u at e1 l1;generalize p.toList.drop (i+2)=z at e1;rw[e1];rw[List.set_append_right _ _<|by omega,l1,qL,List.set_cons_zero,List.eraseIdx_append_of_length_le<|by omega,l1,show i+1-i=1 by omega];rfl
theorem aDP{i e:Nat}{Q:Bool->BP->Prop}(K:lW prog w A E s κ r a₀)(hB:SB κ a₀ st)(R:Runs r (AK st) 0 (AC st).toList e)(he:e<=a₀.size)(hi:i+1<(AC st).size)
  (h:∀st',SB κ a₀ st'->Runs r (AK st') 0 (AC st').toList e->(AC st').size+1=(AC st).size->(∀k,e<=k->(AK st')[k]? =(AK st)[k]?)->Q true st'):wpS (AF prog w) A E s (mergeAt' i) Q st:=by
 obtain⟨e1,_⟩:=aHx hi (0,0,0);have R0:=R;rw[e1] at R0;obtain⟨m,R1,a1,a2,a3,b1,b2,b3,R2⟩:=R0.split
 have h1:(AC st)[i]? =some (m,(AC st)[i].2.1,(AC st)[i].2.2):=by rw[getElem?_pos _ i<|by omega];refine congrArg some ?_;rw[<-a1]
 have h2:(AC st)[i+1]? =some (m+(AC st)[i].2.1,(AC st)[i+1].2.1,(AC st)[i+1].2.2):=by rw[getElem?_pos _ (i+1)<|by omega];refine congrArg some ?_;rw[<-b1]
 have l2:=R2.le;have l1:=R1.le;refine aBf K hB h1 h2 rfl a2 b2 (by omega) a3 b3 λst' hB' hp hk ha=> ?_
 obtain⟨_,e2⟩:=aHx hi (m,(AC st)[i].2.1+(AC st)[i+1].2.1,(AC st)[i].2.2);have ep:(AC st').toList=(AC st).toList.take i++(m,(AC st)[i].2.1+(AC st)[i+1].2.1,(AC st)[i].2.2)::(AC st).toList.drop (i+2):=by rw[hp];exact e2
 refine h st' hB' ?_ ?_ λk hk2=>hk k (.inr<|by omega)
 ·rw[ep];refine(R1.keep λt _ t2=>hk t<|.inl t2).app ⟨rfl,by show 1<=_+_;omega, ?_, ?_⟩
  ·show AscR r (AK st') m (m+(_+_));rw[<-aOn];exact ha
  ·show Runs r (AK st') (m+(_+_)) _ e;rw[<-aOn];exact R2.keep λt t1 _=>hk t<|.inr t1
 ·have:=congrArg yP ep;have q:=congrArg yP e1;simp only[dI,bR,cM] at this q;omega
structure SR(κ:Aq)(r:AH->Nat)(a₀:Array AH)(lo:Nat)(st:BP):Prop where
 sb:SB κ a₀ st
 runs:Runs r (AK st) 0 (AC st).toList lo
theorem aBL{lo n:Nat}{Q:ForInStep (Option Unit×Nat)->BP->Prop}(K:lW prog w A E s κ r a₀)(S:SR κ r a₀ lo st)(n1:1<=n)(hn:lo+n<=a₀.size)(ha:AscR r (AK st) lo (lo+n))(h:∀st',SR κ r a₀ (lo+n) st'->Q (.yield (none,lo+n)) st'):wpS (AF prog w) A E s (aBH lo n a₀.size) Q st:=by
 unfold aBH;refine AE<|wpS_get ?_
 have fin:∀st',SR κ r a₀ lo st'->AscR r (AK st') lo (lo+n)->SR κ r a₀ (lo+n) (BB st'<|(AC st').push (lo,n,0)):=λst' S' ha'=>by refine⟨⟨S'.sb.perm,S'.sb.kind,S'.sb.failed⟩, ?_⟩;show Runs r (AK st') 0 ((AC st').push (lo,n,0)).toList (lo+n);rw[iK];exact S'.runs.app ⟨rfl,n1,ha',rfl⟩
 cases hb:(AC st).back? with
 |none=>exact AE (BA<|AJ (h _<|fin st S ha))
 |some p=>
  obtain⟨s1,n1',p1⟩:=p;dsimp only;generalize power' a₀.size (2*s1+n1') (2*s1+n1'+n1'+n) a₀.size=pw
  have ne0:1<=(AC st).size:=by
   rcases Nat.eq_zero_or_pos (AC st).size with z|z
   ·rw[Array.eq_empty_of_size_eq_zero z] at hb;cases hb
   ·exact z
  refine AE<|AZ (AT (I:=λ_ c st'=>c=(none,())/\SR κ r a₀ lo st'/\1<=(AC st').size/\AscR r (AK st') lo (lo+n)) (Q:=λc st'=>c=(none,())/\SR κ r a₀ lo st'/\1<=(AC st').size/\AscR r (AK st') lo (lo+n)) ?step (λ_ _ z=>z) ⟨rfl,S,ne0,ha⟩) ?post
  case step=>
   rintro x c st' _ hx ⟨rfl,S',ne',ha'⟩;unfold aOL;refine AE<|wpS_get ?_
   by_cases q:(AC st').size>1
   ·rw[if_pos q,getElem?_pos _ _<|by omega];dsimp only
    split
    ·exact AJ ⟨rfl,S',ne',ha'⟩
    ·refine AE<|aDP K S'.sb S'.runs (by omega) (by omega) λst'' hB hr hs hk=> ?_;rw[if_neg<|by decide];exact AJ ⟨rfl,⟨hB,hr⟩,by omega,ha'.keep λt t1 _=>hk t t1⟩
   ·rw[if_neg q];exact AJ ⟨rfl,S',ne',ha'⟩
  case post=>
   rintro c st' ⟨rfl,S',ne',ha'⟩;dsimp only;refine AE (BA<|AE (BA<|AJ (h _<|fin (BB st'<|(AC st').modify ((AC st').size-1) λ(x:Nat×Nat×Nat)=>(x.1,x.2.1,pw)) ⟨⟨S'.sb.perm,S'.sb.kind,S'.sb.failed⟩, ?_⟩ ha')));show Runs r (AK st') 0 ((AC st').modify ((AC st').size-1) λ(x:Nat×Nat×Nat)=>(x.1,x.2.1,pw)).toList lo
   have hl:(AC st').toList≠[]:=λz=>by have:=congrArg yP z;rw[dI,gW] at this;omega
   have e1:=(yX hl).symm;have R:=S'.runs;rw[e1] at R
   have e2:((AC st').modify ((AC st').size-1) λ(x:Nat×Nat×Nat)=>(x.1,x.2.1,pw)).toList=(AC st').toList.dropLast++[(((AC st').toList.getLast hl).1,((AC st').toList.getLast hl).2.1,pw)]:=by
    apply uP;intro t;rw[eY,aCW];have ld:(AC st').toList.dropLast.length=(AC st').size-1:=by simp
    by_cases q:(AC st').size-1=t
    ·rw[if_pos q,fI (by rw[ld];omega),ld,q,qL,<-q];rw[List.getLast_eq_getElem];have:(AC st').size-1<(AC st').size:=by omega
     simp[this]
    ·rw[if_neg q]
     by_cases q2:t<(AC st').size-1
     ·rw[fP (by rw[ld];exact q2),List.getElem?_dropLast,if_pos (by simpa using q2),eY]
     ·rw[fI (by rw[ld];omega),ld];rw[kB<|by omega,cO<|by simp;omega]
   rw[e2];exact R.pow rfl rfl
theorem aFi{Q:Unit->BP->Prop}(K:lW prog w A E s κ r a₀)(hB:SB κ a₀ st)(hp:AC st= #[])(h:∀st',SB κ a₀ st'->AscR r (AK st') 0 a₀.size->Q () st'):wpS (AF prog w) A E s sortRuns' Q st:=by
 rw[aLv];unfold srM;refine AE<|wpS_get ?_;have sz:=hB.size;rw[sz];generalize minRun' a₀.size a₀.size 0=minrun;refine AE<|AZ (AT (I:=λx c st'=>∃lo,c=(none,lo)/\SR κ r a₀ lo st'/\lo<=a₀.size/\(x<=lo\/lo=a₀.size)) (Q:=λc st'=>c=(none,a₀.size)/\SR κ r a₀ a₀.size st') ?step ?fin ⟨0,rfl,⟨hB,by rw[hp];rfl⟩,bI _,.inl<|aG _⟩) ?post
 case fin=>
  rintro c st' ⟨lo,rfl,S,h1,h2⟩;have:lo=a₀.size:=by omega
  subst this;exact⟨rfl,S⟩
 case step=>
  rintro x c st' _ hx ⟨lo,rfl,S,h1,h2⟩;unfold aHn;dsimp only
  by_cases q:lo>=a₀.size
  ·rw[if_pos q];have:lo=a₀.size:=by omega
   subst this;exact AJ ⟨rfl,S⟩
  ·rw[if_neg q];refine AE<|aCE K S.sb (by omega) (by omega) λm st2 m1 m2 T ha=> ?_;have S2:SR κ r a₀ lo st2:=⟨T.sb,by rw[T.pend];exact S.runs.keep λt _ t2=>T.keep t<|.inl t2⟩;dsimp only
   by_cases z:m<minrun
   ·rw[if_pos z];refine AE (wpS_lift<|Az ⟨rfl, ?_⟩);refine AE<|aGW K S2.sb (by omega) (by omega) ha λst3 T3 ha3=> ?_;rw[if_neg<|by decide];refine aBL K ⟨T3.sb,by rw[T3.pend];exact S2.runs.keep λt _ t2=>T3.keep t<|.inl t2⟩ (by omega) (by omega) ha3 λst4 S4=>⟨_,rfl,S4,by omega,.inl<|by omega⟩
   ·rw[if_neg z];exact aBL K S2 m1 (by omega) ha λst4 S4=>⟨_,rfl,S4,by omega,.inl<|by omega⟩
 case post=>
  rintro c st' ⟨rfl,S⟩;dsimp only
  have pl:(AC st').size<=a₀.size:=by have:=S.runs.le;simpa using this
  refine AE<|AZ (AT (I:=λx c st''=>c=(none,())/\SR κ r a₀ a₀.size st''/\(AC st'').size<=a₀.size-x) (Q:=λc st''=>c=(none,())/\SR κ r a₀ a₀.size st''/\(AC st'').size<=1) ?step2 ?fin2 ⟨rfl,S,by omega⟩) ?post2
  case fin2=>rintro c st'' ⟨rfl,S,h1⟩;exact⟨rfl,S,by omega⟩
  case step2=>
   rintro x c st'' _ hx ⟨rfl,S,h1⟩;unfold aLe;refine AE<|wpS_get ?_
   by_cases q:(AC st'').size<=1
   ·rw[if_pos q];exact AJ ⟨rfl,S,q⟩
   ·rw[if_neg q];have go:∀i,i+1<(AC st'').size->wpS (AF prog w) A E s (mergeAt' i) (λb st'=>b=true/\SR κ r a₀ a₀.size st'/\(AC st').size<=a₀.size-(x+1)) st'':=λi hi=>aDP K S.sb S.runs (aG _) hi λst3 hB3 hr hs hk=>⟨rfl,⟨hB3,hr⟩,by omega⟩
    refine AE<|AZ (go _ ?_) λb st3 hb=> ?_
    ·have bd:∀c:Bool,(if c=true then(AC st'').size-2-1 else(AC st'').size-2)+1<(AC st'').size:=λc=>by
      cases c
      ·rw[if_neg<|by decide];omega
      ·rw[if_pos rfl];omega
     exact bd _
    ·obtain⟨rfl,S3,h3⟩:=hb;rw[if_neg<|by decide];exact AJ ⟨rfl,S3,h3⟩
  case post2=>
   rintro c st'' ⟨rfl,S,h1⟩;refine AJ<|h st'' S.sb ?_;have R:=S.runs;generalize e:(AC st'').toList=l at R;have ll:l.length<=1:=by rw[<-e];simpa using h1
   match l,ll with
   |[],_=>have:0=a₀.size:=R;intro i j _ _ hj;omega
   |[p],_=>obtain⟨_,_,b,c⟩:=R;have c:0+p.2.1=a₀.size:=c;rw[c] at b;exact b
structure TOk(w:AL)(es:List (Int×BH))(t:BQ)(ks:List Nat):Prop where
 fit:t.fits es.toArray.size=true
 pl:t.plain=true
 led:t.led= !byT w
 place:t.place=ks.toArray
 asc:ks.Pairwise (·<·)
 len:es.length=ks.length
noncomputable def soT(es:List (Int×BH))(ep:Nat)(t:BQ):BM:={cls:=.type "set",dict:=none,data:=.set es.toArray ep t}
theorem aLY{ks:List Nat}(h:ks.Pairwise (·<·))(hb:byT w=false)(i:Nat)(hi:i<=ks.length):eF ks.toArray (stK w ks i)=i:=by
 have e:ks=ks.take i++ks.drop i:=(gM i ks).symm;have l1:(ks.take i).length=i:=by rw[cW];omega
 have g:eF (ks.take i++ks.drop i).toArray (stK w ks i)=(ks.take i).length:=by
  have pw:=jH.mp h;refine lD (λx hx=> ?_) λx hx=> ?_
  ·obtain⟨j,hj,rfl⟩:=eW hx;have hj2:j<i:=by omega
   cases i with
   |zero=>omega
   |succ i=>
    have st:stK w ks (i+1)=ks.getD i 0+1:=by unfold stK;rw[hb];rfl
    rw[st,List.getElem_take];have hi':i<ks.length:=by omega
    have eg:ks.getD i 0=ks[i]:=by simp[bF,hi']
    show ks[j]<ks.getD i 0+1;rw[eg]
    by_cases q:j=i
    ·subst q;omega
    ·have:=pw j i (by omega) hi' (by omega);omega
  ·obtain⟨j,hj,rfl⟩:=eW hx;rw[pB] at hj;cases i with
   |zero=>
    have st:stK w ks 0=0:=by unfold stK;rw[hb];rfl
    rw[st];exact bI _
   |succ i=>
    have st:stK w ks (i+1)=ks.getD i 0+1:=by unfold stK;rw[hb];rfl
    rw[st,List.getElem_drop];have hi':i<ks.length:=by omega
    have eg:ks.getD i 0=ks[i]:=by simp[bF,hi']
    show ks.getD i 0+1<=_;rw[eg];exact pw i (i+1+j) hi' (by omega)<|by omega
 rw[<-e,l1] at g;exact g
theorem aNE{S:BJ}{es:List (Int×BH)}{ep i:Nat}{ks:List Nat}{tb:BQ}{Q:Option (BH×Nat)->BI->Prop}(hk:TOk w es tb ks)(ho:s.heap.get? S=some (soT es ep tb))(hi:i<=ks.length)(h:Q (((pM w S ep es)[i]?).map λe=>(e.2,stK w ks<|i+1)) s):
  AG (AF prog w) A (setNext S (stK w ks i) i ep) Q E s:=by
 unfold setNext;refine AA<|AM ho rfl (hk.fit) ?_;dsimp only;refine AA ?_;unfold setsByText;refine AA (Ab<|AB ?_);show AG _ _ (if byT w=true then _ else _) _ _ _;cases hb:byT w with
 |true=>
  simp only[if_true,bne_self_eq_false,aF,if_false];refine AA ?_;unfold setWalk;refine AA<|AM ho rfl (hk.fit) ?_;dsimp only;refine AA ?_;unfold setsByText;refine AA (Ab<|AB ?_);show AG _ _ (if byT w=true then _ else _) _ _ _;rw[hb];simp only[if_true];refine AA<|Ab (AB<|AB ?_);have e:pM w S ep es=(pickOrder (w.params.setOrder S ep) es.toArray).toList:=by unfold pM;rw[hb];rfl
  have e2:stK w ks i=stK w ks (i+1):=by unfold stK;rw[hb];rfl
  rw[e] at h;rw[e2];rw[eY] at h;exact h
 |false=>
  simp only[aF,if_false];have e:pM w S ep es=es:=by unfold pM;rw[hb];rfl
  have e2:eF tb.place (stK w ks i)=i:=by rw[hk.place];exact aLY hk.asc hb i hi
  have e3:((pM w S ep es)[i]?).map (fun e=>(e.2,stK w ks (i+1)))=(match es.toArray[i]?,tb.place[i]? with
     |some (_,x),some j=>some (x,j+1)
     |_,_=>none):=by
   have e4:stK w ks (i+1)=ks.getD i 0+1:=by unfold stK;rw[hb];rfl
   rw[e,e4];rw[hk.place]
   show _=(match es.toArray[i]?,ks.toArray[i]? with
     |some (_,x),some j=>some (x,j+1)
     |_,_=>none)
   by_cases h1:i<ks.length
   ·have h2:i<es.length:=by rw[hk.len];exact h1
    simp[h1,h2,bF]
   ·have h2:¬ i<es.length:=by rw[hk.len];exact h1
    simp[h1,h2]
  rw[e2];rw[e3] at h
  have r1:∀ (t t':Sem (Option<|BH×Nat)),AG (AF prog w) A t Q E s->AG (AF prog w) A (if(!tb.plain&&decide (es.toArray.size>1))=true then t' else t) Q E s:=λt t' ht=>by rw[hk.pl];exact ht
  refine r1 _ _ ?_;have led:tb.led=true:=by rw[hk.led,hb];rfl
  refine AA ?_
  wp_delta
  rw[led];exact AB<|AB h
theorem aLg{I S:BJ}{es:List (Int×BH)}{ep i:Nat}{ks:List Nat}{tb:BQ}{Q:Option BH->BI->Prop}(hk:TOk w es tb ks)(hI:s.heap.get? I=some (itK w S ks ep i))(ho:s.heap.get? S=some (soT es ep tb))(hi:i<=ks.length)
  (h:AG (AF prog w) A.in1 (match ((pM w S ep es)[i]?).map fun e=>(e.2,stK w ks (i+1)) with
       |some (x,next)=>do
        setField (Value.ref I) 0 (Al next)
        setField (Value.ref I) 1 (Al<|(i:Int)+1)
        ret x
       |none=>do
        setField (Value.ref I) 2 Value.none
        raiseNew (<-newExc (Value.type "StopIteration") [])) (λfin s'=>∃v,fin=Fin.done (Flow.ret v)/\AG (AF prog w) A (pure (some v)) Q E s')
  (λe s'=>AG (AF prog w) A (do if <-isInstance e (Value.type "StopIteration") then pure none else throw e) Q E s') s):AG (AF prog w) A (pyNext (.ref I)) Q E s:=by
 have hT:=aAc hI;unfold pyNext;refine AA (wpAny_attempt<|Ai (name:=Str.ofString "__next__") hT slot_sit_next (AY slot_sit_next hT wP ?_<|zK _));unfold Builtin.«set_iterator.__next__»;refine AA<|AB (AA<|wpAny_fieldsOf hI rfl ?_);dsimp only;show AG _ _ (setEntries S>>=λes=>if((es.size:Int) !=(ks.length:Int))=true then _ else(setNext S (stK w ks i:Int).toNat (i:Int).toNat (ep:Int).toNat>>=_)) _ _ _;refine AA ?_;unfold setEntries;refine AA (AM ho rfl (hk.fit)<|AB ?_);rw[if_neg<|by simp[hk.len]];rw[dG,dG,dG];exact AA<|aNE hk ho hi h
theorem aNn{I S:BJ}{es:List (Int×BH)}{ep i:Nat}{ks:List Nat}{tb:BQ}{c:Int}{v:BH}{Q:Option BH->BI->Prop}(hk:TOk w es tb ks)(hI:s.heap.get? I=some (itK w S ks ep i))(ho:s.heap.get? S=some (soT es ep tb))(hi:i<ks.length)(hv:(pM w S ep es)[i]? =some (c,v))
  (h:∀h',h'.get? I=some (itK w S ks ep<|i+1)->Heap.SameBut I s.heap h'->Q (some v) {s with heap:=h'}):AG (AF prog w) A (pyNext<|.ref I) Q E s:=by
 refine aLg hk hI ho (cZ hi) ?_;rw[hv];dsimp only[lA];refine AA<|At hI rfl (by simp) ?_;have g1:=cY (Obj.mapFields (·.setIfInBounds 0 (Al ((stK w ks (i+1):Nat):Int)))) hI rfl;refine AA (At (s:={s with heap:=s.heap.update I (Obj.mapFields (·.setIfInBounds 0 (Al ((stK w ks (i+1):Nat):Int))))}) g1 rfl (by simp) ?_);have g2:=cY (Obj.mapFields (·.setIfInBounds 1 (Al<|(i:Int)+1))) g1 rfl;refine AB ⟨v,rfl,AB<|h _ (g2.trans ?_) ((Heap.SameBut.update ..).trans<|Heap.SameBut.update ..)⟩;rfl
theorem endW{I S:BJ}{es:List (Int×BH)}{ep:Nat}{ks:List Nat}{tb:BQ}{Q:Option BH->BI->Prop}(hh:A.handled=none)(hk:TOk w es tb ks)(hI:s.heap.get? I=some (itK w S ks ep ks.length))(ho:s.heap.get? S=some (soT es ep tb))(ho2:(pM w S ep es).length=ks.length)
  (h:∀h',Heap.ExtBut I s.heap h'->Q none {s with heap:=h'}):AG (AF prog w) A (pyNext<|.ref I) Q E s:=by
 refine aLg hk hI ho (aG _) ?_;rw[cO<|by omega];dsimp only[lA];refine AA (At hI rfl (by simp)<|AA ?_);simp only[newExc,newTuple];refine AA (Ah (AA (m:=firstArgMember _ _)<|wpAny_of_eq (a:=Value.none) (by first|rfl|(simp only[firstArgMember];rfl)) (Ah ?_<|by size_fits))<|by size_fits);simp only[raiseNew];refine AA<|wpAny_handled ?_;rw[show A.in1.handled=none from hh];refine AA (AB<|wpAny_throw ?_);refine AA (BD (T:="StopIteration") (b:=true) ⟨_,bE _ rfl,rfl⟩ isSubtype_stop<|AB ?_);exact h _<|((Heap.SameBut.update ..).extBut.push _).push _
theorem aNy{S:BJ}{es:List (Int×BH)}{ep:Nat}{ks:List Nat}{tb:BQ}{Q:BH->BI->Prop}(hk:TOk w es tb ks)(ho:s.heap.get? S=some (soT es ep tb))
  (h:Q (.ref s.heap.objs.size) {s with heap:=s.heap.push (itK w S ks ep 0)}):AG (AF prog w) A (pyIter<|.ref S) Q E s:=by
 have hT:s.TypeIs (.ref S) "set":=⟨_,ho,rfl⟩;refine wpAny_pyIter_slot hT F.slot_set_iter (AY F.slot_set_iter hT aCM ?_<|F.args_set_iter_1 _);unfold Builtin.«frozenset.__iter__»;refine AA (AA<|AB (AB<|AA ?_));unfold Builtin.Frozenset.sizeOf setEntries;refine AA (AA<|AM ho rfl (hk.fit) (AB<|AB ?_));refine AA ?_;unfold setDrawn;refine AA<|AM ho rfl (hk.fit) ?_;dsimp only;refine AA ?_;unfold setsByText;refine AA<|Ab (AB<|AB ?_)
 have dr:∀ (b:Bool) (t t':Sem Fin) (Q:Fin->BI->Prop) (E:BH->BI->Prop),AG (AF prog w) A.in1 t' Q E s->AG (AF prog w) A.in1 (if(b&&(!tb.plain&&decide (es.toArray.size>1)))=true then t else t') Q E s:=λb t t' Q E ht=>by
  have:(b&&(!tb.plain&&decide (es.toArray.size>1)))=false:=by rw[hk.pl];simp
  rw[this];exact ht
 refine dr _ _ _ _ _ (AA<|AB (AA<|wpAny_setEpoch_of ho rfl (hk.fit) ?_));refine AA (Ah<|AB ⟨_,rfl,"set_iterator",_,⟨_,bE _ rfl,rfl⟩,slot_sit_next.lookup, ?_⟩);have e0:stK w ks 0=0:=by unfold stK;split<;>rfl
 have e:({cls:=Value.type "set_iterator",data:=.fields [Al 0,Al 0,Value.ref S,Al (es.toArray.size:Int),Al (ep:Int)].toArray}:BM)=itK w S ks ep 0:=by unfold itK;rw[e0];simp[hk.len]
 exact e▸h
theorem aBO{S:BJ}{ep:Nat}{es:List (Int×BH)}{ks:List Nat}{tb:BQ}(hk:TOk w es tb ks):(pM w S ep es).length=ks.length:=by rw[(aAb (w:=w) (S:=S) (ep:=ep) es).length_eq,hk.len]
theorem aLs(hh:A.handled=none){I S:BJ}{es:List (Int×BH)}{ep:Nat}{ks:List Nat}{tb:BQ}(hk:TOk w es tb ks)(hne:S≠I):
  Walks prog w A I [I,S] [I] ks.length (λi v=>∃c,(pM w S ep es)[i]? =some (c,v)) (λi h=>h.get? I=some (itK w S ks ep i)/\h.get? S=some (soT es ep tb)) where
 sub:=λb hb=>by simp at hb;simp[hb]
 frame:=λ_ _ _ st kp=>⟨kp I (by simp) _ st.1,kp S (by simp) _ st.2⟩
 item:=λi s Q E hi st k=>by
  have hi':i<(pM w S ep es).length:=by rw[aBO hk];exact hi
  obtain⟨⟨c,v⟩,hx⟩:∃p,(pM w S ep es)[i]? =some p:=⟨(pM w S ep es)[i],by simp[hi']⟩;refine aNn hk st.1 st.2 hi hx λh' g sb=>k v h' s.toks ⟨c,hx⟩ ⟨g, ?_⟩ λb o hb g=> ?_
  ·rw[sb.2 S hne];exact st.2
  ·rw[sb.2 b λz=>hb<|by simp[z]];exact g
 done:=λs Q E st k=>endW hh hk st.1 st.2 (aBO hk) λh' eb=>k h' s.toks λb o hb g=>eb b o (λz=>hb<|by simp[z]) g
 self:=λ_ _ _ _ st k=>aNQ st.1 k
theorem srcW{S:BJ}{es:List (Int×BH)}{ep:Nat}{ks:List Nat}{tb:BQ}(hk:TOk w es tb ks):PySem.W.KdlSrc prog w "set" S S ks.length (λi v=>∃c,(pM w S ep es)[i]? =some (c,v)) (λh=>h.get? S=some (soT es ep tb)) where
 type:=λ_ hm=>⟨_,hm,rfl⟩
 there:=λ_ hm=>⟨aM hm,aM hm⟩
 keep:=λ_ _ hm kp=>kp S (.inl rfl) _ hm
 notList:=by decide
 notTuple:=by decide
 hint:=λ_ _ _ _ hm q=>aOc ⟨_,hm,rfl⟩ q
 iter:=λ_ _ hh hm=>⟨_,_,(λ_ _ q=>aNy hk hm q),aLs hh hk (bQ<|aM hm),⟨bE _ rfl,aE _ hm⟩⟩
noncomputable def iM(h:BL)(a:BJ)(vs:List BH):BL:=((h.update a<|Obj.mapSeq λ_=> #[]).push<|seqObj "tuple" vs.toArray 0).push<|seqObj "list" #[] 0
theorem sG(vs:List BH):(vs.toArray.zip vs.toArray).toList=vs.map λv=>(v,v):=by
 rw[Array.toList_zip];show vs.zip vs=_
 induction vs with
 |nil=>rfl
 |cons v vs ih=>rw[iH,ih];rfl
theorem aJg{rk:BH->Nat}{vs:List BH}(nd:(vs.map rk).Nodup)(hask:∀x∈vs,∀y∈vs,∀ (Q:Bool->BI->Prop) (E':BH->BI->Prop),Q (decide<|rk x<rk y) s->AG (AF prog w) A (keyLt' κ x y) Q E' s):lW prog w A E s κ (λp=>rk p.1) (vs.toArray.zip vs.toArray):=by
 refine⟨λ{x y st Q} hx hy hk h=> ?_, ?_⟩
 ·rw[sG] at hx hy;obtain⟨u,hu,rfl⟩:=aH.mp hx;obtain⟨v,hv,rfl⟩:=aH.mp hy;rw[lt'_eq];refine AE<|wpS_get ?_;rw[hk];exact AE<|wpS_lift (wpAny_attempt<|hask u hu v hv _ _ ⟨rfl,AJ h⟩)
 ·rw[sG,aX];exact nd
theorem zL{a:BJ}{vs:List BH}{n:Nat}{rk:BH->Nat}{R:PySem.Fin->BI->Prop}(ho:s.heap.get? a=some (seqObj "list" vs.toArray n))(nd:(vs.map rk).Nodup)(hn:vs.length<=10000)
  (hkind:2<=vs.length->∀ (Q:Aq->BI->Prop),Q κ ⟨iM s.heap a vs,s.gens,s.drawn,s.toks,s.os⟩->AG (AF prog w) A (keyKind' vs.toArray) Q E ⟨iM s.heap a vs,s.gens,s.drawn,s.toks,s.os⟩)
  (hask:∀x∈vs,∀y∈vs,∀ (Q:Bool->BI->Prop) (E':BH->BI->Prop),Q (decide<|rk x<rk y) ⟨iM s.heap a vs,s.gens,s.drawn,s.toks,s.os⟩->AG (AF prog w) A (keyLt' κ x y) Q E' ⟨iM s.heap a vs,s.gens,s.drawn,s.toks,s.os⟩)
  (h:∀out:Array BH,out.toList.Perm vs->(out.toList.map rk).Pairwise (·<·)->R (.done<|.ret .none) {s with heap:=sortedHeap s.heap a vs out}):AG (AF prog w) A (Builtin.«list.sort» ⟨[.ref a],[]⟩) R E s:=by
 have lt:a<s.heap.objs.size:=aM ho;have sz:vs.toArray.size=vs.length:=by simp
 obtain⟨n0,g1⟩:∃n0,(s.heap.update a<|Obj.mapSeq λ_=> #[]).get? a=some (seqObj "list" #[] n0):=⟨_,get?_update_seq ho λ_=> #[]⟩
 have n1:a≠((s.heap.update a<|Obj.mapSeq λ_=> #[]).push<|seqObj "tuple" vs.toArray 0).objs.size:=by rw[size_push',aKh];exact bQ<|aKf lt
 have n2:a≠(s.heap.update a<|Obj.mapSeq λ_=> #[]).objs.size:=by rw[aKh];exact bQ lt
 have g6:(iM s.heap a vs).get? a=some (seqObj "list" #[] n0):=by unfold iM;rw[aIr _ _ _ n1,aIr _ _ _ n2,g1]
 rw[list_sort_plain];refine AA (listItems_at ho rfl<|AA (listUpdate_at ho rfl (AA (seqEpoch_at g1 rfl<|AA (wpAny_newTuple (AA (wpAny_newList (AS ?_)<|bI _))<|by show vs.length<=_;rw[AU];omega))) (by rw[sz,AU];omega)<|bI _));show AG (AF prog w) A _ R E ⟨iM s.heap a vs,s.gens,s.drawn,s.toks,s.os⟩;dsimp only
 by_cases h2:vs.toArray.size<2
 ·rw[if_pos h2,if_pos h2];refine AA<|AB ?_;rw[StateT.run_pure];refine AA (AB (AA<|seqEpoch_at g6 rfl (AA<|listUpdate_at g6 rfl ?_ (bI _) ?_)))
  ·simp only[bne_self_eq_false,if_false,aF];refine AB ?_
   have e:Array.map (λ(x:AH)=>x.2) (AK<|SortSt.mk' general' (vs.toArray.zip vs.toArray) #[] 7 none)=vs.toArray:=by apply oW.mp;rw[uV];show(vs.toArray.zip vs.toArray).toList.map _=vs;rw[sG,aX];exact oA _
   rw[e];refine h vs.toArray (.refl _) ?_;rw[sz] at h2
   match vs,h2 with
   |[],_=>exact .nil
   |[v],_=>exact pG _ _
  ·show(Array.map _<|vs.toArray.zip vs.toArray).size<=_;rw[Array.size_map,Array.size_zip,sz,AU];omega
 ·rw[if_neg h2,if_neg h2];rw[sz] at h2;refine AA<|hkind (by omega) _ ?_;have K:lW prog w A E ⟨iM s.heap a vs,s.gens,s.drawn,s.toks,s.os⟩ κ (λp=>rk p.1) (vs.toArray.zip vs.toArray):=aJg nd hask;refine AA<|AW (aFi (Q:=λ_ st'=>SB κ (vs.toArray.zip vs.toArray) st'/\AscR (λp=>rk p.1) (AK st') 0 (vs.toArray.zip vs.toArray).size) K (st:=SortSt.mk' κ (vs.toArray.zip vs.toArray) #[] 7 none) ⟨Array.Perm.refl _,rfl,rfl⟩ rfl λst' b c=>⟨b,c⟩) ?_ λ_ _ z=>z;rintro⟨⟨⟩,st'⟩ s' ⟨rfl,hB,hA⟩;dsimp only
  have pm:(AK st').toList.Perm (vs.map λv=>(v,v)):=by
   have:=gJ.mp hB.perm
   rwa[sG] at this
  have p2:((AK st').map (·.2)).toList.Perm vs:=by rw[uV];have:=pm.map (·.2);rw[aX] at this;exact this.trans (List.Perm.of_eq<|oA _)
  have sO:((AK st').map (·.2)).size=vs.length:=by
   have:=p2.length_eq
   rwa[dI] at this
  refine AA<|seqEpoch_at g6 rfl (AA<|listUpdate_at g6 rfl ?_ (bI _) ?_)
  ·rw[hB.failed];simp only[bne_self_eq_false,if_false,aF];refine AB<|h _ p2 ?_;rw[uV,aX,jH];intro i j hi hj hij;rw[aA,dI] at hi hj;have q:=hA i j (bI _) hij (by rw[<-hB.size];exact hj);rw[eE hi,eE hj] at q
   have d:∀p∈(AK st').toList,p.1=p.2:=λp hp=>by obtain⟨v,_,rfl⟩:=aH.mp<|pm.mem_iff.mp hp;rfl
   rw[lI,lI];have d1:=d (AK st')[i] (by simp);have d2:=d (AK st')[j] (by simp);rw[d1,d2] at q;simpa using q
  ·rw[sO,AU];omega
theorem TupAt1.inj{h:BL}{v:BH}{x y:List Int}(a:TupAt1 h v x)(b:TupAt1 h v y):x=y:=by
 obtain⟨a1,o,n,its,rfl,g,c,d,i1,_⟩:=a;obtain⟨a2,o2,n2,its2,e,g2,c2,d2,i2,_⟩:=b;cases e;rw[g] at g2;cases g2;rw[d] at d2
 have e2:its=its2:=by
  injection d2 with q
  simpa using q
 subst e2
 have f:∀ {vs:List BH}{x y:List Int},IntsAre vs x->IntsAre vs y->x=y:=λ{vs}=>by
  induction vs with
  |nil=>intro x y p q;cases p;cases q;rfl
  |cons v vs ih=>
   intro x y p q;cases p with
   |cons n t p=>cases q with
    |cons m u q=>rw[ih p q]
 exact f i1 i2
noncomputable def rkV(h:BL)(rk:List Int->Nat)(v:BH):Nat:=open Classical in if q:∃x,TupAt1 h v x then rk (Classical.choose q) else 0
theorem aDo{h:BL}{rk:List Int->Nat}{v:BH}{x:List Int}(a:TupAt1 h v x):rkV h rk v=rk x:=by unfold rkV;have q:∃x,TupAt1 h v x:=⟨x,a⟩;rw[dif_pos q,(Classical.choose_spec q).inj a]
noncomputable def gF(k:List Key):List Int:=k.map λz=>match z with | .inl i=>i | .inr _=>0
theorem TupAt1.keep{h:BL}{v:BH}{x:List Int}(p:TupAt1 h v x)(k:∀b o,o.cls=.type "tuple"->h.get? b=some o->h'.get? b=some o):TupAt1 h' v x:=by obtain⟨a,o,n,its,e,g,c,d⟩:=p;exact⟨a,o,n,its,e,k _ _ c g,c,d⟩
theorem aNZ{h:BL}{a:BJ}{vs us:List BH}{n:Nat}(ho:h.get? a=some (seqObj "list" us.toArray n)):∀b o,o.cls=.type "tuple"->h.get? b=some o->(iM h a vs).get? b=some o:=λb o c g=>by
 have nb:a≠b:=λz=>by subst z;rw[ho] at g;cases g;exact absurd (show Value.type "list"=Value.type "tuple" from c)<|by decide
 unfold iM;refine aE _<|aE _ ?_;rw[eV _ _ nb];exact g
theorem aJh{h:BL}{T:List dB}(R:∀r∈T,TupAt1 h (.ref r.2.2)<|gF r.2.1):TupsAt h (T.map λr=>Value.ref r.2.2) (T.map λr=>gF r.2.1):=by
 induction T with
 |nil=>exact .nil
 |cons r T ih=>exact .cons (R r aK) (ih λq hq=>R q<|aO _ hq)
theorem xD{a:BJ}{T:List dB}{n:Nat}{rk:List Int->Nat}{R:PySem.Fin->BI->Prop}(ho:s.heap.get? a=some (seqObj "list" (T.map λr=>Value.ref r.2.2).toArray n))(RI:∀r∈T,TupAt1 s.heap (.ref r.2.2)<|gF r.2.1)(hn:T.length<=10000)
  (nd:(T.map λr=>rk<|gF r.2.1).Nodup) (hlt:∀x∈T,∀y∈T,ltI (gF x.2.1) (gF y.2.1)=decide (rk (gF x.2.1)<rk (gF y.2.1)))
  (h:∀T':List dB,T'.Perm T->(T'.map λr=>rk<|gF r.2.1).Pairwise (·<·)->R (.done<|.ret .none) {s with heap:=sortedHeap s.heap a (T.map λr=>Value.ref r.2.2) (T'.map λr=>Value.ref r.2.2).toArray}):AG (AF prog w) A (Builtin.«list.sort» ⟨[.ref a],[]⟩) R E s:=by
 obtain⟨vs,hvs⟩:∃vs,T.map (λr=>Value.ref r.2.2)=vs:=⟨_,rfl⟩;rw[hvs] at ho h;have R6:∀r∈T,TupAt1 (iM s.heap a vs) (.ref r.2.2) (gF r.2.1):=λr hr=>(RI r hr).keep<|aNZ ho
 have T6:TupsAt (iM s.heap a vs) vs (T.map λr=>gF r.2.1):=by have:=aJh R6;rw[hvs] at this;exact this
 have er:∀T':List dB,(∀r∈T',r∈T)->(T'.map λr=>Value.ref r.2.2).map (rkV (iM s.heap a vs) rk)=T'.map λr=>rk (gF r.2.1):=λT' hT=>by rw[aX];exact cI λr hr=>aDo (R6 r<|hT r hr)
 have mv:∀x∈vs,∃r∈T,x=Value.ref r.2.2:=λx hx=>by rw[<-hvs] at hx;obtain⟨r,hr,e⟩:=aH.mp hx;exact⟨r,hr,e.symm⟩
 have lv:vs.length=T.length:=by rw[<-hvs,aA]
 have nv:(vs.map<|rkV (iM s.heap a vs) rk).Nodup:=by
  have:=er T λ_ z=>z
  rw[hvs] at this;rw[this];exact nd
 have hk0:2<=vs.length->∀Q:Aq->BI->Prop,Q (tuples' true) ⟨iM s.heap a vs,s.gens,s.drawn,s.toks,s.os⟩->AG (AF prog w) A (keyKind' vs.toArray) Q E ⟨iM s.heap a vs,s.gens,s.drawn,s.toks,s.os⟩:=λh2 Q q=>aNt (s:=⟨iM s.heap a vs,s.gens,s.drawn,s.toks,s.os⟩) T6 (by rw[aA];omega) q
 have ha0:∀x∈vs,∀y∈vs,∀ (Q:Bool->BI->Prop) (E':BH->BI->Prop),Q (decide<|rkV (iM s.heap a vs) rk x<rkV (iM s.heap a vs) rk y) ⟨iM s.heap a vs,s.gens,s.drawn,s.toks,s.os⟩->AG (AF prog w) A (keyLt' (tuples' true) x y) Q E' ⟨iM s.heap a vs,s.gens,s.drawn,s.toks,s.os⟩:=λx hx y hy Q E' q=>by obtain⟨u,hu,rfl⟩:=mv x hx;obtain⟨v,hv,rfl⟩:=mv y hy;refine askI (s:=⟨iM s.heap a vs,s.gens,s.drawn,s.toks,s.os⟩) (R6 u hu) (R6 v hv) ?_;rw[hlt u hu v hv];rw[aDo<|R6 u hu,aDo<|R6 v hv] at q;exact q
 refine zL (κ:=tuples' true) (rk:=rkV (iM s.heap a vs) rk) ho nv (by omega) hk0 ha0 λout p1 p2=> ?_
 rw[<-hvs] at p1;obtain⟨T',q1,q2⟩:=oI (f:=λr:dB=>Value.ref r.2.2) (l:=T) (l':=out.toList) p1
 have e:out=(T'.map λr=>Value.ref r.2.2).toArray:=by apply oW.mp;rw[q2]
 rw[q2,er T' λr hr=>q1.mem_iff.mp hr] at p2;rw[e];exact h T' q1 p2
theorem aCJ{S:BJ}{o:BM}{T:List dB}{rk:List Int->Nat}{Q:BH->BI->Prop}(hh:A.handled=none)(ho:s.heap.get? S=some o)(sm:SetT prog w true o T)(l72:T.length<=72)(RI:∀r∈T,TupAt1 s.heap (.ref r.2.2)<|gF r.2.1)
  (nd:(T.map λr=>rk<|gF r.2.1).Nodup) (hlt:∀x∈T,∀y∈T,ltI (gF x.2.1) (gF y.2.1)=decide (rk (gF x.2.1)<rk (gF y.2.1)))
  (h:∀ (h':BL) (tk:Nat) (D:BJ) (T':List dB) (n:Nat),(∀b x,s.heap.get? b=some x->h'.get? b=some x)->S<D->h'.get? D=some {cls:=.type "list",data:=.seq (T'.map λr=>Value.ref r.2.2).toArray n}->T'.Perm T->(T'.map λr=>rk<|gF r.2.1).Pairwise (·<·)->Q (.ref D) {s with heap:=h',toks:=tk}):
  AG (AF prog w) A (call (.builtin "sorted") [.ref S]) Q E s:=by
 obtain⟨es,ep,t,rfl,X,z,hled,hpl⟩:=sm;obtain⟨el,hel⟩:∃el,T.map (gT (tK prog w).hash)=el:=⟨_,rfl⟩;have ee:es=el.toArray:=by rw[<-hel];exact X.en
 have fit:=X.fit<|z.fit X.om l72;have lel:el.length=T.length:=by rw[<-hel,aA]
 obtain⟨ks,hks⟩:∃ks,T.map (·.1)=ks:=⟨_,rfl⟩;have lks:ks.length=T.length:=by rw[<-hks,aA]
 have hk:TOk w el t ks:=⟨by rw[<-ee];exact fit,hpl rfl,hled,by rw[<-hks];exact X.pl,by rw[<-hks];exact X.rs,by rw[lel,lks]⟩;have ho':s.heap.get? S=some (soT el ep t):=by rw[ho,ee];rfl
 have pm:=aAb (w:=w) (S:=S) (ep:=ep) el;have pm':=pm;rw[<-hel] at pm';obtain⟨T1,q1,q2⟩:=oI (f:=gT (tK prog w).hash) (l:=T) pm';rw[hel] at q2;have l1:T1.length=T.length:=q1.length_eq;have src:=srcW (prog:=prog) (ep:=ep) (S:=S) hk;clear ee ho;refine Calls.call_function_entry kind_sorted plain_sorted entry_sorted (args_sorted1 _) ?_;unfold Builtin.«sorted»;refine AA (m:=checkCount "sorted" 1 1 _)<|AB (AA<|PySem.W.kdu_collect src (by simpa using hh) ho' (by rw[lks,AU];omega) λh1 tk acc kp it=> ?_)
 have al:acc.toList=T1.map λr=>Value.ref r.2.2:=by
  have e0:T1.map (λr=>Value.ref r.2.2)=(pM w S ep el).map (·.2):=by rw[q2,aX];rfl
  rw[e0];apply uP;intro j
  by_cases hj:j<acc.toList.length
  ·have e3:acc.toList[j]? =some acc.toList[j]:=by simp[hj]
   obtain⟨c,q⟩:=it.2 j acc.toList[j] (by rw[<-eY];exact e3);rw[e3,bL,q];rfl
  ·have a1:acc.toList.length=ks.length:=by rw[dI];exact it.1
   rw[cO<|by omega,cO<|by rw[aA,q2,aA];omega]
 have R1:∀r∈T1,TupAt1 (h1.push {cls:=.type "list",data:=.seq acc.toList.toArray}) (.ref r.2.2) (gF r.2.1):=λr hr=>(RI r<|q1.mem_iff.mp hr).keep λb x _ g=>aE _<|kp b x g
 refine AA (wpAny_newList ?_<|by rw[al,aA,AU];omega);have hoL:(h1.push {cls:=.type "list",data:=.seq acc.toList.toArray}).get? h1.objs.size=some (seqObj "list" acc.toList.toArray 0):=bE _ rfl;rw[al] at hoL R1 ⊢;refine AA<|AS (AY PyProof.Rows.slot_list_sort ⟨_,hoL,rfl⟩ PyProof.Rows.entry_list_sort (xD (rk:=rk) (s:=⟨h1.push {cls:=.type "list",data:=.seq (T1.map λr=>Value.ref r.2.2).toArray},s.gens,s.drawn,tk,s.os⟩) hoL R1 (by omega) ((q1.map _).nodup_iff.mpr nd) (λx hx y hy=>hlt x (q1.mem_iff.mp hx) y<|q1.mem_iff.mp hy) λT' p1 p2=>⟨_,rfl,AB ⟨_,rfl, ?_⟩⟩)<|args_list_sort _);obtain⟨v1,hv1⟩:∃v1,T1.map (λr=>Value.ref r.2.2)=v1:=⟨_,rfl⟩;obtain⟨v2,hv2⟩:∃v2,T'.map (λr=>Value.ref r.2.2)=v2:=⟨_,rfl⟩;have fin:=λh' n2 a b c=>h h' tk h1.objs.size T' n2 a b c (p1.trans q1) p2
 rw[hv1] at hoL ⊢;rw[hv2] at fin ⊢
 have keep:∀ (b:BJ) (x:BM),b≠h1.objs.size->h1.get? b=some x->(sortedHeap (h1.push {cls:=.type "list",data:=.seq v1.toArray}) h1.objs.size v1 v2.toArray).get? b=some x:=λb x hb g=>by unfold sortedHeap;rw[eV _ _<|Ne.symm hb];refine aE _<|aE _ ?_;rw[eV _ _<|Ne.symm hb];exact aE _ g
 obtain⟨n1,g1⟩:∃n1,((h1.push {cls:=.type "list",data:=.seq v1.toArray}).update h1.objs.size<|Obj.mapSeq λ_=> #[]).get? h1.objs.size=some (seqObj "list" #[] n1):=⟨_,get?_update_seq hoL λ_=> #[]⟩;obtain⟨n2,g2⟩:∃n2,(sortedHeap (h1.push {cls:=.type "list",data:=.seq v1.toArray}) h1.objs.size v1 v2.toArray).get? h1.objs.size=some (seqObj "list" v2.toArray n2):=⟨_,get?_update_seq (aE _<|aE _ g1) λ_=>v2.toArray⟩;have le:S<h1.objs.size:=aM<|kp _ _ ho';exact fin _ n2 (λb x g=>keep b x (λz=>absurd (aM<|kp b x g)<|by rw[z];exact cQ _)<|kp b x g) le g2
variable {a b:Expr}
theorem jY(x:List Int):gF (kY x)=x:=by unfold gF kY;rw[aX];exact oA x
theorem aKV(x:List Int):(kY x).map kV=x.map V.int:=by unfold kY;rw[aX];rfl
theorem aLd(ps:List (List Int)):(ps.map kY).map aFH=ps.map aT:=by rw[aX];exact cI λx _=>tN x
theorem aAI(K:aB)(F:Hp):∀x:List Int,RepL K F (x.map D.int) (x.map V.int)
 |[]=>.nil
 |n::x=>.cons (by simp only[Rep])<|aAI K F x
variable {sts:List BN}
noncomputable abbrev reB(X:Cx)(B:Hp)(h:∀b o,X.H₀ b=some o->aOx o->B b=some o):Cx:={X with B₀:=B,hB:=h}
noncomputable def spP(K:aB)(n:Nat)(C:List D->List D->R->Prop):Sp:=λvs H Q _=>vs.length=n/\∃ (l:BJ) (us:List V) (F:Hp) (xs:List V) (ds0 ds:List D) (r:R),vs=.ref l::us/\F l=none/\H=upd F l (.lst xs)/\Smp F/\RepL K F ds0 xs/\RepL K F ds us/\C ds0 ds r/\∀v H',aDf K F H' r v->Q v H'
structure aOm(P:AI)(w:AL)(K:aB)(mg:Str->Option BH)(base:BL)(x:Str)(k n:Nat)(C:List D->List D->R->Prop):Prop where
 ex:∃ (f:BJ) (fd:AV) (ps:List Str),mg x=some (.ref f)/\eJ K (.ref f)=true/\Binds K fd ps []/\FnOk P w K mg base CX0 k f fd ps (spP K n C)
theorem aDQ:∀p∈bX,∀f∈bC p,∀g∈bC p,ltI f g=decide (sI p f<sI p g):=by decide+kernel
theorem aAL(hp:p∈bX):(bC p).Pairwise λa b=>sI p a<sI p b:=by
 rw[jH];intro i j hi hj hij;have a:=aHO hp hi;have b:=aHO hp hj;have ea:(bC p).getD i []=(bC p)[i]:=by simp[bF,hi]
 have eb:(bC p).getD j []=(bC p)[j]:=by simp[bF,hj]
 rw[ea] at a;rw[eb] at b;omega
theorem oQ(hp:p∈bX):(bC p).Nodup:=(aAL hp).imp λ{a b} h e=>by rw[e] at h;omega
theorem aBU(hp:p∈bX)(hf:f∈bC p)(hg:g∈bC p)(h:sI p f=sI p g):f=g:=by have a:=(aHC hp<|hJ hp hf).2.2;have b:=(aHC hp<|hJ hp hg).2.2;rw[<-a,<-b,h]
theorem aKT{A:List (List Int)}(nd:A.Nodup){i j:Nat}(hi:i<A.length)(hj:j<A.length)(e:A.getD i []=A.getD j []):i=j:=by
 have ea:A.getD i []=A[i]:=by simp[bF,hi]
 have eb:A.getD j []=A[j]:=by simp[bF,hj]
 rw[ea,eb] at e;exact(lH nd).mp e
structure ChN(A c:List (List Int)):Prop where
 ne:c≠[]
 nd:c.Nodup
 sub:∀f∈c,f∈A
theorem ChN.le{A:List (List Int)}(h:ChN A c):c.length<=A.length:=h.nd.length_le_of_subset h.sub
structure WN(A:List (List Int))(W:List (Option (List<|List Int))):Prop where
 len:W.length=A.length
 ok:∀o∈W,∀c,o=some c->ChN A c
theorem WN.at{A:List (List Int)}{W:List (Option (List<|List Int))}(h:WN A W)(t:Nat){c:List (List Int)}(e:W.getD t none=some c):ChN A c:=by
 by_cases ht:t<W.length
 ·exact h.ok _ (getD_mem ht) c e
 ·rw[bF,cO<|by omega] at e;cases e
theorem WN.wish(hp:p∈bX){W:List (Option (List<|List Int))}(h:WN (bC p) W):aDw p W:=by refine⟨h.len,λo ho L hL=> ?_⟩;have k:=h.ok o ho L hL;have f9:(bC p).length<=64:=iR hp;have:=k.le;exact⟨List.length_pos_iff.mpr k.ne,by omega,λws hw=>hJ hp<|k.sub ws hw⟩
theorem aGo{w:List (Option (List<|List Int))}{A:List (List Int)}:(rH w A T).isNone=true↔∀j,j<A.length->aIx w T j=false:=by unfold rH;exact aEz
def ChO(a:Option (List<|List Int)):Prop:=∀c,a=some c->c≠[]/\c.length<=72
def aKO:List D->R->Prop:=λds r=>∃p a b,p∈bX/\ChO a/\ChO b/\ds=[cH p,wsD a,wsD b]/\r=.val (.bl<|lcQ p a b)
def aLc:List D->R->Prop:=λds r=>∃p U V,p∈bX/\WN (bC p) U/\WN (bC p) V/\ds=[cH p,.lst<|U.map wsD,.lst<|V.map wsD]/\r=.val (.bl<|loQ p U V)
theorem WN.cho(hp:p∈bX){W:List (Option (List<|List Int))}(h:WN (bC p) W)(t:Nat):ChO (W.getD t none):=λc e=>by have k:=h.at t e;have f9:(bC p).length<=64:=iR hp;have:=k.le;exact⟨k.ne,by omega⟩
theorem xU:entryFor table "set.__and__"=some Builtin.«frozenset.__and__»:=
 entryFor_alias (id':="frozenset.__and__") (by kernel_rfl) rfl (by decide+kernel) (by kernel_rfl)
theorem aBu{a b r:BJ}{oa ob:BM}{Ta Tb:List dB}{mb:Nat}{id:String}{was:Nat}{h0:BL}(hu:A.units<AR)(hn:∀s':BI,s'.heap.get? a=some oa->∀ {Q':Unit->BI->Prop}{A':BK}{E':BH->BI->Prop} (id:String),Q' () s'->AG (AF prog w) A' (Builtin.Frozenset.unchanged id a was) Q' E' s')
  (Sb:SetU prog w ob Tb [] mb) (hmb:Tb.length<=mb) (RA:RowsIn prog w h0 Ta) (RB:RowsIn prog w h0 Tb) (hr0:h0.get? r=none) (ha0:h0.get? a=some oa) (hb0:h0.get? b=some ob) (h16:Ta.length<=72) {Q:PUnit->BI->Prop}
  (hq:∀ (h':BL) (tk:Nat) (o':BM) (T':List dB),(∀x o,h0.get? x=some o->h'.get? x=some o)->h'.get? r=some o'->SetT prog w true o' T'->(∀p∈T'.map (·.2),p∈Ta.map (·.2))->(∀k,k∈T'.map (·.2.1)↔k∈Ta.map (·.2.1)/\k∈Tb.map (·.2.1))->Q ⟨⟩ {s with heap:=h',toks:=tk}):
  ∀ (rest done:List dB) (h1:BL) (tk:Nat) (o1:BM) (T1:List dB),(done++rest).Perm Ta->(∀x o,h0.get? x=some o->h1.get? x=some o)->h1.get? r=some o1->SetT prog w true o1 T1->(∀p∈T1.map (·.2),p∈Ta.map (·.2))->(∀k,k∈T1.map (·.2.1)↔k∈done.map (·.2.1)/\k∈Tb.map (·.2.1))->T1.length<=done.length->
   AG (AF prog w) A (forIn (rest.map (gT (tK prog w).hash)) PUnit.unit fun (p:Int × BH) (_:PUnit)=>do
    holding [p.2] do
     let there <-setFind b p.2 p.1
     if there.isSome then
      let _ <-setAddHashed r p.2 p.1
    Builtin.Frozenset.unchanged id a was
    pure (ForInStep.yield PUnit.unit)) Q E {s with heap:=h1,toks:=tk}
 |[],done,h1,tk,o1,T1,pm,kp,g,S1,R1,k1,l1=>by rw[dD,nK];refine AB<|hq h1 tk o1 T1 kp g S1 R1 λk=> ?_;rw[k1,(pm.map (·.2.1)).mem_iff.symm];simp
 |q::rest,done,h1,tk,o1,T1,pm,kp,g,S1,R1,k1,l1=>by
  have hqa:q∈Ta:=pm.mem_iff.mp (by simp);obtain⟨ik,ii⟩:=RA.row hqa
  have lq:done.length+rest.length+1=Ta.length:=by have:=pm.length_eq;simp at this;omega
  have ik1:(tK prog w).is h1 q.2.1 q.2.2:=iN ik λo g=>kp _ _ g
  have hb1:h1.get? b=some ob:=kp b ob hb0;have pm':((done++[q])++rest).Perm Ta:=by simpa using pm
  have RT1:RowsIn prog w h0 T1:=λp hp=>RA p<|R1 p hp
  rw[aR,jS];refine AA (AA<|AS ?_);obtain⟨es,ep,t,eo,X,rfl,x1,x2⟩:=Sb;have hd:ob.data=.set es ep t:=by rw[eo]
  refine AA<|aIE (s:={s with heap:=h1,toks:=tk}) hu hb1 hd X (by simpa using hmb) ik1 (λr' hr'=>iN (RB.row hr').1 λo g=>kp _ _ g) (λB r' C eT er=> ?_) λnk=> ?_
  ·simp only[rX,if_true]
   have hin:q.2.1∈Tb.map (·.2.1):=by rw[eT,<-er];simp
   refine AA<|aIB (s:={s with heap:=h1,toks:=tk}) (ip:=true) (λ_=>ii) hu (by omega) g S1 (λr' hr'=>iN (RT1.row hr').1 λo g=>kp _ _ g) ik1 λbb h2 o2 tk2 T2 sb g2 S2 rr2 kk2=> ?_
   have kp2:∀x o,h0.get? x=some o->h2.get? x=some o:=λx o gx=>by rw[sb.2 x λz=>by rw[z,hr0] at gx;cases gx];exact kp x o gx
   refine AB<|AA (hn _ (kp2 a oa ha0) id<|AB ?_)
   have R2:∀p∈T2.map (·.2),p∈Ta.map (·.2):=λp hp=>by
    rcases rr2 p hp with rfl|z
    ·exact aY (f:=(·.2)) hqa
    ·exact R1 p z
   refine aBu hu hn ⟨es,ep,t,eo,X,rfl,x1,x2⟩ hmb RA RB hr0 ha0 hb0 h16 hq rest (done++[q]) h2 tk2 o2 T2 pm' kp2 g2 S2 R2 (λk=> ?_) ?_
   ·rw[kk2,k1];simp only[aI,aJ,aR,dD,bA]
    constructor
    ·rintro(z|⟨z1,z2⟩)
     ·exact⟨.inr z,z▸hin⟩
     ·exact⟨.inl z1,z2⟩
    ·rintro⟨z1|z1,z2⟩
     ·exact .inr ⟨z1,z2⟩
     ·exact .inl z1
   ·have nd:=S2.nd
    have:T2.length<=(q.2.1::T1.map (·.2.1)).length:=by
     have:=nd.length_le_of_subset (l₂:=q.2.1::T1.map (·.2.1)) λk hk=>by
      rcases(kk2 k).mp hk with z|z
      ·rw[z];exact aK
      ·exact aO _ z
     rwa[aA] at this
    simp at this ⊢;omega
  ·simp only[aFx,aF,if_false];refine AB<|AA (hn _ (kp a oa ha0) id<|AB ?_);refine aBu hu hn ⟨es,ep,t,eo,X,rfl,x1,x2⟩ hmb RA RB hr0 ha0 hb0 h16 hq rest (done++[q]) h1 tk o1 T1 pm' kp g S1 R1 (λk=> ?_) (by simp;omega);rw[k1]
   constructor
   ·rintro⟨z1,z2⟩;exact⟨by simp only[aI,aJ];exact .inl z1,z2⟩
   ·rintro⟨z1,z2⟩;simp only[aI,aJ,aR,dD,bA] at z1
    rcases z1 with z1|z1
    ·exact⟨z1,z2⟩
    ·exact absurd (z1▸z2) nk
def aHI(prog:AI)(w:AL)(s:BI)(Ta Tb:List dB)(Q:BH->BI->Prop):Prop:=
 ∀ (h':BL) (tk:Nat) (r:BJ) (o':BM) (T':List dB),(∀x o,s.heap.get? x=some o->h'.get? x=some o)->s.heap.objs.size<=r->h'.get? r=some o'->SetT prog w true o' T'->(∀p∈T'.map (·.2),p∈Ta.map (·.2)\/p∈Tb.map (·.2))->(∀k,k∈T'.map (·.2.1)↔k∈Ta.map (·.2.1)/\k∈Tb.map (·.2.1))->Q (.ref r) {s with heap:=h',toks:=tk}
theorem aLH{a b:BJ}{oa ob:BM}{Ta Tb:List dB}{id:String}{Q:BH->BI->Prop}(hu:A.units<AR)(hab:a≠b)(hoa:s.heap.get? a=some oa)(hob:s.heap.get? b=some ob)(SA:SetT prog w true oa Ta)(SB:SetT prog w true ob Tb)(RA:RowsIn prog w s.heap Ta)(RB:RowsIn prog w s.heap Tb)(la:Ta.length<=72)(lb:Tb.length<=72)
  (h:aHI prog w s Ta Tb Q):AG (AF prog w) A (Builtin.Frozenset.intersection id a<|.ref b) Q E s:=by
 obtain⟨ma,UA,oma,a7⟩:=SA.U;obtain⟨mb,UB,omb,b7⟩:=SB.U;have hma:Ta.length<=ma:=a7.fit oma la;have hmb:Tb.length<=mb:=b7.fit omb lb;unfold Builtin.Frozenset.intersection
 rw [if_neg (show ¬ (Value.ref b==Value.ref a)=true by
   intro z;have:Value.ref b=Value.ref a:=eq_of_beq z;cases this
   exact hab rfl)]
 refine AA<|aAR hoa UA.cls (AA<|aBc ?_);refine AA<|AB ?_;have hr0:s.heap.get? s.heap.objs.size=none:=lV<|aG _;have kp1:∀x o,s.heap.get? x=some o->(s.heap.push<|jR w).get? x=some o:=λx o g=>aE _ g
 refine AA<|AS ?_;refine AA<|rQ (s:={s with heap:=s.heap.push (jR w)}) (kp1 b ob hob) UB.cls ?_;simp only[if_true];refine AA<|AB ?_;refine AA<|zT (s:={s with heap:=s.heap.push (jR w)}) (kp1 b ob hob) UB (by simpa using hmb) ?_;refine AA<|zT (s:={s with heap:=s.heap.push (jR w)}) (kp1 a oa hoa) UA (by simpa using hma) ?_
 by_cases hv:Tb.length>Ta.length
 ·rw[if_pos hv];dsimp only;refine AA<|aBF (s:={s with heap:=s.heap.push (jR w)}) (kp1 a oa hoa) UA (by simpa using hma) λwas hn=> ?_;refine AA<|aFJ (s:={s with heap:=s.heap.push (jR w)}) (kp1 a oa hoa) UA (by simpa using hma) λTw pw=> ?_;rw[<-iC];refine AA (aBu (s:=s) (h0:=s.heap) hu hn UB hmb RA RB hr0 hoa hob la (λh2 tk2 o2 T2 kp2 g2 S2 r2 k2=> ?_) Tw [] _ s.toks (jR w) [] (by simpa using pw) kp1 (bE _ rfl) aDb (λp hp=>by cases hp) (λk=>by simp)<|aG _);refine AB<|AB ?_;exact h h2 tk2 s.heap.objs.size o2 T2 kp2 (aG _) g2 S2 (λp hp=>.inl<|r2 p hp) k2
 ·rw[if_neg hv];dsimp only;refine AA<|aBF (s:={s with heap:=s.heap.push (jR w)}) (kp1 b ob hob) UB (by simpa using hmb) λwas hn=> ?_;refine AA<|aFJ (s:={s with heap:=s.heap.push (jR w)}) (kp1 b ob hob) UB (by simpa using hmb) λTw pw=> ?_;rw[<-iC];refine AA (aBu (s:=s) (h0:=s.heap) hu hn UA hma RB RA hr0 hob hoa lb (λh2 tk2 o2 T2 kp2 g2 S2 r2 k2=> ?_) Tw [] _ s.toks (jR w) [] (by simpa using pw) kp1 (bE _ rfl) aDb (λp hp=>by cases hp) (λk=>by simp)<|aG _);refine AB<|AB ?_;exact h h2 tk2 s.heap.objs.size o2 T2 kp2 (aG _) g2 S2 (λp hp=>.inr<|r2 p hp) λk=>(k2 k).trans And.comm
theorem aNH{a b:BJ}{oa ob:BM}{Ta Tb:List dB}{Q:BH->BI->Prop}(hu:A.units+4<AR)(hab:a≠b)(hoa:s.heap.get? a=some oa)(hob:s.heap.get? b=some ob)(SA:SetT prog w true oa Ta)(SB:SetT prog w true ob Tb)(RA:RowsIn prog w s.heap Ta)(RB:RowsIn prog w s.heap Tb)(la:Ta.length<=72)(lb:Tb.length<=72)
  (h:aHI prog w s Ta Tb Q):AG (AF prog w) A (Am .BitAnd (.ref a)<|.ref b) Q E s:=by
 have ca:oa.cls=.type "set":=by obtain⟨_,_,_,e,_⟩:=SA;rw[e]
 have cb:ob.cls=.type "set":=by obtain⟨_,_,_,e,_⟩:=SB;rw[e]
 have hTa:s.TypeIs (.ref a) "set":=⟨oa,hoa,ca⟩;have hTb:s.TypeIs (.ref b) "set":=⟨ob,hob,cb⟩;refine wpAny_binaryOp_same (op:= .BitAnd) (T:="set") hTa hTb PySem.F.fills_set_and aCu ?_;refine AY aCu hTa xU ?_<|PySem.F.args_set_and_2 _ _;show AG _ _ (Builtin.Frozenset.slot1 "__and__" ⟨[.ref a,.ref b],[]⟩>>=_) _ _ _;refine AA ?_;unfold Builtin.Frozenset.slot1 slotArgs;simp only[aKe,dR,aF,if_false,cM,gW,bne_self_eq_false];refine AA (AB<|AB ?_);dsimp only;unfold andM;refine AA (AA<|rQ hoa ca ?_);show AG _ _ (Builtin.Frozenset.isAnySet<|.ref b) _ _ _;refine rQ hob cb ?_;simp only[dR,aF,if_false];refine AA<|AB ?_;refine AA<|aLH (by simp only[Around.in1];omega) hab hoa hob SA SB RA RB la lb ?_;intro h' tk r o' T' kp le g e f l;exact AB ⟨_,rfl,(λq=>by cases q),h h' tk r o' T' kp le g e f l⟩
theorem xQ{p p2 p3 p4 q2 q3:Pos}{xs ys qs:List (List Int)}{rk:List Int->Nat}(hu:X.A.units+12<AR)(hg:Gl X "sorted")(hm:X.mg "sorted"=none)(hg2:Gl X "set")(hm2:X.mg "set"=none)(ha:PEd X sd a (.val (.lst<|xs.map aT)))(hb:PEd X sd b (.val (.lst<|ys.map aT)))(hne:∀x∈xs,x≠[])(lx:xs.length<=72)(ly:ys.length<=72)
  (hlt:∀x∈xs,∀y∈xs,ltI x y=decide (rk x<rk y)) (inj:∀x∈xs,∀y∈xs,rk x=rk y->x=y) (hq:∀x,x∈qs↔x∈xs/\x∈ys) (hs:qs.Pairwise λx y=>rk x<rk y)
  (hc:X.calm=true:=by rfl) (hsa:AD [a] X.env=(false,eval a X.env)::AD [] X.env:=by rfl) (hsb:AD [b] X.env=(false,eval b X.env)::AD [] X.env:=by rfl)
  (hst2:AD [.BinOp (.Call (.Name "set" p2) [a] [] q2) .BitAnd (.Call (.Name "set" p3) [b] [] q3) p4] X.env=(false,eval (.BinOp (.Call (.Name "set" p2) [a] [] q2) .BitAnd (.Call (.Name "set" p3) [b] [] q3) p4) X.env)::AD [] X.env:=by rfl):
  PEd X sd (.Call (.Name "sorted" p) [.BinOp (.Call (.Name "set" p2) [a] [] q2) .BitAnd (.Call (.Name "set" p3) [b] [] q3) p4] [] pos) (.own<|qs.map aT):=.mk λσ F H S pins s I=>by
 have ip:∀zs:List (List Int),∀k∈zs.map kY,∀z∈k,∃i,z=Sum.inl i:=λzs k hk z hz=>by obtain⟨x,_,rfl⟩:=aH.mp hk;obtain⟨i,_,rfl⟩:=aH.mp hz;exact⟨i,rfl⟩
 refine Ad<|qG I hg hm boot_sorted ?_;refine PyProof.Rows.callWith_builtin1 ?_ hst2 rfl;rw[hst2];refine Calls.spliced_cons<|wpAny_BinOp ?_;have ha':PEd X sd a (.val (.lst<|(xs.map kY).map aFH)):=by rw[aLd];exact ha
 have hb':PEd X sd b (.val (.lst<|(ys.map kY).map aFH)):=by rw[aLd];exact hb
 refine uX (by omega) hg2 hm2 (ip xs) (by rw[aA];exact lx) hc hsa ha' S I λs1 H1 F1 A1 o1 T1 I1 S1 sF1 g1 m1 fp1 k1 r1=> ?_
 obtain⟨f0,f1,f2,f3,f4,f5⟩:=fp1
 have nc:∀v,o1.data≠ .cell v:=λv z=>by obtain⟨_,_,_,e,_⟩:=m1;rw[e] at z;cases z
 have IP:Inv X (pins++[(A1,o1)]) σ H1 s1:=I1.pins_of λq hq=>by
  rcases aJ.mp hq with z|z
  ·exact I1.pin q<|aC _ z
  ·have:q=(A1,o1):=by simpa using z
   subst this;exact⟨g1,f0,f1,f2,nc⟩
 refine uX (by omega) hg2 hm2 (ip ys) (by rw[aA];exact ly) hc hsb hb' S1 IP λs2 H2 F2 A2 o2 T2 I2 S2 sF2 g2 m2 fp2 k2 r2=> ?_
 obtain⟨gp,_⟩:=I2.pin (A1,o1) (aC _<|aC _ aK);obtain⟨e0,e1,e2,e3,e4,e5⟩:=fp2;have hne':A1≠A2:=e5 (A1,o1) (aC _<|aC _ aK)
 have RA:RowsIn X.prog X.w s2.heap T1:=λq hq=>by refine⟨mO I2.hok<|S2.sub _ _ (sF2 _ _<|r1 q hq), ?_⟩;obtain⟨row,hr',rfl⟩:=aH.mp hq;exact ip xs _ ((k1 _).mp<|aY hr')
 have RB:RowsIn X.prog X.w s2.heap T2:=λq hq=>by refine⟨mO I2.hok (S2.sub _ _<|r2 q hq), ?_⟩;obtain⟨row,hr',rfl⟩:=aH.mp hq;exact ip ys _ ((k2 _).mp<|aY hr')
 have I3:Inv X pins σ H2 s2:=I2.unpinned;have l1:T1.length<=72:=sW m1.nd k1 (by rw[aA];exact lx);refine aNH (by omega) hne' gp g2 m1 m2 RA RB l1 (sW m2.nd k2<|by rw[aA];exact ly) ?_;intro h2 tk r' o' T kp le g sm fr kt;refine Calls.spliced_nil ?_
 have row:∀r∈T,∃x∈xs,x∈ys/\r.2.1=kY x/\F2 r.2.2=some (.tup<|x.map V.int):=λr hr=>by
  have hk:=(kt r.2.1).mp<|aY hr;obtain⟨x,hx,ex⟩:=aH.mp<|(k1 _).mp hk.1;obtain⟨y,hy,ey⟩:=aH.mp<|(k2 _).mp hk.2
  have exy:x=y:=by
   have:=congrArg gF<|ex.trans ey.symm
   rwa[jY,jY] at this
  subst exy;refine⟨x,hx,hy,ex.symm, ?_⟩
  rcases fr r.2 (aY hr) with z|z
  ·have:=sF2 _ _<|r1 _ z;rw[<-ex,aKV] at this;exact this
  ·have:=r2 _ z;rw[<-ex,aKV] at this;exact this
 have knd:=sm.nd
 have l72:T.length<=72:=by
  have:=knd.length_le_of_subset (l₂:=T1.map (·.2.1)) λk hk=>((kt k).mp hk).1
  rw[aA,aA] at this;omega
 have RI:∀r∈T,TupAt1 h2 (.ref r.2.2) (gF r.2.1):=λr hr=>by
  obtain⟨x,hx,_,e1,f1⟩:=row r hr
  have rp:Rep X.K H2 (aT x) (.ref r.2.2):=by simp only[aT,Rep];exact⟨_,_,rfl,S2.sub _ _ f1,aAI _ _ x⟩
  obtain⟨b,ys,its,e2,e3,r2,v2,o,g2,c,n,hd⟩:=lM I3.hok rp (show RelV (.ref r.2.2) (.ref r.2.2) from rfl);cases e2;cases e3;have e4:=(show RepL X.K H2 (x.map D.int) ys from r2).ints;subst e4;rw[e1,jY];exact⟨_,o,n,its,rfl,kp _ _ g2,c,hd,aDU v2,hne x hx⟩
 have ki:∀r∈T,gF r.2.1∈xs:=λr hr=>by obtain⟨x,hx,_,e1,_⟩:=row r hr;rw[e1,jY];exact hx
 have nd:(T.map λr=>rk<|gF r.2.1).Nodup:=by
  have e:T.map (λr=>rk<|gF r.2.1)=(T.map (·.2.1)).map λk=>rk (gF k):=by rw[aX];rfl
  rw[e];unfold List.Nodup;rw[fM];refine List.Pairwise.imp_of_mem (λ{c1 c2} m1 m2 q z=>q ?_) knd;obtain⟨x,hx,ex⟩:=aH.mp<|(k1 c1).mp ((kt c1).mp m1).1;obtain⟨y,hy,ey⟩:=aH.mp<|(k1 c2).mp ((kt c2).mp m2).1;rw[<-ex,<-ey,jY,jY] at z;rw[<-ex,<-ey,inj x hx y hy z]
 refine aCJ (s:={s2 with heap:=h2,toks:=tk}) (rk:=rk) (I3.ok.hd hc) g sm l72 RI nd (λx hx y hy=>hlt _ (ki x hx) _<|ki y hy) λh3 tk3 dd T' n kp3 le3 g3 pm pw=> ?_
 have eT:T'.map (λr=>gF r.2.1)=qs:=by
  refine List.Perm.eq_of_pairwise (le:=fun x y=>rk x<rk y) (fun x y _ _ h1 h2=>by omega) (by
   have:=pw;rw[fM] at this;rw[fM]
   exact this) hs ?_
  have n1:(T'.map λr=>gF r.2.1).Nodup:=by have:=pw;rw[fM] at this;unfold List.Nodup;rw[fM];exact this.imp λ{x y} q z=>by rw[z] at q;omega
  have n2:qs.Nodup:=hs.imp λ{x y} q z=>by rw[z] at q;omega
  refine(aAw n1 n2).mpr λx=> ?_
  rw[hq]
  constructor
  ·intro hx;obtain⟨r,hr,rfl⟩:=aH.mp hx;obtain⟨x,h1,h2,e1,_⟩:=row r<|pm.mem_iff.mp hr;rw[e1,jY];exact⟨h1,h2⟩
  ·rintro⟨hx,hy⟩;have:=(kt<|kY x).mpr ⟨(k1 _).mpr<|aY hx,(k2 _).mpr<|aY hy⟩;obtain⟨r,hr,er⟩:=aH.mp this;refine aH.mpr ⟨r,pm.mem_iff.mpr hr, ?_⟩;rw[er,jY]
 have le2:s2.heap.objs.size<=dd:=cP le<|cZ le3;have hD:H2 dd=none:=I3.hok.fresh le2;have lT:T'.length<=72:=by rw[pm.length_eq];exact l72
 have vv:Vals (T'.map λr=>V.ref r.2.2) (T'.map λr=>Value.ref r.2.2):=by
  generalize T'=U
  induction U with
  |nil=>exact .nil
  |cons r U ih=>exact .cons rfl ih
 have I4:Inv X pins σ (upd H2 dd (.lst<|T'.map λr=>V.ref r.2.2)) {s2 with heap:=h3,toks:=tk3}:=
  I3.laid (λb o g=>kp3 b o<|kp b o g) le2 ⟨by rw[AU,aA];omega,_,n,vv,g3⟩
 obtain⟨S4,fp,no⟩:=S2.layO (xs:=T'.map λr=>V.ref r.2.2) hD;refine⟨.ref dd,_,I4,rfl,F2,S4,sF1.trans sF2,dd,_,rfl,fp,cD, ?_,no⟩;rw[<-eT,aX];have rT:∀r∈T',r∈T:=λr hr=>pm.mem_iff.mp hr
 clear vv I4 S4 fp no g3 eT lT pw pm
 induction T' with
 |nil=>exact .nil
 |cons r U ih=>refine .cons ?_ (ih λq hq=>rT q<|aO _ hq);obtain⟨x,hx,_,e1,f1⟩:=row r<|rT r aK;show Rep X.K F2 (aT<|gF r.2.1) (.ref r.2.2);rw[e1,jY];simp only[aT,Rep];exact⟨_,_,rfl,f1,aAI _ _ x⟩
structure ZA3(z TI TO i1 i2 i3 l1 l2 l3:BJ):Prop where
 TIz:TI≠z
 TOz:TO≠z
 i1z:i1≠z
 i2z:i2≠z
 i3z:i3≠z
 TITO:TI≠TO
 TIi1:TI≠i1
 TIi2:TI≠i2
 TIi3:TI≠i3
 TOi1:TO≠i1
 TOi2:TO≠i2
 TOi3:TO≠i3
 i12:i1≠i2
 i13:i1≠i3
 i23:i2≠i3
 l1z:l1≠z
 l2z:l2≠z
 l3z:l3≠z
 l2TO:l2≠TO
 l3TO:l3≠TO
 l2i1:l2≠i1
 l3i1:l3≠i1
 l3i2:l3≠i2
noncomputable abbrev yA(h:BL)(l:BJ):BL:=h.push<|itO false l
noncomputable abbrev yB(h:BL)(l m:BJ):BL:=(yA h l).push<|itO false m
noncomputable abbrev yC(h:BL)(l m n:BJ):BL:=(yB h l m).push<|itO false n
noncomputable abbrev yD(h:BL)(l m n:BJ):BL:=(yC h l m n).push {cls:=.type "tuple",data:=.seq #[.ref h.objs.size,.ref (yA h l).objs.size,.ref (yB h l m).objs.size]}
noncomputable abbrev yE(h:BL)(l m n:BJ):BL:=(yD h l m n).push {cls:=.type "tuple",data:=.seq #[.none,.none,.none]}
noncomputable abbrev yF(h:BL)(l m n:BJ):BL:=(yE h l m n).push {cls:=.type "zip",data:=.fields #[.none,.bool false,.bool false,.ref (yC h l m n).objs.size,.ref (yD h l m n).objs.size]}
set_option maxHeartbeats 2000000 in
noncomputable abbrev Wsh:=List<|Option (List<|List Int)
structure ChC(A c:List (List Int)):Prop where
 ne:c≠[]
 can:(A.filter λf=>decide<|f∈c)=c
structure WC(A:List (List Int))(W:Wsh):Prop where
 len:W.length=A.length
 ok:∀o∈W,∀c,o=some c->ChC A c
theorem ChC.sub{A:List (List Int)}(h:ChC A c):∀f∈c,f∈A:=λf hf=>by rw[<-h.can] at hf;exact(eM.mp hf).1
theorem ChC.le{A:List (List Int)}(h:ChC A c):c.length<=A.length:=by rw[<-h.can];exact lE _ _
theorem ChC.nd{A c:List (List Int)}(h:ChC A c)(nd:A.Nodup):c.Nodup:=by rw[<-h.can];exact nd.filter _
theorem WC.at{A:List (List Int)}{W:Wsh}(h:WC A W)(t:Nat){c:List (List Int)}(e:W.getD t none=some c):ChC A c:=by
 by_cases ht:t<W.length
 ·exact h.ok _ (getD_mem ht) c e
 ·rw[bF,cO<|by omega] at e;cases e
theorem WC.wn{A:List (List Int)}{W:Wsh}(nd:A.Nodup)(h:WC A W):WN A W:=⟨h.len,λo ho c hc=>have k:=h.ok o ho c hc;⟨k.ne,k.nd nd,k.sub⟩⟩
noncomputable def bcQ(A:List (List Int)):Option (List<|List Int)->Option (List<|List Int)->Option (List<|List Int)
 |none,b=>b
 |some c,none=>some c
 |some c,some d=>some<|A.filter λf=>decide (f∈c)&&decide (f∈d)
noncomputable def bwQ(A:List (List Int))(U V:Wsh):Wsh:=(bK A.length).map λt=>bcQ A (U.getD t none)<|V.getD t none
theorem aHS(A:List (List Int))(U V:Wsh):(bwQ A U V).length=A.length:=by unfold bwQ;rw[aA,dP]
theorem aNA{A:List (List Int)}{U V:Wsh}{t:Nat}(ht:t<A.length):(bwQ A U V).getD t none=bcQ A (U.getD t none) (V.getD t none):=by unfold bwQ;simp[bF,ht]
theorem aGV{A:List (List Int)}{U V:Wsh}(h:some []∈bwQ A U V):∃n,n<A.length/\bcQ A (U.getD n none) (V.getD n none)=some []/\∀k,k<n->bcQ A (U.getD k none) (V.getD k none)≠some []:=by
 cases e:(bK A.length).find? (λk=>decide<|bcQ A (U.getD k none) (V.getD k none)=some []) with
 |none=>obtain⟨t,ht,q⟩:=aH.mp h;exact absurd (decide_eq_true q)<|nL.mp e t ht
 |some n=>rw[aBo] at e;refine⟨n,bB.mp e.2.1,of_decide_eq_true e.1,λk hk q=> ?_⟩;have:=e.2.2 k hk;rw[decide_eq_true q] at this;cases this
noncomputable def bwF(A:List (List Int))(U V:Wsh):D->Option (List D)
 |.int i=>(bcQ A (U.getD i.toNat none)<|V.getD i.toNat none).map<|jO aT
 |_=>none
noncomputable def bwG(A:List (List Int))(U V:Wsh):D->D
 |.int i=>wsD (bcQ A (U.getD i.toNat none)<|V.getD i.toNat none)
 |_=>.non
def CBc:List D->R->Prop:=λds r=>∃p a b,p∈bX/\(∀c,a=some c->ChC (bC p) c)/\(∀c,b=some c->ChC (bC p) c)/\bcQ (bC p) a b≠some []/\ds=[wsD a,wsD b]/\r=aOq (bcQ (bC p) a b)
def XBc:List D->Prop:=λds=>∃p a b,p∈bX/\(∀c,a=some c->ChC (bC p) c)/\(∀c,b=some c->ChC (bC p) c)/\bcQ (bC p) a b=some []/\ds=[wsD a,wsD b]
def aOt(K:aB):List D->R->Prop:=λds r=>∃p U V,p∈bX/\WC (bC p) U/\WC (bC p) V/\some []∉bwQ (bC p) U V/\ds=[cH p,.lst<|U.map wsD,.lst<|V.map wsD]/\r=ooR K (mkM<|bwQ (bC p) U V) (mkL<|bwQ (bC p) U V)
def aOH:List D->Prop:=λds=>∃p U V,p∈bX/\WC (bC p) U/\WC (bC p) V/\some []∈bwQ (bC p) U V/\ds=[cH p,.lst<|U.map wsD,.lst<|V.map wsD]
variable {E:jM}{cls:BH}
theorem aGT{body suite:List BN}{b₀:BN}{xE:Str}{np hpos:Pos}{CE:BJ}(hg:Gl X xE)(hm:X.mg xE=some (.ref CE))(hmt:qM X.K cls (.ref CE)=some true)
  (hb:∀ (ξ:BH->BI->Prop) (pn:List (BJ×BM)) (F:Hp),Takes {X with H₀:=F,B₀:=F,hB:=λ_ _ e _=>e,xe:=ξ,pn:=pn} cls sd->PSd {X with H₀:=F,B₀:=F,hB:=λ_ _ e _=>e,xe:=ξ,pn:=pn} sd body {nx:=λ_=>False,rt:=λ_=>False})
  (hh:∀ (a:BJ) (pn:List (BJ×BM)),PSd {X with A:=X.A.mark (some<|.ref a),calm:=false,pn:=pn,xe:=λ_ _=>False} sd (b₀::suite) {nx:=λ_=>False,rt:=E.rt})
  (hB₀:X.B₀=X.H₀:=by rfl) (hex:X.ex=[]:=by rfl) (hst:X.stack=X.env::X.outer/\X.env.frame=some X.env.locals:=by exact⟨rfl,rfl⟩) (hdb:(xE==("__debug__":Str))=false:=by decide):
  PSd1 X sd (.Try body [.ExceptHandler (some<|.Name xE np) none (b₀::suite) hpos] [] [] pos) E:=.mk λσ F H S pins s I=>by
 rw[hB₀] at S;obtain⟨ξ,hξ⟩:∃ξ:BH->BI->Prop,ξ=λe s'=>∃a T σ' F' H',e=.ref a/\Inv X pins σ' H' s'/\StF X.K F F' H' σ' sd/\Exc X.s₀.heap s'.heap H' a T cls/\∀p∈X.pn++pins,p.1≠a/\p.1≠T:=⟨_,rfl⟩
 have I':Inv {X with H₀:=F,B₀:=F,hB:=λ_ _ e _=>e,xe:=ξ,pn:=X.pn++pins} [] σ H s:=aLQ I S rfl;have S':StF X.K F F H σ sd:=⟨Same.refl _,S.sub,S.smp,S.slots,S.nd⟩
 have tk:Takes {X with H₀:=F,B₀:=F,hB:=λ_ _ e _=>e,xe:=ξ,pn:=X.pn++pins} cls sd:=λpins' σ' F' H' s' a T I2 S2 x2 hp=>by show ξ _ _;rw[hξ];exact⟨a,T,σ',F',H',rfl,aLM I S rfl I2,S2,x2,λp hp'=>hp p<|aU _ hp'⟩
 refine wpAny_Try_except<|AW (hb ξ (X.pn++pins) F tk σ F H S' [] s I') (λf s1 q=> ?_) λe s1 hx=> ?_
 ·cases f with
  |next=>obtain⟨_,_,_,_,_,_,_,z⟩:=q;exact z.elim
  |brk=>obtain⟨_,_,_,_,_,_,_,z⟩:=q;exact z.elim
  |cont=>obtain⟨_,_,_,_,_,_,_,z⟩:=q;exact z.elim
  |ret u=>obtain⟨_,_,_,_,_,_,_,z⟩:=q;exact z.elim
 ·have hx:ξ e s1:=hx;rw[hξ] at hx;obtain⟨a,T,σ1,F1,H1,rfl,I1,S1,x1,hp⟩:=hx;have hd:xM X pins σ1 H1 s1 a T cls .none:=⟨I1,⟨x1.free,x1.new,λp h=>(hp p h).1⟩,⟨x1.freeT,x1.newT,λp h=>(hp p h).2⟩,x1.obj⟩;refine aAl hst I.ok.frames hex hd λh2 T2 hd2=> ?_
  refine nB hst hd2 λh3 hd3=> ?_
  have LT:PySem.W.Looks (AF X.prog X.w) h3 (typeOf<|.ref a) cls:=by obtain⟨oe,vs,oT,ts,a0,he,hc,_⟩:=hd3.obj;exact hc.1▸(PySem.W.Looks.ld he).andThen .now
  refine wpAny_handleBy_cons (codeAny_handlers_test<|Calls.Name_function_global hd3.inv.ok.kind hg (Calls.loadGlobal_global (by rw[hd3.inv.ok.glob];exact hd3.inv.mod.glob.keeps hd3.inv.bk) hm<|(PySem.W.exm_one hd3.inv.kIn LT hmt).at ?_) hdb) (by intro q;cases q);refine codeAny_handlers_suite<|nB hst hd3 λh4 hd4=> ?_;have I6:=hd4.inv
  have I7:Inv {X with A:=X.A.mark (some<|.ref a),calm:=false,pn:=X.pn++pins,xe:=λ_ _=>False} [] σ1 H1 {s1 with heap:=h4}:=
   ⟨⟨I6.ok.mod,I6.ok.kind,I6.ok.glob,I6.ok.blt,I6.ok.above,I6.ok.inj,I6.ok.has,I6.ok.cab,λz=>(by cases z),I6.ok.frames,I6.ok.stk,I6.ok.exf,I6.ok.bs,I6.ok.bsz,I6.ok.noex,I6.ok.exfs,I6.ok.funs,I6.ok.frf⟩,I6.os,I6.bare,I6.base,I6.loc,I6.cell,I6.free,I6.freeC,λp hp=>by rw[eO] at hp;exact I6.pin p hp,I6.hok,I6.len⟩
  have S1':StF X.K X.B₀ F1 H1 σ1 sd:=hB₀▸⟨λb o e=>S1.base _ _<|S.base _ _ e,S1.sub,S1.smp,S1.slots,S1.nd⟩;refine AW (hh a (X.pn++pins) σ1 F1 H1 S1' [] _ I7) (λf s8 q=> ?_) λ_ _ z=>False.elim z
  cases f with
  |next=>obtain⟨_,_,_,_,_,_,_,z⟩:=q;exact z.elim
  |brk=>obtain⟨_,_,_,_,_,_,_,z⟩:=q;exact z.elim
  |cont=>obtain⟨_,_,_,_,_,_,_,z⟩:=q;exact z.elim
  |ret u=>
   obtain⟨v,σ8,H8,I8,rv,q⟩:=q
   exact ⟨v,σ8,H8,⟨I.ok,I8.os,I8.bare,I8.base,I8.loc,I8.cell,I8.free,I8.freeC,fun p hp=>I8.pin p (by
    rw[eO]
    exact hp),I8.hok,I8.len⟩,rv,q⟩
def FI(K:aB)(mg:Str->Option BH)(n:Str)(st:BN):Prop:=∃f fd,mg n=some (.ref f)/\Fun K n n st f fd
theorem FI.mk{K:aB}{h:BL}{mg:Str->Option BH}{n:Str}{st:BN}{od an:Option BJ}{sl:Array (Option BH)}{oc kV dc pm cd ct:BH}{f:BJ}(X:K.In h)(G:h.Ns AQ mg)(a:eZ K AQ n=some (some<|.ref f))(l:K.lookup f=some ⟨oc,od,.func<|eQ n n (iS st) (fV st) (bJ st) .none kV dc pm an cd ct,sl⟩)(c:iP K cd n=true)(k:eJ K (.ref f)=true):FI K mg n st:=⟨f,_,zQ X G a,aHU (st:=st) l c k⟩
noncomputable def kp1:Option Int->Int->Bool
 |none,_=>true
 |some w,v=>decide<|w=v
noncomputable def aDg(p:Int×Int)(T:List (List Int))(x:List Int×Wnt):Bool:=(bK p.2.toNat).all λb=>kp1 (x.2.getD b none)<|(T.getD ((bC p).idxOf x.1) []).getD b 0
noncomputable def oY(p:Int×Int)(E:Exs)(T:List (List Int)):Bool:=E.all<|aDg p T
variable {E E1 E2:Exs}
theorem rS{j:Nat}(hj:j<(bC p).length):(cE p E).getD j none=pS p E ((bC p).getD j []):=by unfold cE;simp[bF,hj]
theorem yO(hf:f∈bC p):(bC p).getD ((bC p).idxOf f) []=f:=by
 have h1:=bO hf;have e:(bC p).getD ((bC p).idxOf f) []=(bC p)[(bC p).idxOf f]:=by simp[bF,h1]
 rw[e,gK h1]
theorem aCb(hp:p∈bX){j:Nat}(hj:j<(bC p).length):(bC p).idxOf ((bC p).getD j [])=j:=by have m:(bC p).getD j []∈bC p:=getD_mem hj;exact aKT (oQ hp) (bO m) hj<|yO m
theorem aNY(h:oY p E T=true){x:List Int×Wnt}(hx:x∈E){b:Nat}(hb:b<p.2.toNat){w:Int}(hw:x.2.getD b none=some w):(T.getD ((bC p).idxOf x.1) []).getD b 0=w:=by have:=bN.mp (bN.mp h x hx) b<|bB.mpr hb;rw[hw] at this;exact(of_decide_eq_true this).symm
theorem aBq(hp:p∈bX)(hT:nV p T){j:Nat}(hj:j<(bC p).length):T.getD j []∈bC p:=by have G:=hT.2 _<|getD_mem (d:=([]:List Int)) (show j<T.length by rw[hT.1];exact hj);exact vO G.len G.wd
theorem aDS(hp:p∈bX)(O:EOk p E)(hT:nV p T)(h:oY p E T=true){j:Nat}(hj:j<(bC p).length){L:List (List Int)}(e:pS p E ((bC p).getD j [])=some L):T.getD j []∈L:=by
 unfold pS at e
 split at e
 ·cases e
 ·obtain rfl:=bT.inj e;refine eM.mpr ⟨aBq hp hT hj,decide_eq_true λ⟨b,w⟩ hm=> ?_⟩;obtain⟨hb,x,hx,e1,e2⟩:=ins_mem.mp hm;have:=aNY h hx hb e2;rw[e1,aCb hp hj] at this;exact this
theorem aKN(hp:p∈bX)(O:EOk p E)(hT:nV p T):(rH (cE p E) (bC p) T).isNone=oY p E T:=by
 apply eP.mpr;rw[aGo]
 constructor
 ·intro h;refine bN.mpr λx hx=>bN.mpr λb hb=> ?_
  have hb:=bB.mp hb;cases e:x.2.getD b none with
  |none=>rfl
  |some w=>
   have hf:=O.fil x hx;have hj:=bO hf;have m:=h _ hj;unfold aIx at m;rw[rS hj,yO hf] at m;have mi:(b,w)∈nR E x.1 p.2.toNat:=ins_mem.mpr ⟨hb,x,hx,rfl,e⟩;unfold pS at m;rw[if_neg λz=>by rw[z] at mi;cases mi] at m;have m:(!decide (T.getD ((bC p).idxOf x.1) []∈(bC p).filter λg=>aFF (nR E x.1 p.2.toNat) g))=false:=m;have m2:T.getD ((bC p).idxOf x.1) []∈(bC p).filter λg=>aFF (nR E x.1 p.2.toNat) g:=by simpa using m
   have:=of_decide_eq_true (eM.mp m2).2 _ mi;exact decide_eq_true this.symm
 ·intro h j hj;unfold aIx;rw[rS hj];cases e:pS p E ((bC p).getD j []) with
  |none=>rfl
  |some L=>show(!decide (T.getD j []∈L))=false;rw[decide_eq_true<|aDS hp O hT h hj e];rfl
theorem aDq(hp:p∈bX)(O:EOk p E)(hT:nV p T)(h:oY p E T=true):∃G,gth E=some G:=by
 cases g:gth E with
 |some G=>exact⟨G,rfl⟩
 |none=>obtain⟨f,hf,e⟩:=aH.mp<|aIe O (aG _) g;have hj:=bO hf;have:=aDS hp O hT h hj (by rw[yO hf];exact e);cases this
theorem aDN(E1 E2:Exs)(f:List Int)(n:Nat):nR (E1++E2) f n=nR E1 f n++nR E2 f n:=by unfold nR;rw[rW]
theorem aDE(a b:List (Nat×Int))(g:List Int):aFF (a++b) g=(aFF a g&&aFF b g):=by
 unfold aFF;apply eP.mpr;rw[decide_eq_true_iff,bH,decide_eq_true_iff,decide_eq_true_iff]
 constructor
 ·intro h;exact⟨λq hq=>h q<|aU _ hq,λq hq=>h q<|aC _ hq⟩
 ·rintro⟨h1,h2⟩ q hq
  rcases aJ.mp hq with hq|hq
  ·exact h1 q hq
  ·exact h2 q hq
theorem aDk(P:List Int->Bool)(hg:g∈bC p):decide (g∈(bC p).filter P)=P g:=by apply eP.mpr;rw[decide_eq_true_iff,eM];exact⟨λh=>h.2,λh=>⟨hg,h⟩⟩
theorem aGE(E1 E2:Exs):bcQ (bC p) (pS p E1 f) (pS p E2 f)=pS p (E1++E2) f:=by
 unfold pS;rw[aDN]
 by_cases z1:nR E1 f p.2.toNat=[]
 ·rw[if_pos z1,z1,qH];rfl
 ·rw[if_neg z1,if_neg λz=>z1 (aCV.mp z).1]
  by_cases z2:nR E2 f p.2.toNat=[]
  ·rw[if_pos z2,z2,eO];rfl
  ·rw[if_neg z2];show some _=some _;congr 1;refine oB λg hg=> ?_
   rw[aDk _ hg,aDk _ hg,aDE]
theorem aMn(E1 E2:Exs):bwQ (bC p) (cE p E1) (cE p E2)=cE p (E1++E2):=by
 refine pE (by rw[aHS];unfold cE;rw[aA]) λj h1 h2=> ?_
 have hj:j<(bC p).length:=by rw[aHS] at h1;exact h1
 have e1:=aNA (U:=cE p E1) (V:=cE p E2) hj;rw[rS hj,rS hj,aGE,<-rS hj] at e1;simpa[bF,h1,h2] using e1
theorem aHo(E1 E2:Exs):loQ p (cE p E1) (cE p<|E1++E2)=true:=by
 refine lo_iff.mpr λj hj=> ?_
 rw[rS hj,rS hj];unfold pS;rw[aDN]
 by_cases z1:nR E1 ((bC p).getD j []) p.2.toNat=[]
 ·rw[if_pos z1];rfl
 ·rw[if_neg z1,if_neg λz=>z1 (aCV.mp z).1];refine decide_eq_true λk hk=> ?_
  obtain⟨k1,k2⟩:=eM.mp hk;rw[aDE,bH] at k2;exact eM.mpr ⟨k1,k2.1⟩
theorem aBC(hp:p∈bX)(O:EOk p E)(h:gth E=some G):WC (bC p) (cE p E):=by
 refine⟨by unfold cE;rw[aA],λo ho c hc=>⟨λz=>aHG hp O h (by rw[z] at hc;rw[<-hc];exact ho), ?_⟩⟩;obtain⟨f,_,rfl⟩:=aH.mp ho;unfold pS at hc
 split at hc
 ·cases hc
 ·obtain rfl:=bT.inj hc;exact oB λg hg=>aDk _ hg
theorem EOk.sub(O:EOk p E)(h:∀x∈E1,x∈E):EOk p E1:=⟨λx hx=>O.fil x<|h x hx,λx hx=>O.len x<|h x hx,λx hx=>O.wd x<|h x hx⟩
theorem EOk.app(O1:EOk p E1)(O2:EOk p E2):EOk p (E1++E2):=by
 refine⟨λx hx=> ?_,λx hx=> ?_,λx hx=> ?_⟩<;>rcases aJ.mp hx with hx|hx
 ·exact O1.fil x hx
 ·exact O2.fil x hx
 ·exact O1.len x hx
 ·exact O2.len x hx
 ·exact O1.wd x hx
 ·exact O2.wd x hx
theorem aHE(h:oY p E T=true)(hs:∀x∈E1,x∈E):oY p E1 T=true:=bN.mpr λx hx=>bN.mp h x<|hs x hx
noncomputable def p3(b:Nat):Int:=([1,3,9,27,81,243]:List Int).getD b 1
noncomputable def aIA(w:List Int)(c:Int)(b:Nat):Option Int:=if 0<c / 64 / p3 b%3 then some (w.getD b 0) else none
noncomputable def kC(w:List Int)(c:Int)(t:Nat):Wnt:=(bK t).map<|aIA w c
theorem aCx(w:List Int)(c:Int)(t:Nat):kC w c (t+1)=kC w c t++[aIA w c t]:=by unfold kC;rw[aKo,aI];rfl
noncomputable def iA(p:Int×Int)(c:Int):Nat:=(c%((bC p).length:Int)).toNat
noncomputable def uB(p:Int×Int)(T:List (List Int))(c:Int):List Int×Wnt:=((bC p).getD (iA p c) [],kC (T.getD (iA p c) []) c p.2.toNat)
theorem aBA(hp:p∈bX):0<(bC p).length:=by
 have g:∀p∈bX,0<(bC p).length:=by decide+kernel
 exact g p hp
theorem jJ(hp:p∈bX)(c:Int):iA p c<(bC p).length/\((iA p c:Nat):Int)=c%((bC p).length:Int):=by have h:=aBA hp;have h0:=bP c (show((bC p).length:Int)≠0 by omega);have h1:=bM c (show(0:Int)<((bC p).length:Int) by omega);unfold iA;omega
theorem aCp{w:List Int}{c:Int}{t b:Nat}{v:Int}(h:(kC w c t).getD b none=some v):b<t/\v=w.getD b 0:=by
 unfold kC at h
 by_cases hb:b<t
 ·refine⟨hb, ?_⟩;simp[bF,hb] at h;unfold aIA at h
  split at h
  ·simpa[bF] using(bT.inj h).symm
  ·cases h
 ·simp[bF,hb] at h
theorem aIY(hp:p∈bX)(hT:nV p T)(cs:List Int):EOk p (cs.map<|uB p T)/\oY p (cs.map<|uB p T) T=true:=by
 refine⟨⟨λx hx=> ?_,λx hx=> ?_,λx hx b v hv=> ?_⟩,bN.mpr λx hx=>bN.mpr λb hb=> ?_⟩
 ·obtain⟨c,_,rfl⟩:=aH.mp hx;exact getD_mem (jJ hp c).1
 ·obtain⟨c,_,rfl⟩:=aH.mp hx;show(kC _ _ _).length=_;unfold kC;rw[aA,dP]
 ·obtain⟨c,_,rfl⟩:=aH.mp hx;obtain⟨hb,rfl⟩:=aCp (show(kC (T.getD (iA p c) []) c p.2.toNat).getD b none=some v from hv);have F:=hJ hp<|aBq hp hT (jJ hp c).1;exact F.wd _ (getD_mem<|by rw[F.len];exact hb)
 ·obtain⟨c,_,rfl⟩:=aH.mp hx;show kp1 ((kC (T.getD (iA p c) []) c p.2.toNat).getD b none) ((T.getD ((bC p).idxOf<|(bC p).getD (iA p c) []) []).getD b 0)=true;rw[aCb hp (jJ hp c).1];cases e:(kC (T.getD (iA p c) []) c p.2.toNat).getD b none with
  |none=>rfl
  |some v=>exact decide_eq_true (aCp e).2
noncomputable def zM(p:Int×Int)(x:Int):List Int×Wnt:=((bC p).getD (iA p x) [],((((bC p).getD (iA p<|x / 64) []).map some).set (x / 4096%p.2).toNat none))
theorem aIS(hp:p∈bX)(xs:List Int):EOk p (xs.map<|zM p):=by
 refine⟨λx hx=> ?_,λx hx=> ?_,λx hx b v hv=> ?_⟩
 ·obtain⟨c,_,rfl⟩:=aH.mp hx;exact getD_mem (jJ hp c).1
 ·obtain⟨c,_,rfl⟩:=aH.mp hx;show(List.set _ _ _).length=_;rw[gU,aA];exact(hJ hp<|getD_mem (jJ hp<|c / 64).1).len
 ·obtain⟨c,_,rfl⟩:=aH.mp hx;have F:=hJ hp<|getD_mem (d:=([]:List Int)) (jJ hp<|c / 64).1;have hv:((((bC p).getD (iA p<|c / 64) []).map some).set (c / 4096%p.2).toNat none).getD b none=some v:=hv;obtain⟨w,ew⟩:∃w,(bC p).getD (iA p<|c / 64) []=w:=⟨_,rfl⟩;rw[ew] at hv;have F:Fil p w:=ew▸F
  by_cases e:(c / 4096%p.2).toNat=b
  ·rw[e] at hv
   by_cases hb:b<(w.map some).length
   ·rw[kX hb] at hv;cases hv
   ·rw[List.set_eq_of_length_le<|by omega] at hv;simp[bF,cO (show(w.map some).length<=b by omega)] at hv
  ·rw[qF e] at hv
   by_cases hb:b<w.length
   ·simp[bF,hb] at hv;exact F.wd v (by rw[<-hv];exact eU hb)
   ·simp[bF,cO<|pN hb] at hv
noncomputable def vV(p:Int×Int)(T:List (List Int))(c:Int):List (List Int):=T.set (iA p c)<|(bC p).getD (iA p<|c / 64) []
theorem aAH(hp:p∈bX):∀ (cs:List Int) {T:List (List Int)},nV p T->nV p (cs.foldl (vV p) T)
 |[],_,h=>h
 |c::cs,T,h=>by
  refine aAH hp cs (T:=vV p T c) ⟨by unfold vV;rw[gU];exact h.1,λw hw=> ?_⟩
  rcases nU hw with q|q
  ·exact h.2 w q
  ·rw[q];exact hJ hp<|getD_mem (jJ hp<|c / 64).1
noncomputable def yJ(n:Nat)(c:Int):List Nat:=((cK c 20).map λx=>(x%(n:Int)).toNat).take (c%21).toNat
theorem aGi{n:Nat}(hn:0<n)(c:Int):(∀t∈yJ n c,t<n)/\(yJ n c).length<=20:=by
 refine⟨λt ht=> ?_, ?_⟩
 ·obtain⟨x,_,rfl⟩:=aH.mp<|iY ht;have h0:=bP x (show(n:Int)≠0 by omega);have h1:=bM x (show(0:Int)<(n:Int) by omega);omega
 ·unfold yJ;rw[cW];have h0:=bP c (show(21:Int)≠0 by decide);have h1:=bM c (show(0:Int)<21 by decide);omega
structure aMG(K:aB)(mg:Str->Option BH)(CN:BJ):Prop where
 ex:lB K CN aMT "ValueError.__new__"=true
 nw:mg "NoWish"=some (.ref CN)/\True
 nx:qM K (.ref CN) (.ref CN)=some true
theorem uD{α:Type}{f:α->D}{l:List α}{i:Nat}{d:D}(h:(l.map f)[i]? =some d):∃x,l[i]? =some x/\d=f x/\True:=by rw[bL] at h;obtain⟨x,h1,h2⟩:=cS.mp h;exact⟨x,h1,h2.symm,trivial⟩
def aDB:List D->R->Prop:=λds r=>∃p L row ws,p∈bX/\aDe p L/\(∀t∈row,t<L.length)/\Fil p ws/\row.length<=100/\ds=[cH p,.lst<|L.map skD,.lst<|lX row,aT ws]/\r=.val (aT<|pK p L row ws)
def aBZ:List D->R->Prop:=λds r=>∃ (p:Int×Int) (T:List (List Int)) (ns:List Int),p∈bX/\nV p T/\ns.length<=63/\ds=[.scr ns,cH p,.tup<|T.map aT,.lst<|(bC p).map aT]/\r=.own (((jC ns 6 40<|ns.getD 5 0).map<|uB p T).map exD)
def aEq:List D->R->Prop:=λds r=>∃p E T,p∈bX/\EOk p E/\nV p T/\ds=[.lst<|E.map exD,.lst<|(bC p).map aT,.tup<|T.map aT]/\r=.val (.bl<|oY p E T)
def aDR:List D->R->Prop:=λds r=>∃ (p:Int×Int) (T:List (List Int)) (cs:List Int),p∈bX/\nV p T/\ds=[.tup<|T.map aT,.lst<|cs.map D.int,.lst<|(bC p).map aT]/\r=.val (.tup<|(cs.foldl (vV p) T).map aT)
def aDy:List D->R->Prop:=λds r=>∃p E,p∈bX/\EOk p E/\E.length<=100/\ds=[cH p,.lst<|E.map exD]/\r=.val (if(gth E).isSome=true then .lst ((cE p E).map wsD) else .non)
theorem aMQ{α:Type}{us:List α}{n:Nat}(h:us.length=n+1):∃a r,us=a::r/\r.length=n:=by
 cases us with
 |nil=>cases h
 |cons a r=>exact⟨a,r,rfl,Nat.succ.inj h⟩
theorem aOz{α:Type}{us:List α}(h:us.length=1):∃a,us=[a]:=by obtain⟨a,r,rfl,h2⟩:=aMQ h;exact⟨a,by rw[yQ h2]⟩
theorem aOF{α:Type}{us:List α}(h:us.length=2):∃a b,us=[a,b]:=by obtain⟨a,r,rfl,h2⟩:=aMQ h;obtain⟨b,rfl⟩:=aOz h2;exact⟨a,b,rfl⟩
theorem aOA{α:Type}{us:List α}(h:us.length=3):∃a b c,us=[a,b,c]:=by obtain⟨a,r,rfl,h2⟩:=aMQ h;obtain⟨b,c,rfl⟩:=aOF h2;exact⟨a,b,c,rfl⟩
theorem len4{α:Type}{us:List α}(h:us.length=4):∃a b c d,us=[a,b,c,d]:=by obtain⟨a,r,rfl,h2⟩:=aMQ h;obtain⟨b,c,d,rfl⟩:=aOA h2;exact⟨a,b,c,d,rfl⟩
theorem dL{P:AI}{K:aB}{mg:Str->Option BH}{base:BL}{x qual:Str}{st:BN}{f:BJ}{fd:AV}{N ps:List Str}{k:Nat}{C:List D->R->Prop}(F:Fun K x qual st f fd)(hm:mg x=some (.ref f))
  (body:∀ (cdv:BH) (A:BK) (outer:List Env) (s:BI) (H:Hp) (E:XK),Room k (A.deeper (Aj qual (bJ st) s.heap.objs.size f cdv))→∀ds r,ds.length=ps.length→C ds r→
   PSd (oM CX0 P w K mg base N qual (bJ st) f cdv A outer s H E).nox (init N.length ds) (fV st) {nx:=λ_=>r=.val .non,rt:=λr'=>r'=r})
  (S:nF N ps (bJ st):=by exact⟨rfl,rfl,rfl,by assumption,rfl,by decide+kernel,by decide+kernel⟩)
  (hb:∀ (kV doc pm:BH) (an:Option BJ) (cdv ct:BH) (us:List BH),us.length=ps.length→bindArgs (eQ x qual (iS st) (fV st) (bJ st) .none kV doc pm an cdv ct) ⟨us,[]⟩=pure (ps.zip us):=by
   intro _ _ _ _ _ _ _ h
   first
   |(obtain⟨_,rfl⟩:=aOz h;rfl)
   |(obtain⟨_,_,rfl⟩:=aOF h;rfl)
   |(obtain⟨_,_,_,rfl⟩:=aOA h;rfl)
   |(obtain⟨_,_,_,_,rfl⟩:=len4 h;rfl)
   |(obtain⟨_,_,_,_,_,rfl⟩:=len5 h;rfl)
   |(obtain⟨_,_,_,_,_,_,rfl⟩:=len6 h;rfl)):bV P w K mg base x (k+1) ps.length C:=aMo F S hm hb body
variable {p:Pos}{d:D}{ds:List D}{E:jM}{x:Str}
theorem pdv(i:Nat)(hs:sd[i]? =some (.val d):=by rfl)(h:PE X (.Name x pos) (qY i):=by exact pv _):PEd X sd (.Name x pos) (.val d):=lN i hs h
theorem mU(i:Nat)(h:PEd X sd e (.val d))(hE:E.nx (sd.set i<|.val d))(hN:X.N.Nodup:=by assumption)(hi:X.N[i]? =some x:=by rfl)(hx:Loc X.env.scope x:=by first|exact Or.inl rfl|exact Or.inr rfl)(hs:Af e (some<|.Name x p) pos.line X.env=pure false:=by rfl)
  (hf:X.fn x=true\/X.env.scope.names.lookup x=some .local:=by first|exact .inl rfl|exact .inr rfl|assumption):PSd1 X sd (.Assign [.Name x p] e pos) E:=jW i hN hi hx h hE hs hf
theorem qZ(i:Nat)(h:PEd X sd e (.own ds))(hE:∀l,E.nx (sd.set i<|.own l ds))(hN:X.N.Nodup:=by assumption)(hi:X.N[i]? =some x:=by rfl)(hx:Loc X.env.scope x:=by first|exact Or.inl rfl|exact Or.inr rfl)(hs:Af e (some<|.Name x p) pos.line X.env=pure false:=by rfl)
  (hf:X.fn x=true\/X.env.scope.names.lookup x=some .local:=by first|exact .inl rfl|exact .inr rfl|assumption):PSd1 X sd (.Assign [.Name x p] e pos) E:=qC i hN hi hx h hE hs hf
theorem pgn(i:Nat)(hN:X.N.Nodup:=by assumption)(hi:X.N[i]? =some x:=by rfl)(hx:Loc X.env.scope x:=by first|exact Or.inl rfl|exact Or.inr rfl)(hf:X.fn x=true\/X.env.scope.names.lookup x=some .local:=by first|exact .inl rfl|exact .inr rfl|assumption):PG X (.Name x pos) (aDc i):=aAY hN hi hx hf
end DL
set_option maxHeartbeats 400000
namespace K35
open PySem PySem.Spec PyProof.Rows L2 DL
noncomputable def top(i:Nat):BN:=PySem.Challenge.pw_leastrow_k35_whole_examples_and_tables.main.body.getD i<|.Pass ⟨0,0,0,0⟩
noncomputable abbrev aHZ:BN:=top 4
noncomputable abbrev aDh:BN:=top 5
noncomputable abbrev aLl:BN:=top 6
noncomputable abbrev sBw:BN:=top 8
noncomputable abbrev aMF:BN:=top 9
noncomputable abbrev aMM:BN:=top 10
noncomputable abbrev sHw:BN:=top 11
noncomputable abbrev aME:BN:=top 12
noncomputable abbrev aMR:BN:=top 13
noncomputable abbrev aIL:BN:=top 15
noncomputable abbrev aKL:BN:=top 16
noncomputable abbrev sBc:BN:=top 17
noncomputable abbrev aMH:BN:=top 18
noncomputable abbrev sLc:BN:=top 19
noncomputable abbrev sLo:BN:=top 20
noncomputable abbrev aEa:BN:=top 22
noncomputable abbrev aEb:BN:=top 24
noncomputable abbrev aHB:BN:=top 25
noncomputable abbrev aOR:BN:=top 26
noncomputable abbrev aDm:BN:=top 27
noncomputable abbrev aIg:BN:=top 28
noncomputable abbrev aHM:BN:=top 29
noncomputable abbrev vI:BN:=top 30
noncomputable abbrev aDl:BN:=top 31
noncomputable abbrev aBx:BN:=top 32
noncomputable abbrev aBT:BN:=top 33
noncomputable abbrev aKJ:BN:=top 34
noncomputable abbrev aHt:BN:=top 35
noncomputable abbrev aHr:BN:=top 36
noncomputable abbrev aIC:BN:=top 37
noncomputable abbrev aLm:BN:=top 38
noncomputable abbrev aKQ:BN:=top 39
noncomputable abbrev tF:BN:=top 40
variable {P:AI}{w:AL}{K:aB}{mg:Str->Option BH}{base:BL}{f:BJ}{fd:AV}
theorem aOu{u d n c:Nat}(h:u+n<c)(hd:d+1<=n):u+d+1<c:=by omega
theorem aIN(q:SQ):pl (sqD q)=true:=by
 show pl (mW _ _ _ _)=true;unfold mW
 split
 ·rfl
 ·split<;>rfl
theorem aHT(q:SQ):dep (sqD q)=1:=by
 show dep (mW _ _ _ _)=1;unfold mW
 split
 ·rfl
 ·split<;>rfl
theorem aId(q:SQ):isT (sqD q)=true:=by
 show isT (mW _ _ _ _)=true;unfold mW
 split
 ·rfl
 ·split<;>rfl
theorem aLJ(q:SQ):noL (sqD q)=true:=by
 show noL (mW _ _ _ _)=true;unfold mW
 split
 ·rfl
 ·split<;>rfl
theorem sZ{α:Type}(g:α->D)(h:∀a,noL (g a)=true):∀l:List α,pY (l.map g)=true
 |[]=>rfl
 |a::l=>by show(noL (g a)&&pY (l.map g))=true;rw[h a,sZ g h l];rfl
theorem aDJ{α:Type}(g:α->D)(h:∀a,pl (g a)=true):∀l:List α,plL (l.map g)=true
 |[]=>rfl
 |a::l=>by show(pl (g a)&&plL (l.map g))=true;rw[h a,aDJ g h l];rfl
theorem aBV{α:Type}(g:α->D)(n:Nat)(h:∀a,dep (g a)<=n):∀l:List α,pH (l.map g)<=n
 |[]=>bI _
 |a::l=>Nat.max_le.mpr ⟨h a,aBV g n h l⟩
noncomputable def pJ:D->D
 |.tup (x::_)=>x
 |_=>.non
noncomputable def twoT:D->List Slot->List Slot
 |.tup [x,y],r=>.val x::.val y::r
 |_,r=>.un::.un::r
def aHp:List D->R->Prop:=λds r=>∃p:Int×Int,ds=[cH p]/\0<=p.1/\p.1<=60/\r=.val (.int<|2^p.1.toNat)
theorem aGt(F:Fun K "word_count" "word_count" aHZ f fd)(zrange:mg "range"=none)(hm:mg "word_count"=some (.ref f)):bV P w K mg base "word_count" 1 1 aHp:=by
 have nd:(["size","count","bit"]:List Str).Nodup:=by decide+kernel
 refine dL (N:=["size","count","bit"]) (ps:=["size"]) (k:=0) F hm λcdv A outer s H E hr ds r hl c=> ?_
 obtain⟨p,rfl,h0,h1,rfl⟩:=c;have ep:p.1=((p.1.toNat:Nat):Int):=by omega
 refine aN<|jW 1 nd rfl (Or.inl rfl) bD ?_;refine aN<|nI (ds:=gB 0 p.1.toNat) (λk=>[.val<|cH p,.val (.int<|2^k),.un]) (λk=>[.val<|cH p,.val (.int<|2^k),.val (.int<|0+(k:Int))]) (gE (n:=p.1.toNat) rfl zrange (PEd.cast (fW (n:=0) (d:=.int p.1) (pdv 0) bD rfl λ_ _=>rfl)<|by rw[<-ep])<|by omega) ⟨.inr rfl,.inr rfl,.inr rfl,trivial⟩ (λi d hd=> ?_) (λi d hd=> ?_) ?_
 ·obtain⟨_,rfl⟩:=eI hd;exact eA 2<|pgn 2
 ·refine bG<|jW 1 nd rfl (Or.inl rfl) (bZ iI (pdv 1) bD (aFN (by decide)<|by decide)) ?_;exact⟨.inr rfl,.inr rfl,.inl rfl,trivial⟩
 ·refine bG<|cJ (pdv 1) trivial ?_;rw[fA]
def aKZ:List D->R->Prop:=λds r=>∃ (L:List (List Int)) (m:Nat),ds=[.lst<|L.map aT,.int (m:Int)]/\L.length*m<=900/\m<=64/\(∀s∈L,s.length<=100)/\r=.own ((L.flatMap λs=>(bK m).map λ(w:Nat)=>s++[(w:Int)]).map aT)
abbrev nl0:List Str:=["starts","count","longer","start"]
theorem aJa(F:Fun K "with_each_word" "with_each_word" aDh f fd)(zrange:mg "range"=none)(hm:mg "with_each_word"=some (.ref f)):bV P w K mg base "with_each_word" 1 2 aKZ:=by
 have nd:nl0.Nodup:=by decide+kernel
 refine dL (N:=nl0) (ps:=["starts","count"]) (k:=0) F hm λcdv A outer s H E hr ds r hl c=> ?_
 obtain⟨L,m,rfl,hL,hm64,hs,rfl⟩:=c;have nd2:(["word","start"]:List Str).Nodup:=by decide+kernel
 refine aN<|qC 2 nd rfl (Or.inl rfl) (gL (ds:=[]) aS<|bI _) λl=> ?_;refine aN<|nI (ds:=L.map aT) (λk=>[.val (.lst<|L.map aT),.val<|.int (m:Int),.own l<|((L.take k).flatMap λs=>(bK m).map λ(w:Nat)=>s++[(w:Int)]).map aT,.un]) (λk=>[.val (.lst<|L.map aT),.val<|.int (m:Int),.own l<|((L.take k).flatMap λs=>(bK m).map λ(w:Nat)=>s++[(w:Int)]).map aT,.val (aT<|L.getD k [])]) (gR<|pdv 0) ⟨.inr rfl,.inr rfl,.inr rfl,.inr rfl,trivial⟩ (λk d hd=> ?_) (λk d hd=> ?_) ?_
 ·obtain⟨_,rfl⟩:=pX hd;exact eA 3<|pgn 3
 ·obtain⟨hk,rfl⟩:=pX hd;have hmem:L.getD k []∈L:=getD_mem hk
  have et:L.take (k+1)=L.take k++[L.getD k []]:=by rw[dO];simp[bF,hk]
  have lk:(L.take k).length*m+m<=900:=by
   have h1:(L.take k).length+1<=L.length:=by rw[cW];omega
   have h2:=aFC m h1;rw[aFv] at h2;omega
  have comp:∀ {pos:Pos},PEd (oM CX0 P w K mg base nl0 "with_each_word" (bJ aDh) f cdv A outer s H E).nox [.val (.lst<|L.map aT),.val<|.int (m:Int),.own l<|((L.take k).flatMap λs=>(bK m).map λ(w:Nat)=>s++[(w:Int)]).map aT,.val (aT<|L.getD k [])] (match(fV aDh).getD 1 (.Pass ⟨0,0,0,0⟩) with | .For _ _ [.Expr (.Call _ [c] _ _) _] _ _=>c|_=> .Constant .none 0 ⟨0,0,0,0⟩) (.own (((gB 0 m).filter λ_=>true).map λd=>D.tup<|(L.getD k []).map D.int++[d])):=λ{pos}=>by
   refine kR (N:=["word","start"]) (M:=nl0) (cap:=[none,some 3]) (sc:=bJ aDh) (Tb:=λd=>[.val d,.val (aT<|L.getD k [])]) (λ_=>true) (λd=>D.tup<|(L.getD k []).map D.int++[d]) (gE (n:=m) rfl zrange (pdv 1)<|by omega) (by rw[fA];omega) rfl (by decide+kernel) rfl (by decide+kernel) rfl (λcl C fp s H d _=>eA 0<|pgn 0) (λd _=>⟨.inl rfl,.inr rfl,trivial⟩) (λcl C fp s H d _=>.inl ⟨rfl,rfl⟩) λcl C fp s H d _ _=> ?_
   refine aEv (pdv 1) (jK (ds:=[d]) (aD (pdv 0) aS)<|aP rfl) ?_;have:=hs _ hmem;simp only[aA,cM,gW];omega
  have ec:((gB 0 m).filter λ_=>true).map (λd=>D.tup<|(L.getD k []).map D.int++[d])=((bK m).map λ(w:Nat)=>L.getD k []++[(w:Int)]).map aT:=by
   rw[dJ.mpr λ_ _=>rfl];unfold gB;rw[aX,aX];refine cI λw _=> ?_
   simp[aT]
  refine bG<|yI 2 rfl (pv 2) (PEd.val<|comp (pos:=⟨0,0,0,0⟩)) ?_ ?_
  ·rw[aA,qE,ec,aA,aA,dP];omega
  ·refine⟨.inr rfl,.inr rfl,.inr ?_,.inl rfl,trivial⟩;rw[et,ec,rW,aI];simp
 ·refine bG<|mG 2 rfl (pv 2) ?_;show R.own _=R.own _;rw[aA,fS]
def aCv:List D->R->Prop:=λds r=>∃p,p∈bX/\ds=[cH p]/\r=.own ((hW (2^p.1.toNat) p.2.toNat).map aT)
theorem aJp(F:Fun K "fillings" "fillings" aLl f fd)(zrange:mg "range"=none)(hm:mg "fillings"=some (.ref f))(GC:bV P w K mg base "word_count" 1 1 aHp)(GE:bV P w K mg base "with_each_word" 1 2 aKZ):bV P w K mg base "fillings" 2 1 aCv:=by
 have nd:(["size","count","told","box"]:List Str).Nodup:=by decide+kernel
 refine dL (N:=["size","count","told","box"]) (ps:=["size"]) (k:=1) F hm λcdv A outer s H E hr ds r hl c=> ?_
 obtain⟨p,hp,rfl,rfl⟩:=c;obtain⟨h1,h2,h3,h4,h5⟩:=sC p hp;have e2:p.2=((p.2.toNat:Nat):Int):=by omega
 have m64:2^p.1.toNat<=64:=by
  have:p.1.toNat<=6:=by omega
  exact cP (rU (by decide) this)<|by decide
 have ec:(2:Int)^p.1.toNat=((2^p.1.toNat:Nat):Int):=by push_cast;rfl
 refine aN<|jW 1 nd rfl (Or.inl rfl) (bY (ds:=[cH p]) GC hr rfl (aD (pdv 0) aS) ⟨p,rfl,by omega,by omega,rfl⟩ trivial rfl) ?_;refine aN<|qZ (ds:=[aT []]) 2 (gL (ds:=[aT []]) (aD (jK (ds:=[]) aS<|bI _) aS)<|aP rfl) λl=> ?_;refine aN<|iB (ds:=gB 0 p.2.toNat) (λk sd=>∃l,sd=[.val<|cH p,.val (.int<|2^p.1.toNat),.own l<|(hW (2^p.1.toNat) k).map aT,.un]) (gE (n:=p.2.toNat) rfl zrange (PEd.cast (fW (n:=1) (d:=.int p.2) (pdv 0) bD rfl λ_ _=>rfl)<|by rw[<-e2])<|by omega) ⟨_,Le.refl _,l,rfl⟩ (λk d sdk hd hk=> ?_) λsdn hn=> ?_
 ·obtain⟨hk2,rfl⟩:=eI hd;obtain⟨l2,rfl⟩:=hk;refine⟨[.val<|cH p,.val (.int<|2^p.1.toNat),.own l2<|(hW (2^p.1.toNat) k).map aT,.val (.int<|0+(k:Int))],eA 3<|pgn 3, ?_⟩;refine nJ 2 rfl ?_;refine bG (qC 2 nd rfl (Or.inl rfl) (bY (ds:=[.lst<|(hW (2^p.1.toNat) k).map aT,.int ((2^p.1.toNat:Nat):Int)]) GE hr rfl (aD (pdv 2)<|aD (PEd.cast (pdv 1)<|by rw[ec]) aS) ⟨hW (2^p.1.toNat) k,2^p.1.toNat,rfl, ?_,m64,λs hs=> ?_,rfl⟩ trivial rfl) λl3=> ?_)
  ·rw[vN];exact aAj p hp k hk2
  ·rw[xZ _ _ s hs];omega
  ·exact⟨[.val<|cH p,.val (.int<|2^p.1.toNat),.own l3<|(hW (2^p.1.toNat)<|k+1).map aT,.un],⟨.inr rfl,.inr rfl,.inr rfl,.inl rfl,trivial⟩,l3,rfl⟩
 ·rw[fA] at hn;obtain⟨l2,rfl⟩:=hn;exact bG<|mG 2 rfl (pv 2) rfl
abbrev nl1:List Str:=["one","other"]
theorem aJZ{CN:BJ}(F:Fun K "both_words" "both_words" sBw f fd)(xk:aMG K mg CN)(hm:mg "both_words"=some (.ref f)):bV P w K mg base "both_words" 1 2 CBw/\hR P w K mg base "both_words" 1 2 XBw (.ref CN) [] []:=by
 have nd:nl1.Nodup:=by decide+kernel
 constructor
 ·refine dL (N:=nl1) (ps:=nl1) (k:=0) F hm λcdv A outer s H E hr ds r hl c=> ?_
  obtain⟨a,b,c,h,rfl,rfl⟩:=c;cases a with
  |none=>cases h;exact aN<|jV (fO (d:=.non) (pdv 0) eB) rfl (bG<|cJ (pdv 1) trivial rfl)
  |some x=>
   refine aN (fU (fO (d:=.int x) (pdv 0) eB) rfl<|dS ?_);cases b with
   |none=>cases h;exact aN<|jV (k:=true) (PWd.pt<|vW (k:=true) (j:=true) (fO (d:=.non) (pdv 1) eB) λh=>by cases h) rfl (bG<|cJ (r:=.val<|.int x) (pdv 0) trivial rfl)
   |some y=>
    have h:(if y=x then some (some x) else none)=some c:=h
    split at h
    ·rename_i e;cases h;exact aN<|jV (k:=true) (PWd.pt (vW (k:=false) (j:=true) (fO (d:=.int y) (pdv 1) eB) λ_=>vG (PTd.cast (oV (i:=y) (j:=x) (pdv 1)<|pdv 0)<|decide_eq_true e))) rfl (bG<|cJ (r:=.val<|.int x) (pdv 0) trivial rfl)
    ·cases h
 ·refine qW (N:=nl1) (ps:=nl1) (k:=0) F ⟨rfl,rfl,rfl,nd,rfl,by decide+kernel,by decide+kernel⟩ hm (λ_ _ _ _ _ _ us hl=>match us,hl with | [_,_],_=>rfl) λcdv A outer s H E hr hE ds hl c=> ?_
  obtain⟨a,b,h,rfl⟩:=c;obtain⟨x,y,rfl,rfl,ne⟩:=aLh h;refine aN (fU (fO (d:=.int x) (pdv 0) eB) rfl<|dS ?_);refine aN (fU (k:=false) (PWd.pt (vW (k:=false) (j:=false) (fO (d:=.int y) (pdv 1) eB) λ_=>vG (PTd.cast (oV (i:=y) (j:=x) (pdv 1)<|pdv 0)<|decide_eq_false ne))) rfl<|dS ?_);exact bG (aAs (ds:=[.str _]) rfl xk.nw.1 xk.ex (xJ hE) (aD gS aS)<|aP rfl)
theorem aFX{CN:BJ}(F:Fun K "both_wanted" "both_wanted" aMF f fd)(ztuple:mg "tuple"=none)(zzip:mg "zip"=none)(hm:mg "both_wanted"=some (.ref f))(GB:bV P w K mg base "both_words" 1 2 CBw/\hR P w K mg base "both_words" 1 2 XBw (.ref CN) [] []):bV P w K mg base "both_wanted" 2 2 aOv/\hR P w K mg base "both_wanted" 2 2 aOE (.ref CN) [] []:=by
 have nd:nl1.Nodup:=by decide+kernel
 have nd2:(["word","another"]:List Str).Nodup:=by decide+kernel
 constructor
 ·refine dL (N:=nl1) (ps:=nl1) (k:=1) F hm λcdv A outer s H E hr ds r hl c=> ?_
  obtain⟨u,v,x,hl2,h9,h,rfl,rfl⟩:=c;obtain⟨l1,l2⟩:=sQ hl2 h;refine bG<|cJ (mD (ds:=x.map oiD) rfl ztuple (PEd.bor<|PEd.val (PEd.cast (kR (ds:=mS (u.map oiD)<|v.map oiD) (N:=["word","another"]) (M:=nl1) (cap:=[none,none]) (sc:=bJ aMF) (Tb:=λd=>match d with | .tup [a,b]=>[.val a,.val b] | _=>[.un,.un]) (λ_=>true) fbw (tD true true rfl zzip (pdv 0)<|pdv 1) (by rw[mH,aA,aA];omega) rfl (by decide+kernel) rfl (by decide+kernel) rfl (λcl C fp s H d hd=> ?_) (λd hd=> ?_) (λcl C fp s H d hd=>.inl ⟨rfl,rfl⟩) λcl C2 fp s H d hd _=> ?_)<|by rw[aJq hl2 h]))) trivial rfl
  ·obtain⟨t,ht,ht2,rfl⟩:=vU d hd;exact kS (js:=[0,1]) rfl (fD (pgn 0)<|fD (pgn 1) kU) rfl rfl
  ·obtain⟨t,ht,ht2,rfl⟩:=vU d hd;exact⟨.inl rfl,.inl rfl,trivial⟩
  ·obtain⟨t,ht,ht2,rfl⟩:=vU d hd;show PEd _ _ _ (.val (oiD<|(bw (oiO<|oiD _) (oiO<|oiD _)).getD none));rw[uK,uK,l2 t ht];exact bY (ds:=[oiD<|u.getD t none,oiD<|v.getD t none]) (r:=.val (oiD<|x.getD t none)) GB.1 hr rfl (aD (pdv 0)<|aD (pdv 1) aS) ⟨_,_,_,l2 t ht,rfl,rfl⟩ trivial rfl
 ·refine qW (N:=nl1) (ps:=nl1) (k:=1) F ⟨rfl,rfl,rfl,nd,rfl,by decide+kernel,by decide+kernel⟩ hm (λ_ _ _ _ _ _ us hl=>match us,hl with | [_,_],_=>rfl) λcdv A outer s H E hr hE ds hl c=> ?_
  obtain⟨u,v,hl2,h9,h,rfl⟩:=c;obtain⟨n,hn,q1,q2⟩:=wL hl2 h;have zl:(mS (u.map oiD)<|v.map oiD).length=u.length:=by rw[mH,aA,aA,<-hl2,nA]
  have zg:∀ {k:Nat}{d:D},(mS (u.map oiD)<|v.map oiD)[k]? =some d->d=.tup [oiD<|u.getD k none,oiD<|v.getD k none]:=λ{k d} hd=>by obtain⟨x,y,p1,p2,rfl⟩:=nY hd;obtain⟨_,rfl⟩:=wH p1;obtain⟨_,rfl⟩:=wH p2;rfl
  refine bG (xK<|aLI rfl ztuple PyProof.Rows.boot_tuple rF (aEd (cls:=.ref CN) (ds:=mS (u.map oiD)<|v.map oiD) (N:=["word","another"]) (M:=nl1) (cap:=[none,none]) (sc:=bJ aMF) (Tb:=λd=>match d with | .tup [a,b]=>[.val a,.val b] | _=>[.un,.un]) fbw n (by rw[zl];exact hn) (tD true true rfl zzip (pdv 0)<|pdv 1) (by rw[zl];omega) rfl (by decide+kernel) rfl (by decide+kernel) rfl (λcl C fp s H ξ d hd=> ?_) (λd hd=> ?_) (λcl C fp s H ξ k d hd hk=> ?_) (λcl C fp s H ξ Old d hd hth htk=> ?_)<|oJ hE))
  ·obtain⟨t,ht,ht2,rfl⟩:=vU d hd;exact kS (js:=[0,1]) rfl (fD (pgn 0)<|fD (pgn 1) kU) rfl rfl
  ·obtain⟨t,ht,ht2,rfl⟩:=vU d hd;exact⟨.inl rfl,.inl rfl,trivial⟩
  ·have:=zg hd;subst this;obtain⟨c,hc⟩:=q2 k hk;show PEd _ _ _ (.val (oiD<|(bw (oiO<|oiD _) (oiO<|oiD _)).getD none));rw[uK,uK,hc];exact bY (ds:=[oiD<|u.getD k none,oiD<|v.getD k none]) (r:=.val<|oiD c) GB.1 hr rfl (aD (pdv 0)<|aD (pdv 1) aS) ⟨_,_,_,hc,rfl,rfl⟩ trivial rfl
  ·have:=zg hd;subst this;exact pU (ds:=[oiD<|u.getD n none,oiD<|v.getD n none]) (dds:=[]) GB.2 hth hr rfl (aD (pdv 0)<|aD (pdv 1) aS) (λ_=>RepL.nil) ⟨_,_,q1,rfl⟩ rfl htk
theorem aAT{E:Exs}:∀ {t:Nat}{G:List (List Int)×List Wnt},lY E t=some G->G.2.length<=t
 |0,G,h=>by cases h;exact aG _
 |t+1,G,h=>by
  obtain⟨G0,h0,h1⟩:=oG.mp (show(lY E t).bind _=some G from h);have:=aAT h0;unfold uL at h1
  split at h1
  ·obtain⟨u,_,rfl⟩:=cS.mp h1;rw[gU];omega
  ·cases h1;rw[bR];show _+1<=_;omega
abbrev nl2:List Str:=["examples","gathered","filling","wanted"]
theorem aGs{CN:BJ}(F:Fun K "wanted_by_filling" "wanted_by_filling" aMM f fd)(hm:mg "wanted_by_filling"=some (.ref f))(GB:bV P w K mg base "both_wanted" 2 2 aOv/\hR P w K mg base "both_wanted" 2 2 aOE (.ref CN) [] []):bV P w K mg base "wanted_by_filling" 3 1 (aOM P w K)/\hR P w K mg base "wanted_by_filling" 3 1 aOP (.ref CN) [] []:=by
 have nd:nl2.Nodup:=by decide+kernel
 constructor
 ·refine dL (N:=nl2) (ps:=["examples"]) (k:=2) F hm λcdv A outer s H E hr ds r hl c=> ?_
  obtain⟨p,L,Gf,hp,O,h9,hG,rfl,rfl⟩:=c;obtain⟨z1,z2,z3,z4,z5⟩:=sC p hp;have hu:(A.deeper<|Aj "wanted_by_filling" (bJ aMM) s.heap.objs.size f cdv).units+1<AR:=by have:=hr.un;omega
  refine aN<|aAg 1 nd rfl (Or.inl rfl) λl=> ?_;refine aN<|iB (ds:=L.map exD) (λt sd=>∃G,lY L t=some G/\sd=[.val (.lst<|L.map exD),odT P w K l (G.1.map kY)<|G.2.map wnD,.un,.un]) (gR<|pdv 0) ⟨_,Le.refl _,([],[]),rfl,rfl⟩ (λt d sdt hd ht=> ?_) λsdn hn=> ?_
  ·obtain⟨htl,rfl⟩:=aHV hd;obtain⟨G,hGt,rfl⟩:=ht;have K0:=gok O (by omega) hGt;have xm:L.getD t ([],[])∈L:=getD_mem htl;have wl:=O.len _ xm
   have gs:lY L (t+1)=uL G (L.getD t ([],[])):=by show(lY L t).bind _=_;rw[hGt];rfl
   have gl:G.2.length<=t:=by have:=aAT hGt;omega
   generalize L.getD t ([],[])=x at xm wl gs;refine⟨[.val (.lst<|L.map exD),odT P w K l (G.1.map kY)<|G.2.map wnD,.val<|aT x.1,.val<|wnD x.2],kS (ds:=[aT x.1,wnD x.2]) (js:=[2,3]) rfl (fD (pgn 2)<|fD (pgn 3) kU) rfl rfl, ?_⟩
   by_cases hm:x.1∈G.1
   ·have il:G.1.idxOf x.1<G.2.length:=by rw[<-K0.ln];exact bO hm
    have ul:=K0.wl _<|getD_mem (d:=([]:Wnt)) il;have gs:lY L (t+1)=(bwt (G.2.getD (G.1.idxOf x.1) []) x.2).map λu=>(G.1,G.2.set (G.1.idxOf x.1) u):=by rw[gs];exact if_pos hm
    cases hb:bwt (G.2.getD (G.1.idxOf x.1) []) x.2 with
    |none=>rw[hb] at gs;obtain⟨G',e⟩:=aCk (t:=t+1) hG htl;rw[gs] at e;cases e
    |some u=>rw[hb] at gs;refine bG<|aAh (n:=G.1.idxOf x.1) (k:=kY x.1) (d:=wnD u) 1 hu rfl (pv 1) (bY (ds:=[wnD<|G.2.getD (G.1.idxOf x.1) [],wnD x.2]) GB.1 hr rfl (aD (oN (k:=kY x.1) (d:=wnD<|G.2.getD (G.1.idxOf x.1) []) 1 hu (nZ rfl) (PEd.cast (pdv 2)<|by rw[tN]) (pdv 3) (λn hn=>by obtain⟨_,e⟩:=uG K0.nd hn;rw[e];exact aFM il) λq=>(q<|aH.mpr ⟨_,hm,rfl⟩).elim)<|aD (pdv 3) aS) ⟨_,_,u,by rw[ul,wl],by rw[ul];omega,hb,rfl,rfl⟩ trivial rfl) (PEd.cast (pdv 2)<|by rw[tN]) (aCe K0.nd) (aHm hm) ?_;refine⟨[.val (.lst<|L.map exD),odT P w K l (G.1.map kY)<|(G.2.set (G.1.idxOf x.1) u).map wnD,.un,.un],⟨.inr rfl,.inr ?_,.inl rfl,.inl rfl,trivial⟩,_,gs,rfl⟩;rw[pP];rfl
   ·have gs:lY L (t+1)=some (G.1++[x.1],G.2++[x.2]):=by rw[gs];exact if_neg hm
    refine bG<|aAq (k:=kY x.1) (d:=wnD x.2) 1 hu rfl (pv 1) (bY (ds:=[wnD x.2,wnD x.2]) GB.1 hr rfl (aD (oN (k:=kY x.1) (d:=wnD x.2) 1 hu (nZ rfl) (PEd.cast (pdv 2)<|by rw[tN]) (pdv 3) (λn hn=>(hm (uG K0.nd hn).1).elim) λ_=>rfl)<|aD (pdv 3) aS) ⟨_,_,x.2,rfl,by rw[wl];omega,wV _,rfl,rfl⟩ trivial rfl) (PEd.cast (pdv 2)<|by rw[tN]) (aBN hm) (by rw[aA];omega) ?_;refine⟨[.val (.lst<|L.map exD),odT P w K l ((G.1++[x.1]).map kY)<|(G.2++[x.2]).map wnD,.un,.un],⟨.inr rfl,.inr ?_,.inl rfl,.inl rfl,trivial⟩,_,gs,rfl⟩;rw[aI,aI];rfl
  ·obtain⟨G,hGt,rfl⟩:=hn;rw[aA] at hGt
   have e:G=Gf:=by have hG:lY L L.length=some Gf:=hG;rw[hG] at hGt;exact(bT.inj hGt).symm
   subst e;exact bG<|aFZ 1 rfl (pv 1) (λv F H q=>⟨l,rfl,q⟩) rfl
 ·refine qW (N:=nl2) (ps:=["examples"]) (k:=2) F ⟨rfl,rfl,rfl,nd,rfl,by decide+kernel,by decide+kernel⟩ hm (λ_ _ _ _ _ _ us hl=>match us,hl with | [_],_=>rfl) λcdv A outer s H E hr hE ds hl c=> ?_
  obtain⟨p,L,hp,O,h9,hG,rfl⟩:=c;obtain⟨z1,z2,z3,z4,z5⟩:=sC p hp;have hu:(A.deeper<|Aj "wanted_by_filling" (bJ aMM) s.heap.objs.size f cdv).units+1<AR:=by have:=hr.un;omega
  refine aN<|aAg 1 nd rfl (Or.inl rfl) λl=> ?_;refine aN<|iB (ds:=L.map exD) (λt sd=>∃G,lY L t=some G/\sd=[.val (.lst<|L.map exD),odT P w K l (G.1.map kY)<|G.2.map wnD,.un,.un]) (gR<|pdv 0) ⟨_,Le.refl _,([],[]),rfl,rfl⟩ (λt d sdt hd ht=> ?_) (λsdn hn=> ?_) (hp:=PassesOwn.leaving)
  ·obtain⟨htl,rfl⟩:=aHV hd;obtain⟨G,hGt,rfl⟩:=ht;have K0:=gok O (by omega) hGt;have xm:L.getD t ([],[])∈L:=getD_mem htl;have wl:=O.len _ xm
   have gs:lY L (t+1)=uL G (L.getD t ([],[])):=by show(lY L t).bind _=_;rw[hGt];rfl
   have gl:G.2.length<=t:=by have:=aAT hGt;omega
   generalize L.getD t ([],[])=x at xm wl gs;refine⟨[.val (.lst<|L.map exD),odT P w K l (G.1.map kY)<|G.2.map wnD,.val<|aT x.1,.val<|wnD x.2],kS (ds:=[aT x.1,wnD x.2]) (js:=[2,3]) rfl (fD (pgn 2)<|fD (pgn 3) kU) rfl rfl, ?_⟩
   by_cases hm:x.1∈G.1
   ·have il:G.1.idxOf x.1<G.2.length:=by rw[<-K0.ln];exact bO hm
    have ul:=K0.wl _<|getD_mem (d:=([]:Wnt)) il;have gs:lY L (t+1)=(bwt (G.2.getD (G.1.idxOf x.1) []) x.2).map λu=>(G.1,G.2.set (G.1.idxOf x.1) u):=by rw[gs];exact if_pos hm
    cases hb:bwt (G.2.getD (G.1.idxOf x.1) []) x.2 with
    |none=>rw[hb] at gs;exact bG<|aFW (pU (ds:=[wnD<|G.2.getD (G.1.idxOf x.1) [],wnD x.2]) (dds:=[]) GB.2 (tZ rfl) hr rfl (aD (oN (k:=kY x.1) (d:=wnD<|G.2.getD (G.1.idxOf x.1) []) 1 hu (nZ rfl) (PEd.cast (pdv 2)<|by rw[tN]) (pdv 3) (λn hn=>by obtain⟨_,e⟩:=uG K0.nd hn;rw[e];exact aFM il) λq=>(q<|aH.mpr ⟨_,hm,rfl⟩).elim)<|aD (pdv 3) aS) (λ_=>RepL.nil) ⟨_,_,by rw[ul,wl],by rw[ul];omega,hb,rfl⟩ rfl<|Takes.o (TakesA.tk<|oJ hE))
    |some u=>rw[hb] at gs;refine bG<|aAh (n:=G.1.idxOf x.1) (k:=kY x.1) (d:=wnD u) 1 hu rfl (pv 1) (bY (ds:=[wnD<|G.2.getD (G.1.idxOf x.1) [],wnD x.2]) GB.1 hr rfl (aD (oN (k:=kY x.1) (d:=wnD<|G.2.getD (G.1.idxOf x.1) []) 1 hu (nZ rfl) (PEd.cast (pdv 2)<|by rw[tN]) (pdv 3) (λn hn=>by obtain⟨_,e⟩:=uG K0.nd hn;rw[e];exact aFM il) λq=>(q<|aH.mpr ⟨_,hm,rfl⟩).elim)<|aD (pdv 3) aS) ⟨_,_,u,by rw[ul,wl],by rw[ul];omega,hb,rfl,rfl⟩ trivial rfl) (PEd.cast (pdv 2)<|by rw[tN]) (aCe K0.nd) (aHm hm) ?_;refine⟨[.val (.lst<|L.map exD),odT P w K l (G.1.map kY)<|(G.2.set (G.1.idxOf x.1) u).map wnD,.un,.un],⟨.inr rfl,.inr ?_,.inl rfl,.inl rfl,trivial⟩,_,gs,rfl⟩;rw[pP];rfl
   ·have gs:lY L (t+1)=some (G.1++[x.1],G.2++[x.2]):=by rw[gs];exact if_neg hm
    refine bG<|aAq (k:=kY x.1) (d:=wnD x.2) 1 hu rfl (pv 1) (bY (ds:=[wnD x.2,wnD x.2]) GB.1 hr rfl (aD (oN (k:=kY x.1) (d:=wnD x.2) 1 hu (nZ rfl) (PEd.cast (pdv 2)<|by rw[tN]) (pdv 3) (λn hn=>(hm (uG K0.nd hn).1).elim) λ_=>rfl)<|aD (pdv 3) aS) ⟨_,_,x.2,rfl,by rw[wl];omega,wV _,rfl,rfl⟩ trivial rfl) (PEd.cast (pdv 2)<|by rw[tN]) (aBN hm) (by rw[aA];omega) ?_;refine⟨[.val (.lst<|L.map exD),odT P w K l ((G.1++[x.1]).map kY)<|(G.2++[x.2]).map wnD,.un,.un],⟨.inr rfl,.inr ?_,.inl rfl,.inl rfl,trivial⟩,_,gs,rfl⟩;rw[aI,aI];rfl
  ·obtain⟨G,hGt,rfl⟩:=hn;rw[aA] at hGt;have hG:lY L L.length=none:=hG;rw[hG] at hGt;cases hGt
noncomputable def fhw:D->D
 |.tup [a,b]=>.bl (hw1 ((oiO a).getD 0)<|oiO b)
 |_=>.non
abbrev nl3:List Str:=["filling","wanted"]
theorem aJG(F:Fun K "has_wanted" "has_wanted" sHw f fd)(zall:mg "all"=none)(zzip:mg "zip"=none)(hm:mg "has_wanted"=some (.ref f)):bV P w K mg base "has_wanted" 1 2 CHw:=by
 have nd:nl3.Nodup:=by decide+kernel
 have nd2:(["word","want"]:List Str).Nodup:=by decide+kernel
 refine dL (N:=nl3) (ps:=nl3) (k:=0) F hm λcdv A outer s H E hr ds r hl c=> ?_
 obtain⟨g,u,g9,rfl,rfl⟩:=c;have zl:(mS (g.map D.int)<|u.map oiD).length=min g.length u.length:=by rw[mH,aA,aA]
 have sh:∀d∈mS (g.map D.int) (u.map oiD),∃t:Nat,t<g.length/\t<u.length/\d=.tup [.int<|g.getD t 0,oiD<|u.getD t none]:=λd hd=>by obtain⟨t,ht⟩:=gY hd;obtain⟨x,y,q1,q2,rfl⟩:=nY ht;obtain⟨q3,rfl⟩:=aGv q1;obtain⟨q4,rfl⟩:=wH q2;exact⟨t,q3,q4,rfl⟩
 have ec:((mS (g.map D.int)<|u.map oiD).filter λ_=>true).map fhw=((bK<|min g.length u.length).map λi=>hw1 (g.getD i 0)<|u.getD i none).map D.bl:=by
  rw[dJ.mpr λ_ _=>rfl];unfold mS;rw[aA,aA,aX,aX];refine cI λj hj=> ?_
  have hj:=bB.mp hj;have a:(g.map D.int).getD j .non=.int (g.getD j 0):=by simp[bF,show j<g.length by omega]
  have b:(u.map oiD).getD j .non=oiD (u.getD j none):=by simp[bF,show j<u.length by omega]
  show fhw (.tup [(g.map D.int).getD j .non,(u.map oiD).getD j .non])=_;rw[a,b];show D.bl (hw1 ((oiO<|.int _).getD 0) (oiO<|oiD _))=_;rw[uK];rfl
 refine bG<|cJ (aAE (bs:=(bK<|min g.length u.length).map λi=>hw1 (g.getD i 0)<|u.getD i none) rfl zall (PEd.bor<|PEd.val (PEd.cast (kR (ds:=mS (g.map D.int)<|u.map oiD) (N:=["word","want"]) (M:=nl3) (cap:=[none,none]) (sc:=bJ sHw) (Tb:=λd=>match d with | .tup [a,b]=>[.val a,.val b] | _=>[.un,.un]) (λ_=>true) fhw (tD true true rfl zzip (pdv 0)<|pdv 1) (by rw[zl];omega) rfl (by decide+kernel) rfl (by decide+kernel) rfl (λcl C fp s H d hd=> ?_) (λd hd=> ?_) (λcl C fp s H d hd=>.inl ⟨rfl,rfl⟩) λcl C2 fp s H d hd _=> ?_)<|by rw[ec]))) trivial rfl
 ·obtain⟨t,ht,ht2,rfl⟩:=sh d hd;exact kS (js:=[0,1]) rfl (fD (pgn 0)<|fD (pgn 1) kU) rfl rfl
 ·obtain⟨t,ht,ht2,rfl⟩:=sh d hd;exact⟨.inl rfl,.inl rfl,trivial⟩
 ·obtain⟨t,ht,ht2,rfl⟩:=sh d hd;show PEd _ _ _ (.val (.bl<|hw1 ((oiO<|.int _).getD 0) (oiO<|oiD _)));rw[uK];cases u.getD t none with
  |none=>exact PEd.cast (aKH (k:=true) (j:=true) (aBE (d:=.non) (pdv 1) eB) λh=>by cases h) rfl
  |some y=>exact PEd.cast (aKH (k:=false) (j:=decide<|g.getD t 0=y) (aBE (d:=.int y) (pdv 1) eB) λ_=>aMk (aHz (i:=g.getD t 0) (j:=y) (pdv 0)<|pdv 1)) rfl
abbrev nl4:List Str:=["size","wanted"]
theorem aGr(F:Fun K "choice_of" "choice_of" aME f fd)(zall:mg "all"=none)(hm:mg "choice_of"=some (.ref f))(GF:bV P w K mg base "fillings" 2 1 aCv)(GH:bV P w K mg base "has_wanted" 1 2 CHw):bV P w K mg base "choice_of" 3 2 aOw:=by
 have nd:nl4.Nodup:=by decide+kernel
 have nd1:(["want"]:List Str).Nodup:=by decide+kernel
 have nd2:nl3.Nodup:=by decide+kernel
 refine dL (N:=nl4) (ps:=nl4) (k:=2) F hm λcdv A outer s H E hr ds r hl c=> ?_
 obtain⟨p,u,hp,u9,rfl,rfl⟩:=c;have hr1:=hr.mono (show 1<=2 by decide);have f9:(bC p).length<=64:=iR hp;obtain⟨h1,h2,h3,h4,h5⟩:=sC p hp
 have sh:∀d∈u.map oiD,∃o,d=oiD o:=λd hd=>by obtain⟨o,_,rfl⟩:=aH.mp hd;exact⟨o,rfl⟩
 have ec:((u.map oiD).filter λ_=>true).map (λd=>D.bl<|isN d)=(u.map aAA).map D.bl:=by
  rw[dJ.mpr λ_ _=>rfl,aX,aX];refine cI λo _=> ?_
  show D.bl (isN<|oiD o)=_;rw[aLL];rfl
 refine aN<|kI (k:=noW u) (sY<|aAE (bs:=u.map aAA) rfl zall (PEd.bor<|PEd.val (PEd.cast (kR (ds:=u.map oiD) (N:=["want"]) (M:=nl4) (cap:=[none]) (sc:=bJ aME) (Tb:=λd=>[.val d]) (λ_=>true) (λd=>D.bl<|isN d) (aDV<|pdv 1) (by rw[aA];omega) rfl (by decide+kernel) rfl (by decide+kernel) rfl (λcl C fp s H d hd=>eA 0<|pgn 0) (λd hd=>⟨.inl rfl,trivial⟩) (λcl C fp s H d hd=>.inl ⟨rfl,rfl⟩) λcl C2 fp s H d hd _=>aBE (pdv 0) eB)<|by rw[ec]))) (λh=> ?_) λh=>dS ?_
 ·have e:uQ p u=none:=if_pos h;rw[e];exact bG<|cJ eB trivial rfl
 ·have e:uQ p u=some ((bC p).filter λg=>hwQ g u):=if_neg (by rw[h];decide);rw[e]
  have ef:(((bC p).map aT).filter λd=>hwQ (kK d) u).map (λd=>d)=((bC p).filter λg=>hwQ g u).map aT:=by rw[List.map_id',qI];refine congrArg (jO aT)<|oB λg _=> ?_;show hwQ (kK<|aT g) u=_;rw[jL]
  refine bG<|cJ (PEd.cast (kR (ds:=(bC p).map aT) (N:=nl3) (M:=nl4) (cap:=[none,some 1]) (sc:=bJ aME) (Tb:=λd=>[.val d,.val<|wnD u]) (λd=>hwQ (kK d) u) (λd=>d) (gR (PEd.val<|bY (ds:=[cH p]) GF hr rfl (aD (pdv 0) aS) ⟨p,hp,rfl,rfl⟩ trivial rfl)) (by rw[aA];omega) rfl (by decide+kernel) rfl (by decide+kernel) rfl (λcl C fp s H d hd=>eA 0<|pgn 0) (λd hd=>⟨.inl rfl,.inr rfl,trivial⟩) (λcl C fp s H d hd=>.inr ⟨_,rfl, ?_⟩) λcl C2 fp s H d hd _=>(pdv 0))<|by rw[ef];rfl) trivial rfl;obtain⟨g,hg,rfl⟩:=wZ hd;rw[jL];exact sY<|bY (ds:=[aT g,wnD u]) GH hr1 rfl (aD (pdv 0)<|aD (pdv 1) aS) ⟨g,u,by rw[(hJ hp hg).len];omega,rfl,rfl⟩ trivial rfl
abbrev nl5:List Str:=["size","examples","gathered"]
theorem aGd{CN:BJ}(F:Fun K "wish_of" "wish_of" aMR f fd)(hm:mg "wish_of"=some (.ref f))(GB:bV P w K mg base "wanted_by_filling" 3 1 (aOM P w K)/\hR P w K mg base "wanted_by_filling" 3 1 aOP (.ref CN) [] [])(GC:bV P w K mg base "choice_of" 3 2 aOw)(GF:bV P w K mg base "fillings" 2 1 aCv):bV P w K mg base "wish_of" 4 2 (aMY K)/\hR P w K mg base "wish_of" 4 2 aNg (.ref CN) [] []:=by
 have nd:nl5.Nodup:=by decide+kernel
 have nd2:(["filling","size","gathered"]:List Str).Nodup:=by decide+kernel
 constructor
 ·refine dL (N:=nl5) (ps:=["size","examples"]) (k:=3) F hm λcdv A outer s H E hr ds r hl c=> ?_
  obtain⟨p,L,G,hp,O,h9,hG,rfl,rfl⟩:=c;have hr2:=hr.mono (show 2<=3 by decide);have f9:(bC p).length<=64:=iR hp;obtain⟨h1,h2,h3,h4,h5⟩:=sC p hp;have hu:(A.deeper<|Aj "wish_of" (bJ aMR) s.heap.objs.size f cdv).units+1<AR:=by have:=hr.un;omega
  have K0:=gok O (aG _) hG;refine aN<|aFq (ks:=G.1.map kY) (ds:=G.2.map wnD) 2 nd rfl (Or.inr rfl) (bY (ds:=[.lst<|L.map exD]) GB.1 hr rfl (aD (pdv 1) aS) ⟨p,L,G,hp,O,h9,hG,rfl,rfl⟩ trivial rfl) ?_
  have nf:∀d es,(uQ p (gX G<|kK d)).map (jO aT)=some es->pY es=true:=λd es he=>by obtain⟨M,_,rfl⟩:=cS.mp he;exact sZ aT (λws=>vX ws) M
  have ec:(((bC p).map aT).filter λ_=>true).map (λd=>(uQ p (gX G<|kK d)).map<|jO aT)=(cE p L).map (lA<|jO aT):=by
   rw[dJ.mpr λ_ _=>rfl,aX,<-aJN hp O hG];unfold aOo;rw[aX];refine cI λg _=> ?_
   show(uQ p<|gX G (kK<|aT g)).map _=_;rw[jL];rfl
  refine bG<|cJ (PEd.cast (aCg (ds:=(bC p).map aT) (N:=["filling","size","gathered"]) (M:=nl5) (cap:=[none,some 0,some 2]) (sc:=bJ aMR) (Tb:=λd=>[.val d,.val<|cH p,odF P w K (G.1.map kY)<|G.2.map wnD]) (λ_=>true) (λd=>(uQ p (gX G<|kK d)).map<|jO aT) nf (gR (PEd.val<|bY (ds:=[cH p]) GF hr2 rfl (aD (pdv 0) aS) ⟨p,hp,rfl,rfl⟩ trivial rfl)) (by rw[aA];omega) rfl (by decide+kernel) rfl (by decide+kernel) rfl (λcl C fp s H d _=>eA 0<|pgn 0) (λd _=>⟨.inl rfl,.inr rfl,.inr rfl,trivial⟩) (λcl C fp s H d hd=>.inl ⟨rfl,rfl⟩) λcl C2 fp s H d hd _=> ?_)<|by rw[ec,aDC,vD];rfl) trivial rfl;obtain⟨g,hg,rfl⟩:=wZ hd;rw[jL]
  have wl:(gX G g).length<=100:=by
   by_cases q:g∈G.1
   ·rw[aCa O hG q];omega
   ·unfold gX;rw[if_neg q];exact bI _
  have g1:∀n:Nat,(G.1.map kY)[n]? =some (kY g)->(G.2.map wnD)[n]? =some (wnD<|gX G g):=λn hn=>by obtain⟨q,e⟩:=uG K0.nd hn;unfold gX;rw[if_pos q,e];exact aFM (by rw[<-K0.ln];exact bO q)
  have g2:kY g∉G.1.map kY->D.tup []=wnD (gX G g):=λq=>by
   have q:g∉G.1:=λz=>q<|aH.mpr ⟨g,z,rfl⟩
   unfold gX;rw[if_neg q];rfl
  cases e:uQ p (gX G g) with
  |none=>exact bY (ds:=[cH p,wnD<|gX G g]) (r:=.val .non) GC hr rfl (aD (pdv 1)<|aD (oN (k:=kY g) (d0:=.tup []) (d:=wnD<|gX G g) 2 hu (aAd rfl) (PEd.cast (pdv 0)<|by rw[tN]) (jK (ds:=[]) aS<|aP rfl) g1 g2) aS) ⟨p,_,hp,wl,rfl,by rw[e];rfl⟩ trivial rfl
  |some c=>exact bY (ds:=[cH p,wnD<|gX G g]) (r:=.own<|c.map aT) GC hr rfl (aD (pdv 1)<|aD (oN (k:=kY g) (d0:=.tup []) (d:=wnD<|gX G g) 2 hu (aAd rfl) (PEd.cast (pdv 0)<|by rw[tN]) (jK (ds:=[]) aS<|aP rfl) g1 g2) aS) ⟨p,_,hp,wl,rfl,by rw[e];rfl⟩ trivial rfl
 ·refine qW (N:=nl5) (ps:=["size","examples"]) (k:=3) F ⟨rfl,rfl,rfl,nd,rfl,by decide+kernel,by decide+kernel⟩ hm (λ_ _ _ _ _ _ us hl=>match us,hl with | [_,_],_=>rfl) λcdv A outer s H E hr hE ds hl c=> ?_
  obtain⟨p,L,hp,O,h9,hG,rfl⟩:=c;exact aN<|aGj 2 nd rfl (Or.inr rfl) (pU (ds:=[.lst<|L.map exD]) (dds:=[]) GB.2 (tZ rfl) hr rfl (aD (pdv 1) aS) (λ_=>RepL.nil) ⟨p,L,hp,O,h9,hG,rfl⟩ rfl<|Takes.o (TakesA.tk<|oJ hE))
abbrev nl6:List Str:=["size","wish","table","number","filling"]
abbrev nl7:List Str:=["size","wish","table"]
theorem aEX(F:Fun K "misses_at" "misses_at" aIL f fd)(zenumerate:mg "enumerate"=none)(hm:mg "misses_at"=some (.ref f))(GF:bV P w K mg base "fillings" 2 1 aCv):bV P w K mg base "misses_at" 3 3 aKR:=by
 have nd:nl6.Nodup:=by decide+kernel
 refine dL (N:=nl6) (ps:=nl7) (k:=2) F hm λcdv A outer s H E hr ds r hl c=> ?_
 obtain⟨p,w,T,hp,W,OT,rfl,rfl⟩:=c;have hu:(A.deeper<|Aj "misses_at" (bJ aIL) s.heap.objs.size f cdv).units+4<AR:=by have:=hr.un;omega
 refine aN<|iB (ds:=xY<|(bC p).map aT) (λk sd=>(∀j,j<k->aIx w T j=false)/\sd=[.val<|cH p,.val (.lst<|w.map wsD),.val (.tup<|T.map aT),.un,.un]) (aGc rfl zenumerate (PEd.val<|bY (ds:=[cH p]) GF hr rfl (aD (pdv 0) aS) ⟨p,hp,rfl,rfl⟩ trivial rfl)) ⟨_,Le.refl _,λj hj=>by omega,rfl⟩ (λk d sdk hd hk=> ?_) λsdn hn=> ?_
 ·obtain⟨x,hx,rfl⟩:=zW hd;obtain⟨hk2,rfl⟩:=pX hx;obtain⟨hn,rfl⟩:=hk;have kT:k<T.length:=by rw[OT.len];exact hk2
  have kW:k<w.length:=by rw[W.len];exact hk2
  refine⟨[.val<|cH p,.val (.lst<|w.map wsD),.val (.tup<|T.map aT),.val<|.int (k:Int),.val (aT<|(bC p).getD k [])],kS (js:=[3,4]) rfl (fD (pgn 3)<|fD (pgn 4) kU) rfl rfl, ?_⟩;refine bG<|kI (k:=aIx w T k) ?_ (λh=> ?_) λh=>dS ?_
  ·have ka:=oZ kW;unfold aIx;cases hq:w.getD k none with
   |none=>rw[hq] at ka;exact PWd.pt<|kZ (k:=false) (j:=false) (nW (d:=.non) (fY (n:=k) (d:=.non) (PEd.bor<|pdv 1) (pdv 3) ka λ_ _=>rfl) eB) λh=>by cases h
   |some L=>rw[hq] at ka;exact PWd.pt<|kZ (k:=true) (j:= !decide (T.getD k []∈L)) (nW (d:=.lst<|L.map aT) (fY (n:=k) (d:=.lst<|L.map aT) (PEd.bor<|pdv 1) (pdv 3) ka λ_ _=>rfl) eB) λ_=>pT (PTd.cast (aGP (d:=aT<|T.getD k []) (ds:=L.map aT) (fW (n:=k) (pdv 2) (pdv 3) (oK kT) λ_ _=>rfl) (fY (n:=k) (d:=.lst<|L.map aT) (PEd.bor<|pdv 1) (pdv 3) ka λ_ _=>rfl) (nH _) (vS L)<|by have:=tM L;show(A.deeper _).units+1+_<AR;omega)<|by rw[aGM])
  ·refine bG<|cJ (pdv 4) trivial ?_;show R.val _=R.val (aMJ<|rH w (bC p) T);rw[show rH w (bC p) T=some ((bC p).getD k []) from aCz hk2 h hn];rfl
  ·refine⟨[.val<|cH p,.val (.lst<|w.map wsD),.val (.tup<|T.map aT),.un,.un],⟨.inr rfl,.inr rfl,.inr rfl,.inl rfl,.inl rfl,trivial⟩,λj hj=> ?_,rfl⟩
   by_cases q:j<k
   ·exact hn j q
   ·have:j=k:=by omega
    subst this;exact h
 ·obtain⟨hn,rfl⟩:=hn;rw[tO,aA] at hn;refine bG<|cJ eB trivial ?_;show R.val _=R.val (aMJ<|rH w (bC p) T);rw[show rH w (bC p) T=none from xN hn];rfl
theorem aJD(F:Fun K "does_wish" "does_wish" aKL f fd)(hm:mg "does_wish"=some (.ref f))(GM:bV P w K mg base "misses_at" 3 3 aKR):bV P w K mg base "does_wish" 4 3 aLb:=by
 have nd:nl7.Nodup:=by decide+kernel
 refine dL (N:=nl7) (ps:=nl7) (k:=3) F hm λcdv A outer s H E hr ds r hl c=> ?_
 obtain⟨p,w,T,hp,W,OT,rfl,rfl⟩:=c;exact bG<|cJ (PEd.cast (aBE (bY (ds:=[cH p,.lst<|w.map wsD,.tup<|T.map aT]) GM hr rfl (aD (pdv 0) (aD (pdv 1)<|aD (pdv 2) aS)) ⟨p,w,T,hp,W,OT,rfl,rfl⟩ trivial rfl) eB)<|by rw[aJo]) trivial rfl
abbrev nl8:List Str:=["one","other","both"]
theorem aJu{CN:BJ}(F:Fun K "both_choices" "both_choices" sBc f fd)(zlist:mg "list"=none)(zlen:mg "len"=none)(zsorted:mg "sorted"=none)(zset:mg "set"=none)(xk:aMG K mg CN)(hm:mg "both_choices"=some (.ref f)):bV P w K mg base "both_choices" 1 2 CBc/\hR P w K mg base "both_choices" 1 2 XBc (.ref CN) [] []:=by
 have nd:nl8.Nodup:=by decide+kernel
 constructor
 ·refine dL (N:=nl8) (ps:=nl1) (k:=0) F hm λcdv A outer s H E hr ds r hl c=> ?_
  obtain⟨p,a,b,hp,ha,hb,hn,rfl,rfl⟩:=c;have hu:(A.deeper<|Aj "both_choices" (bJ sBc) s.heap.objs.size f cdv).units+12<AR:=by have:=hr.un;omega
  cases a with
  |none=>
   cases b with
   |none=>exact aN<|jV (k:=true) (PWd.pt (kZ (k:=true) (j:=true) (fO (d:=.non) (pdv 0) eB) λ_=>pT<|fO (d:=.non) (pdv 1) eB)) rfl (bG<|cJ eB trivial rfl)
   |some d=>refine aN (fU (k:=false) (PWd.pt (kZ (k:=true) (j:=false) (fO (d:=.non) (pdv 0) eB) λ_=>pT<|fO (d:=.lst<|d.map aT) (pdv 1) eB)) rfl<|dS ?_);exact aN<|jV (k:=true) (fO (d:=.non) (pdv 0) eB) rfl (bG<|cJ (r:=.own<|d.map aT) (aBX rfl zlist<|PEd.bor (lN 1 (d:=.lst<|d.map aT) rfl<|pv 1)) trivial rfl)
  |some c=>
   refine aN (fU (k:=false) (PWd.pt<|kZ (k:=false) (j:=false) (fO (d:=.lst<|c.map aT) (pdv 0) eB) λh=>by cases h) rfl<|dS ?_);refine aN (fU (k:=false) (fO (d:=.lst<|c.map aT) (pdv 0) eB) rfl<|dS ?_);cases b with
   |none=>exact aN<|jV (k:=true) (fO (d:=.non) (pdv 1) eB) rfl (bG<|cJ (r:=.own<|c.map aT) (aBX rfl zlist<|PEd.bor (lN 0 (d:=.lst<|c.map aT) rfl<|pv 0)) trivial rfl)
   |some d=>
    refine aN (fU (k:=false) (fO (d:=.lst<|d.map aT) (pdv 1) eB) rfl<|dS ?_);have kc:=ha c rfl;have kd:=hb d rfl;have hn:((bC p).filter λf=>decide (f∈c)&&decide (f∈d))≠[]:=λe=>hn (by show some _=some _;rw[e])
    refine aN<|qZ (ds:=((bC p).filter λf=>decide (f∈c)&&decide (f∈d)).map aT) 2 ?_ λl=> ?_
    ·refine xQ (rk:=sI p) (xs:=c) (ys:=d) hu rfl zsorted rfl zset (lN 0 (d:=.lst<|c.map aT) rfl<|pv 0) (lN 1 (d:=.lst<|d.map aT) rfl<|pv 1) (λx hx e=> ?_) (by have:=kc.le;have:(bC p).length<=64:=iR hp;omega) (by have:=kd.le;have:(bC p).length<=64:=iR hp;omega) (λx hx y hy=>aDQ p hp x (kc.sub x hx) y<|kc.sub y hy) (λx hx y hy e=>aBU hp (kc.sub x hx) (kc.sub y hy) e) (λx=> ?_) ((aAL hp).filter _)
     ·obtain⟨h1,h2,h3,h4,h5⟩:=sC p hp;have:=(hJ hp<|kc.sub x hx).len;rw[e] at this;simp at this;omega
     ·rw[eM,bH];exact⟨λh=>⟨of_decide_eq_true h.2.1,of_decide_eq_true h.2.2⟩,λh=>⟨kc.sub x h.1,decide_eq_true h.1,decide_eq_true h.2⟩⟩
    ·refine aN (fU (k:=false) (PTd.cast (oV (iT rfl zlen (nG 2 rfl<|pv 2)) bD) ?_) rfl<|dS (bG<|mG 2 rfl (pv 2) rfl));rw[aA];exact decide_eq_false λe=>hn (fG.mp<|by omega)
 ·refine qW (N:=nl8) (ps:=nl1) (k:=0) F ⟨rfl,rfl,rfl,nd,rfl,by decide+kernel,by decide+kernel⟩ hm (λ_ _ _ _ _ _ us hl=>match us,hl with | [_,_],_=>rfl) λcdv A outer s H E hr hE ds hl c=> ?_
  obtain⟨p,a,b,hp,ha,hb,hn,rfl⟩:=c;have hu:(A.deeper<|Aj "both_choices" (bJ sBc) s.heap.objs.size f cdv).units+12<AR:=by have:=hr.un;omega
  cases a with
  |none=>have:b=some []:=hn;exact absurd rfl (hb [] this).ne
  |some c=>
   cases b with
   |none=>exact absurd (bT.inj hn) (ha c rfl).ne
   |some d=>
    refine aN (fU (k:=false) (PWd.pt<|kZ (k:=false) (j:=false) (fO (d:=.lst<|c.map aT) (pdv 0) eB) λh=>by cases h) rfl<|dS ?_);refine aN (fU (k:=false) (fO (d:=.lst<|c.map aT) (pdv 0) eB) rfl<|dS ?_);refine aN (fU (k:=false) (fO (d:=.lst<|d.map aT) (pdv 1) eB) rfl<|dS ?_);have kc:=ha c rfl;have kd:=hb d rfl;have hn:((bC p).filter λf=>decide (f∈c)&&decide (f∈d))=[]:=bT.inj hn;refine aN<|qZ (ds:=((bC p).filter λf=>decide (f∈c)&&decide (f∈d)).map aT) 2 ?_ λl=> ?_
    ·refine xQ (rk:=sI p) (xs:=c) (ys:=d) hu rfl zsorted rfl zset (lN 0 (d:=.lst<|c.map aT) rfl<|pv 0) (lN 1 (d:=.lst<|d.map aT) rfl<|pv 1) (λx hx e=> ?_) (by have:=kc.le;have:(bC p).length<=64:=iR hp;omega) (by have:=kd.le;have:(bC p).length<=64:=iR hp;omega) (λx hx y hy=>aDQ p hp x (kc.sub x hx) y<|kc.sub y hy) (λx hx y hy e=>aBU hp (kc.sub x hx) (kc.sub y hy) e) (λx=> ?_) ((aAL hp).filter _)
     ·obtain⟨h1,h2,h3,h4,h5⟩:=sC p hp;have:=(hJ hp<|kc.sub x hx).len;rw[e] at this;simp at this;omega
     ·rw[eM,bH];exact⟨λh=>⟨of_decide_eq_true h.2.1,of_decide_eq_true h.2.2⟩,λh=>⟨kc.sub x h.1,decide_eq_true h.1,decide_eq_true h.2⟩⟩
    ·refine aN (jV (k:=true) (PTd.cast (oV (iT rfl zlen (nG 2 rfl<|pv 2)) bD)<|by rw[hn];rfl) rfl<|bG (aAs (ds:=[.str _]) rfl xk.nw.1 xk.ex (xJ hE) (aD gS aS)<|aP rfl))
abbrev nl9:List Str:=["size","one","other"]
abbrev nl10:List Str:=["number","one","other"]
theorem aFU{CN:BJ}(F:Fun K "both_wishes" "both_wishes" aMH f fd)(zrange:mg "range"=none)(zlen:mg "len"=none)(hm:mg "both_wishes"=some (.ref f))(GF:bV P w K mg base "fillings" 2 1 aCv)(GB:bV P w K mg base "both_choices" 1 2 CBc/\hR P w K mg base "both_choices" 1 2 XBc (.ref CN) [] []):bV P w K mg base "both_wishes" 3 3 (aOt K)/\hR P w K mg base "both_wishes" 3 3 aOH (.ref CN) [] []:=by
 have nd:nl9.Nodup:=by decide+kernel
 have nd2:nl10.Nodup:=by decide+kernel
 constructor
 ·refine dL (N:=nl9) (ps:=nl9) (k:=2) F hm λcdv A outer s H E hr ds r hl c=> ?_
  obtain⟨p,U,V,hp,hU,hV,hn,rfl,rfl⟩:=c;have hr1:=hr.mono (show 1<=2 by decide);have f9:(bC p).length<=64:=iR hp
  have nf:∀d es,bwF (bC p) U V d=some es->pY es=true:=λd es he=>by
   cases d with
   |int i=>obtain⟨M,_,rfl⟩:=cS.mp he;exact sZ aT (λws=>vX ws) M
   |_=>cases he
  have ec:((gB 0 (bC p).length).filter λ_=>true).map (bwF (bC p) U V)=(bwQ (bC p) U V).map (lA<|jO aT):=by
   rw[dJ.mpr λ_ _=>rfl];unfold bwQ gB;rw[aX,aX];refine cI λt _=> ?_
   show(bcQ (bC p) (U.getD (0+(t:Int)).toNat none)<|V.getD (0+(t:Int)).toNat none).map _=_;rw[gZ,dG];rfl
  refine bG<|cJ (PEd.cast (aCg (ds:=gB 0 (bC p).length) (N:=nl10) (M:=nl9) (cap:=[none,some 1,some 2]) (sc:=bJ aMH) (Tb:=λd=>[.val d,.val (.lst<|U.map wsD),.val (.lst<|V.map wsD)]) (λ_=>true) (bwF (bC p) U V) nf (gE (n:=(bC p).length) rfl zrange (PEd.ic (iT rfl zlen<|PEd.bor (PEd.val<|bY (ds:=[cH p]) GF hr rfl (aD (pdv 0) aS) ⟨p,hp,rfl,rfl⟩ trivial rfl))<|by rw[aA];rfl)<|by omega) (by rw[fA];omega) rfl (by decide+kernel) rfl (by decide+kernel) rfl (λcl C fp s H d _=>eA 0<|pgn 0) (λd _=>⟨.inl rfl,.inr rfl,.inr rfl,trivial⟩) (λcl C fp s H d hd=>.inl ⟨rfl,rfl⟩) λcl C2 fp s H d hd _=> ?_)<|by rw[ec,aDC,vD];rfl) trivial rfl;obtain⟨t,ht⟩:=gY hd;obtain⟨ht2,e0⟩:=eI ht;rw[gZ] at e0;subst e0;show PEd _ _ _ (match(bcQ (bC p) (U.getD ((t:Int)).toNat none)<|V.getD ((t:Int)).toNat none).map (jO aT) with|none=>.val .non|some es=>.own es);rw[dG];have hne:bcQ (bC p) (U.getD t none) (V.getD t none)≠some []:=λe=>hn<|aH.mpr ⟨t,bB.mpr ht2,e⟩
  cases e:bcQ (bC p) (U.getD t none) (V.getD t none) with
  |none=>exact bY (ds:=[wsD<|U.getD t none,wsD<|V.getD t none]) (r:=.val .non) GB.1 hr1 rfl (aD (fY (n:=t) (PEd.bor<|pdv 1) (pdv 0) (oZ<|by rw[hU.len];exact ht2) λ_ _=>rfl)<|aD (fY (n:=t) (PEd.bor<|pdv 2) (pdv 0) (oZ<|by rw[hV.len];exact ht2) λ_ _=>rfl) aS) ⟨p,_,_,hp,λc e=>hU.at t e,λc e=>hV.at t e,hne,rfl,by rw[e];rfl⟩ trivial rfl
  |some c=>exact bY (ds:=[wsD<|U.getD t none,wsD<|V.getD t none]) (r:=.own<|c.map aT) GB.1 hr1 rfl (aD (fY (n:=t) (PEd.bor<|pdv 1) (pdv 0) (oZ<|by rw[hU.len];exact ht2) λ_ _=>rfl)<|aD (fY (n:=t) (PEd.bor<|pdv 2) (pdv 0) (oZ<|by rw[hV.len];exact ht2) λ_ _=>rfl) aS) ⟨p,_,_,hp,λc e=>hU.at t e,λc e=>hV.at t e,hne,rfl,by rw[e];rfl⟩ trivial rfl
 ·refine qW (N:=nl9) (ps:=nl9) (k:=2) F ⟨rfl,rfl,rfl,nd,rfl,by decide+kernel,by decide+kernel⟩ hm (λ_ _ _ _ _ _ us hl=>match us,hl with | [_,_,_],_=>rfl) λcdv A outer s H E hr hE ds hl c=> ?_
  obtain⟨p,U,V,hp,hU,hV,hn,rfl⟩:=c;have hr1:=hr.mono (show 1<=2 by decide);have f9:(bC p).length<=64:=iR hp;obtain⟨n,hn2,q1,q2⟩:∃n,n<(bC p).length/\bcQ (bC p) (U.getD n none) (V.getD n none)=some []/\∀k,k<n->bcQ (bC p) (U.getD k none) (V.getD k none)≠some []:=aGV hn;refine bG<|xK (aEd (cls:=.ref CN) (ds:=gB 0 (bC p).length) (N:=nl10) (M:=nl9) (cap:=[none,some 1,some 2]) (sc:=bJ aMH) (Tb:=λd=>[.val d,.val (.lst<|U.map wsD),.val (.lst<|V.map wsD)]) (bwG (bC p) U V) n (by rw[fA];exact hn2) (gE (n:=(bC p).length) rfl zrange (PEd.ic (iT rfl zlen<|PEd.bor (PEd.val<|bY (ds:=[cH p]) GF hr rfl (aD (pdv 0) aS) ⟨p,hp,rfl,rfl⟩ trivial rfl))<|by rw[aA];rfl)<|by omega) (by rw[fA];omega) rfl (by decide+kernel) rfl (by decide+kernel) rfl (λcl C fp s H ξ d hd=>eA 0<|pgn 0) (λd hd=>⟨.inl rfl,.inr rfl,.inr rfl,trivial⟩) (λcl C fp s H ξ k d hd hk=> ?_) (λcl C fp s H ξ Old d hd hth htk=> ?_)<|oJ hE)
  ·obtain⟨hk2,e0⟩:=eI hd;rw[gZ] at e0;subst e0;show PEd _ _ _ (.val<|wsD (bcQ (bC p) (U.getD ((k:Int)).toNat none)<|V.getD ((k:Int)).toNat none));rw[dG];have hne:=q2 k hk;cases e:bcQ (bC p) (U.getD k none) (V.getD k none) with
   |none=>exact bY (ds:=[wsD<|U.getD k none,wsD<|V.getD k none]) (r:=.val .non) GB.1 hr1 rfl (aD (fY (n:=k) (PEd.bor<|pdv 1) (pdv 0) (oZ<|by rw[hU.len];exact hk2) λ_ _=>rfl)<|aD (fY (n:=k) (PEd.bor<|pdv 2) (pdv 0) (oZ<|by rw[hV.len];exact hk2) λ_ _=>rfl) aS) ⟨p,_,_,hp,λc e=>hU.at k e,λc e=>hV.at k e,hne,rfl,by rw[e];rfl⟩ trivial rfl
   |some c=>exact PEd.val<|bY (ds:=[wsD<|U.getD k none,wsD<|V.getD k none]) (r:=.own<|c.map aT) GB.1 hr1 rfl (aD (fY (n:=k) (PEd.bor<|pdv 1) (pdv 0) (oZ<|by rw[hU.len];exact hk2) λ_ _=>rfl)<|aD (fY (n:=k) (PEd.bor<|pdv 2) (pdv 0) (oZ<|by rw[hV.len];exact hk2) λ_ _=>rfl) aS) ⟨p,_,_,hp,λc e=>hU.at k e,λc e=>hV.at k e,hne,rfl,by rw[e];rfl⟩ trivial rfl
  ·obtain⟨hk2,e0⟩:=eI hd;rw[gZ] at e0;subst e0;exact pU (ds:=[wsD<|U.getD n none,wsD<|V.getD n none]) (dds:=[]) GB.2 hth hr1 rfl (aD (fY (n:=n) (PEd.bor<|pdv 1) (pdv 0) (oZ<|by rw[hU.len];exact hk2) λ_ _=>rfl)<|aD (fY (n:=n) (PEd.bor<|pdv 2) (pdv 0) (oZ<|by rw[hV.len];exact hk2) λ_ _=>rfl) aS) (λ_=>RepL.nil) ⟨p,_,_,hp,λc e=>hU.at n e,λc e=>hV.at n e,q1,rfl⟩ rfl htk
theorem aNL(ws:List Int):aFH (kY ws)=aT ws:=tN ws
theorem aIh(c:List (List Int)):(c.map kY).map aFH=c.map aT:=by rw[aX];exact cI λf _=>aNL f
theorem aHN{c:List (List Int)}:∀k∈c.map kY,∀z∈k,∃i,z=Sum.inl i:=λk hk z hz=>by obtain⟨f,_,rfl⟩:=aH.mp hk;obtain⟨i,_,rfl⟩:=aH.mp hz;exact⟨i,rfl⟩
theorem aNq(F:Fun K "is_loose_choice" "is_loose_choice" sLc f fd)(zlen:mg "len"=none)(zset:mg "set"=none)(hm:mg "is_loose_choice"=some (.ref f))(GF:bV P w K mg base "fillings" 2 1 aCv):bV P w K mg base "is_loose_choice" 3 3 aKO:=by
 have nd:nl9.Nodup:=by decide+kernel
 refine dL (N:=nl9) (ps:=nl9) (k:=2) F hm λcdv A outer s H E hr ds r hl c=> ?_
 obtain⟨p,a,b,hp,ha,hb,rfl,rfl⟩:=c;have hu:(A.deeper<|Aj "is_loose_choice" (bJ sLc) s.heap.objs.size f cdv).units+12<AR:=by have:=hr.un;omega
 cases a with
 |none=>exact aN<|jV (fO (d:=.non) (pdv 1) eB) rfl (bG<|cJ aFI trivial rfl)
 |some c=>
  obtain⟨cn,cc⟩:=ha c rfl;refine aN (fU (fO (d:=.lst<|c.map aT) (pdv 1) eB) rfl<|dS ?_);cases b with
  |none=>
   exact aN (jV (fO (d:= .non) (pdv 2) eB) rfl (bG (cJ (PEd.cast (aHz (PEd.ic (iT (ds:=c.map aT) rfl zlen (PEd.bor (pdv 1))) (by rw [aA])) (PEd.ic (iT rfl zlen (PEd.bor (PEd.val (bY (ds:=[cH p]) GF hr rfl (aD (pdv 0) aS) ⟨p,hp,rfl,rfl⟩ trivial rfl)))) (by rw [aA]))) (by
    show DL.R.val (.bl (decide<|(c.length:Int)=((bC p).length:Int)))=.val (.bl (decide<|c.length=(bC p).length))
    rw[decide_eq_decide.mpr Int.ofNat_inj])) trivial rfl)))
  |some d=>
   obtain⟨dn,dc⟩:=hb d rfl;refine aN (fU (fO (d:=.lst<|d.map aT) (pdv 2) eB) rfl<|dS ?_);refine bG<|cJ (r:=.val (.bl<|decide (∀k∈d,k∈c))) ?_ trivial rfl
   have hr0:decide (∀k∈d,k∈c)=true↔∀k∈d.map kY,k∈c.map kY:=by
    rw[decide_eq_true_iff]
    constructor
    ·intro q k hk;obtain⟨f,hf,rfl⟩:=aH.mp hk;exact aH.mpr ⟨f,q f hf,rfl⟩
    ·intro q k hk;obtain⟨f,hf,e⟩:=aH.mp (q _<|aH.mpr ⟨k,hk,rfl⟩);rw[<-aBz e];exact hf
   refine aGk (ka:=d.map kY) (kb:=c.map kY) ?_ ?_ ?_ ?_ ?_ ?_ ?_ aHN aHN ?_ ?_ ?_ hr0
   ·exact hu
   ·rfl
   ·exact zlen
   ·rfl
   ·exact zset
   ·exact PEd.cast (lN 2 (d:=.lst<|d.map aT) rfl<|pv 2) (by rw[aIh])
   ·exact PEd.cast (lN 1 (d:=.lst<|c.map aT) rfl<|pv 1) (by rw[aIh])
   ·rw[aA];exact dc
   ·rw[aA];exact cc
   ·simpa using cn
noncomputable def lcD(p:Int×Int):D->D
 |.tup [x,y]=>.bl (lcQ p (aIu x)<|aIu y)
 |_=>.non
abbrev nl11:List Str:=["mine","theirs","size"]
theorem aNo(F:Fun K "is_loose" "is_loose" sLo f fd)(zall:mg "all"=none)(zzip:mg "zip"=none)(hm:mg "is_loose"=some (.ref f))(GC:bV P w K mg base "is_loose_choice" 3 3 aKO):bV P w K mg base "is_loose" 4 3 aLc:=by
 have nd:nl9.Nodup:=by decide+kernel
 refine dL (N:=nl9) (ps:=nl9) (k:=3) F hm λcdv A outer s H E hr ds r hl c=> ?_
 obtain⟨p,U,V,hp,hU,hV,rfl,rfl⟩:=c;have f9:(bC p).length<=64:=iR hp;have ez:min (U.map wsD).length (V.map wsD).length=(bC p).length:=by rw[aA,aA,hU.len,hV.len,nA]
 have sh:∀d∈mS (U.map wsD) (V.map wsD),∃t:Nat,t<(bC p).length/\d=.tup [wsD<|U.getD t none,wsD<|V.getD t none]:=λd hd=>by obtain⟨t,ht⟩:=gY hd;obtain⟨x,y,q1,q2,rfl⟩:=nY ht;obtain⟨q3,rfl⟩:=aHR q1;obtain⟨q4,rfl⟩:=aHR q2;exact⟨t,by rw[<-hU.len];exact q3,rfl⟩
 have ec:((mS (U.map wsD)<|V.map wsD).filter λ_=>true).map (lcD p)=((bK (bC p).length).map λj=>lcQ p (U.getD j none)<|V.getD j none).map D.bl:=by
  rw[dJ.mpr λ_ _=>rfl];unfold mS;rw[ez,aX,aX];refine cI λj hj=> ?_
  have hj:=bB.mp hj;have a:(U.map wsD).getD j .non=wsD (U.getD j none):=by simp[bF,show j<U.length by rw[hU.len];exact hj]
  have b:(V.map wsD).getD j .non=wsD (V.getD j none):=by simp[bF,show j<V.length by rw[hV.len];exact hj]
  show lcD p (.tup [(U.map wsD).getD j .non,(V.map wsD).getD j .non])=_;rw[a,b];show D.bl (lcQ p (aIu<|wsD _) (aIu<|wsD _))=_;rw[vF,vF];rfl
 refine bG<|cJ (aAE (bs:=(bK (bC p).length).map λj=>lcQ p (U.getD j none)<|V.getD j none) rfl zall (PEd.bor<|PEd.val (PEd.cast (kR (ds:=mS (U.map wsD)<|V.map wsD) (N:=nl11) (M:=nl9) (cap:=[none,none,some 0]) (sc:=bJ sLo) (Tb:=λd=>match d with | .tup [a,b]=>[.val a,.val b,.val<|cH p] | _=>[.un,.un,.un]) (λ_=>true) (lcD p) (tD false false rfl zzip (pdv 1)<|pdv 2) (by rw[mH,ez];omega) rfl (by decide+kernel) rfl (by decide+kernel) rfl (λcl C fp s H d hd=> ?_) (λd hd=> ?_) (λcl C fp s H d hd=>.inl ⟨rfl,rfl⟩) λcl C2 fp s H d hd _=> ?_)<|by rw[ec]))) trivial rfl
 ·obtain⟨t,ht,rfl⟩:=sh d hd;exact kS (js:=[0,1]) rfl (fD (aAY (i:=0) (show nl11.Nodup by decide+kernel) rfl<|Or.inl rfl)<|fD (aAY (i:=1) (show nl11.Nodup by decide+kernel) rfl<|Or.inl rfl) kU) rfl rfl
 ·obtain⟨t,ht,rfl⟩:=sh d hd;exact⟨.inl rfl,.inl rfl,.inr rfl,trivial⟩
 ·obtain⟨t,ht,rfl⟩:=sh d hd;show PEd _ _ _ (.val (.bl<|lcQ p (aIu<|wsD _) (aIu<|wsD _)));rw[vF,vF];exact bY (ds:=[cH p,wsD<|U.getD t none,wsD<|V.getD t none]) GC hr rfl (aD (pdv 2) (aD (pdv 0)<|aD (pdv 1) aS)) ⟨p,_,_,hp,hU.cho hp t,hV.cho hp t,rfl,rfl⟩ trivial rfl
abbrev nl12:List Str:=["_law_script","_law_k"]
theorem aEV(F:Fun K "_law_cell_at" "_law_cell_at" aEa f fd)(zlen:mg "len"=none)(hm:mg "_law_cell_at"=some (.ref f)):bV P w K mg base "_law_cell_at" 1 2 aIF:=by
 have nd:nl12.Nodup:=by decide+kernel
 refine dL (N:=nl12) (ps:=nl12) (k:=0) F hm λcdv A outer s H E hr ds r hl c=> ?_
 obtain⟨ns,k,rfl,hk,rfl⟩:=c;refine aN<|kI (aIa aKS (pdv 1) (aJf rfl zlen<|pdv 0)<|kO _) (λh=> ?_) λh=>dS ?_
 ·have h':k<ns.length:=by simpa using h
  exact bG<|cJ (aLr (z:=ns.getD k 0) (pdv 0) (pdv 1) (by simp[h']) λ_ _=>rfl) trivial rfl
 ·have h':¬ k<ns.length:=by simpa using h
  refine bG<|cJ bD trivial ?_;show R.val (.int 0)=R.val (.int<|ns.getD k 0);simp[bF,h']
abbrev nl13:List Str:=["_law_cell","_law_many","_law_found","_law_k","_law_number"]
theorem aFa(F:Fun K "_law_stream" "_law_stream" aEb f fd)(zrange:mg "range"=none)(hm:mg "_law_stream"=some (.ref f)):bV P w K mg base "_law_stream" 1 2 vJ:=by
 have nd:nl13.Nodup:=by decide+kernel
 refine dL (N:=nl13) (ps:=["_law_cell","_law_many"]) (k:=0) F hm λcdv A outer s H E hr ds r hl c=> ?_
 obtain⟨c,m,rfl,hm2,rfl⟩:=c;refine aN<|qC 2 nd rfl (Or.inl rfl) (gL (ds:=[]) aS<|bI _) λl=> ?_;refine aN<|kI (oV (bZ eH (pdv 0) bD<|by decide) bD) (λh=> ?_) λh=>dS ?_
 ·have h':c%2=1:=by simpa using h
  refine aN<|jW 0 nd rfl (Or.inl rfl) (bZ fH (pdv 0) bD ⟨by decide,by decide⟩) ?_;refine aN<|nI (ds:=gB 0 m) (λt=>[.val<|.int (aKk (c / 2)<|dM t 2147483647),.val<|.int (m:Int),.own l<|(zI (c / 2)<|dM t 2147483647).map D.int,.un,.un]) (λt=>[.val<|.int (aKk (c / 2)<|dM t 2147483647),.val<|.int (m:Int),.own l<|(zI (c / 2)<|dM t 2147483647).map D.int,.val (.int<|0+(t:Int)),.un]) (gE (n:=m) rfl zrange (pdv 1)<|by omega) ⟨.inr rfl,.inr rfl,.inr rfl,.inr rfl,.inr rfl,trivial⟩ (λt d hd=> ?_) (λt d hd=> ?_) ?_
  ·obtain⟨_,rfl⟩:=eI hd;exact eA 3<|pgn 3
  ·obtain⟨ht,rfl⟩:=eI hd;have et:dM (t+1) (2147483647:Int)=dM t 2147483647++[2147483647]:=List.replicate_succ';refine aN (kM 2 rfl (pv 2) (bZ eH (pdv 0) bD<|by decide) ?_ ?_)
   ·rw[aA,xV,qX];omega
   ·refine bG<|jW 0 nd rfl (Or.inl rfl) (bZ fH (pdv 0) bD ⟨by decide,by decide+kernel⟩) ?_;refine⟨.inr ?_,.inr rfl,.inr ?_,.inl rfl,.inr rfl,trivial⟩
    ·rw[et,zY]
    ·rw[et,aAr,aI];rfl
  ·refine bG<|mG 2 rfl (pv 2) ?_;show R.own _=R.own _;rw[fA];unfold cK;rw[if_pos h']
 have h':¬ c%2=1:=by simpa using h
 have x0:0<=c / 2%2147483647+48271/\c / 2%2147483647+48271<2147600000:=by have a1:=bP (c / 2) (show(2147483647:Int)≠0 by decide);have a2:=bM (c / 2) (show(0:Int)<2147483647 by decide);omega
 refine aN<|jW 4 nd rfl (Or.inl rfl) (jN jD (bZ eH (bZ fH (pdv 0) bD ⟨by decide,by decide⟩) bD<|by decide) bD) ?_;have es:cK c m=(rY (c / 2%2147483647+48271)<|m+1).drop 1:=by unfold cK;rw[if_neg h']
 rw[es];generalize c / 2%2147483647+48271=x at x0;have big:∀z:Int,0<=z/\z<2147600000->z.natAbs<2^250:=λz hz=>cB (by omega:z.natAbs<=2147600000)<|by decide
 refine aN<|nI (ds:=gB 0<|m+1) (λt=>[.val<|.int c,.val<|.int (m:Int),.own l<|(rY x t).map D.int,.un,.val (.int<|oO x t)]) (λt=>[.val<|.int c,.val<|.int (m:Int),.own l<|(rY x t).map D.int,.val (.int<|0+(t:Int)),.val (.int<|oO x t)]) (gE (n:=m+1) rfl zrange (PEd.ic (jN jD (pdv 1) bD)<|by omega)<|by omega) ⟨.inr rfl,.inr rfl,.inr rfl,.inr rfl,.inr rfl,trivial⟩ (λt d hd=> ?_) (λt d hd=> ?_) ?_
 ·obtain⟨_,rfl⟩:=eI hd;exact eA 3<|pgn 3
 ·obtain⟨ht,rfl⟩:=eI hd;have r0:=aCq x x0 t;have r1:=aCq x x0<|t+1;refine aN<|mU (d:=.int (oO x<|t+1)) 4 (PEd.ic (bZ eH (jN jD (jN jD (bZ iI (pdv 4) (pdv 4) (iD (big _ r0)<|big _ r0))<|bZ iI bD (pdv 4) (iD (by decide)<|big _ r0))<|pdv 3) bD<|by decide)<|by show _=(_+_+(t:Int))%_;rw[gZ]) ?_;refine bG (kM (d:=.int<|(oO x (t+1)*40692+7*(t:Int))%2147483399) 2 rfl (pv 2) (PEd.ic (bZ eH (jN jD (bZ iI (pdv 4) bD (iD (big _ r1)<|by decide)) (bZ iI bD (pdv 3)<|iD (by decide) (cB (by omega:_<=1000)<|by decide))) bD<|by decide)<|by rw[gZ]) ?_ ?_)
  ·unfold rY;rw[aA,aA,dP];omega
  ·refine⟨.inr rfl,.inr rfl,.inr ?_,.inl rfl,.inr rfl,trivial⟩;rw[aFn,aI];rfl
 ·rw[fA]
  have e:DL.cutD ((rY x<|m+1).map D.int) (some 1) none=((rY x<|m+1).drop 1).map D.int:=by
   have l1:((rY x<|m+1).map D.int).length=m+1:=by simp[rY]
   unfold DL.cutD;rw[show HT.sIx ((rY x<|m+1).map D.int).length 0 (some 1)=1 from by rw[l1];exact(HT.sIx_nat (m+1) 0 1).trans<|by omega,HT.sIx_none,tH,fJ<|by rw[pB];omega]
  exact bG<|cJ (PEd.cast (wF (ol:=some 1) (oh:=none) (nG 2 rfl<|pv 2) bD trivial)<|by rw[e]) trivial rfl
theorem aGY(F:Fun K "_law_size" "_law_size" aHB f fd)(hm:mg "_law_size"=some (.ref f)):bV P w K mg base "_law_size" 1 1 aIn:=by
 have nd:(["_law_cell","_law_some"]:List Str).Nodup:=by decide+kernel
 refine dL (N:=["_law_cell","_law_some"]) (ps:=["_law_cell"]) (k:=0) F hm λcdv A outer s H E hr ds r hl c=> ?_
 obtain⟨z,rfl,rfl⟩:=c;refine aN<|qZ (ds:=[cH (2,2),cH (1,2),cH (2,1),cH (1,3),cH (3,1),cH (1,4),cH (4,1)]) 1 (gL (ds:=[cH (2,2),cH (1,2),cH (2,1),cH (1,3),cH (3,1),cH (1,4),cH (4,1)]) ?_<|aP rfl) λl=> ?_
 ·repeat' (first|exact aS|refine aD (aHJ rfl rfl) ?_)
 have h0:=bP z (show(14:Int)≠0 by decide);have h1:=bM z (show(0:Int)<14 by decide);refine bG<|cJ (nD (i:=z%14) (d:=cH<|vZ z) (ds:=sizesB.map cH) (PEd.bor<|PEd.val (aEh (d1:=[cH (2,2),cH (1,2),cH (2,1),cH (1,3),cH (3,1),cH (1,4),cH (4,1)]) (d2:=[cH (1,1),cH (2,3),cH (3,2),cH (1,5),cH (5,1),cH (1,6),cH (6,1)]) (nG 1 rfl<|pv 1) (gL (ds:=[cH (1,1),cH (2,3),cH (3,2),cH (1,5),cH (5,1),cH (1,6),cH (6,1)]) ?_<|aP rfl).val.bor<|aP rfl)) (bZ eH (pdv 0) bD<|by decide) h0 ?_ λ_ _=>rfl) trivial rfl
 ·repeat' (first|exact aS|refine aD (aHJ rfl rfl) ?_)
 ·rw[bL];unfold vZ
  have hlt:(z%14).toNat<sizesB.length:=by show _<14;omega
  simp[bF,hlt]
theorem aLG(F:Fun K "_law_two" "_law_two" aOR f fd)(hm:mg "_law_two"=some (.ref f)):bV P w K mg base "_law_two" 1 1 aKx:=by
 have nd:(["_law_k"]:List Str).Nodup:=by decide+kernel
 refine dL (N:=["_law_k"]) (ps:=["_law_k"]) (k:=0) F hm λcdv A outer s H E hr ds r hl c=> ?_
 obtain⟨k,rfl,h0,h6,rfl⟩:=c;refine bG<|cJ (nD (i:=k) (d:=.int ((2^k.toNat:Nat):Int)) (PEd.bor<|PEd.val (gL (ds:=[.int 1,.int 2,.int 4,.int 8,.int 16,.int 32,.int 64]) ?_<|aP rfl)) (pdv 0) h0 (aIT _<|by omega) λ_ _=>rfl) trivial rfl
 repeat' (first|exact aS|refine aD bD ?_)
def aHA:List D->R->Prop:=λds r=>∃p,p∈bX/\ds=[cH p]/\r=.own ((hW (2^p.1.toNat) p.2.toNat).map aT)
abbrev nl14:List Str:=["_law_size_here","_law_found","_law_box","_law_longer","_law_filling"]
theorem aFs(F:Fun K "_law_fillings" "_law_fillings" aDm f fd)(zrange:mg "range"=none)(hm:mg "_law_fillings"=some (.ref f))(GT:bV P w K mg base "_law_two" 1 1 aKx):bV P w K mg base "_law_fillings" 2 1 aHA:=by
 have nd:nl14.Nodup:=by decide+kernel
 refine dL (N:=nl14) (ps:=["_law_size_here"]) (k:=1) F hm λcdv A outer s H E hr ds r hl c=> ?_
 obtain⟨p,hp,rfl,rfl⟩:=c;obtain⟨h1,h2,h3,h4,h5⟩:=sC p hp;have e2:p.2=((p.2.toNat:Nat):Int):=by omega
 have nd2:(["_law_word_here","_law_filling"]:List Str).Nodup:=by decide+kernel
 have m64:2^p.1.toNat<=64:=by
  have:p.1.toNat<=6:=by omega
  exact cP (rU (by decide) this)<|by decide
 refine aN<|qZ (ds:=[aT []]) 1 (gL (ds:=[aT []]) (aD (jK (ds:=[]) aS<|bI _) aS)<|aP rfl) λl=> ?_;refine aN<|iB (ds:=gB 0 p.2.toNat) (λk sd=>∃l,sd=[.val<|cH p,.own l<|(hW (2^p.1.toNat) k).map aT,.un,.un,.un]) (gE (n:=p.2.toNat) rfl zrange (PEd.cast (fW (n:=1) (d:=.int p.2) (pdv 0) bD rfl λ_ _=>rfl)<|by rw[<-e2])<|by omega) ⟨_,Le.refl _,l,rfl⟩ (λk d sdk hd hk=> ?_) λsdn hn=> ?_
 ·obtain⟨hk2,rfl⟩:=eI hd;obtain⟨l2,rfl⟩:=hk
  have hsm:(hW (2^p.1.toNat) k).length*2^p.1.toNat<=900:=by rw[vN];exact aAj p hp k hk2
  have lens:=xZ (2^p.1.toNat) k;have eL:hW (2^p.1.toNat) (k+1)=(hW (2^p.1.toNat) k).flatMap λs=>(bK<|2^p.1.toNat).map λ(w:Nat)=>s++[(w:Int)]:=rfl
  rw[eL];generalize hW (2^p.1.toNat) k=L at *;refine⟨_,eA 2<|pgn 2,nJ 1 rfl ?_⟩;refine aN<|qC 3 nd rfl (Or.inl rfl) (gL (ds:=[]) aS<|bI _) λl3=> ?_;refine aN<|nI (ds:=L.map aT) (λt=>[.val<|cH p,.val (.lst<|L.map aT),.un,.own l3<|((L.take t).flatMap λs=>(bK<|2^p.1.toNat).map λ(w:Nat)=>s++[(w:Int)]).map aT,.un]) (λt=>[.val<|cH p,.val (.lst<|L.map aT),.un,.own l3<|((L.take t).flatMap λs=>(bK<|2^p.1.toNat).map λ(w:Nat)=>s++[(w:Int)]).map aT,.val (aT<|L.getD t [])]) (gR<|pdv 1) ⟨.inr rfl,.inr rfl,.inl rfl,.inr rfl,.inr rfl,trivial⟩ (λt d hd=> ?_) (λt d hd=> ?_) ?_
  ·obtain⟨_,rfl⟩:=pX hd;exact eA 4<|pgn 4
  ·obtain⟨ht,rfl⟩:=pX hd;have hmem:L.getD t []∈L:=DL.getD_mem ht
   have et:L.take (t+1)=L.take t++[L.getD t []]:=by rw[dO];simp[bF,ht]
   have lk:(L.take t).length*2^p.1.toNat+2^p.1.toNat<=900:=by
    have h1:(L.take t).length+1<=L.length:=by rw[cW];omega
    have h2:=aFC (2^p.1.toNat) h1;rw[aFv] at h2;omega
   have ec:((gB 0<|2^p.1.toNat).filter λ_=>true).map (λd=>D.tup<|(L.getD t []).map D.int++[d])=((bK<|2^p.1.toNat).map λ(w:Nat)=>L.getD t []++[(w:Int)]).map aT:=by
    rw[dJ.mpr λ_ _=>rfl];unfold gB;rw[aX,aX];refine cI λw _=> ?_
    simp[aT]
   have lt:=lens _ hmem;refine bG<|yI (ds2:=((bK<|2^p.1.toNat).map λ(w:Nat)=>L.getD t []++[(w:Int)]).map aT) 3 rfl (pv 3) (PEd.val (PEd.cast (kR (N:=["_law_word_here","_law_filling"]) (M:=nl14) (cap:=[none,some 4]) (sc:=bJ aDm) (Tb:=λd=>[.val d,.val (aT<|L.getD t [])]) (λ_=>true) (λd=>D.tup<|(L.getD t []).map D.int++[d]) (gE (n:=2^p.1.toNat) rfl zrange (PEd.cast (bY (ds:=[.int p.1]) (r:=.val<|.int ((2^p.1.toNat:Nat):Int)) GT hr rfl (aD (fW (n:=0) (pdv 0) bD rfl λ_ _=>rfl) aS) ⟨p.1,rfl,by omega,by omega,rfl⟩ trivial rfl) rfl)<|by omega) (by rw[fA];omega) rfl (by decide+kernel) rfl (by decide+kernel) rfl (λcl C fp s H d _=>eA 0<|pgn 0) (λd _=>⟨.inl rfl,.inr rfl,trivial⟩) (λcl C fp s H d _=>.inl ⟨rfl,rfl⟩) λcl C fp s H d _ _=>aEv (pdv 1) (jK (ds:=[d]) (aD (pdv 0) aS)<|aP rfl) ?_)<|by rw[ec])) ?_ ?_
   ·simp only[aA,cM,gW];omega
   ·rw[aA,qE,aA,aA,dP];omega
   ·refine⟨.inr rfl,.inr rfl,.inr rfl,.inr ?_,.inl rfl,trivial⟩;rw[et,rW,aI];simp
  ·rw[aA,fS];refine bG<|aGa 1 3 rfl nd rfl (Or.inl rfl) (pv 3) ?_;exact⟨_,Le.refl _,l3,rfl⟩
 ·obtain⟨l2,rfl⟩:=hn;refine bG<|mG 1 rfl (pv 1) ?_;show R.own _=R.own _;rw[fA]
theorem aGq(F:Fun K "_law_small" "_law_small" aIg f fd)(hm:mg "_law_small"=some (.ref f))(GZ:bV P w K mg base "_law_size" 1 1 aIn):bV P w K mg base "_law_small" 2 1 aHH:=by
 have nd:(["_law_cell"]:List Str).Nodup:=by decide+kernel
 refine dL (N:=["_law_cell"]) (ps:=["_law_cell"]) (k:=1) F hm λcdv A outer s H E hr ds r hl c=> ?_
 obtain⟨c,rfl,rfl⟩:=c;have a1:=bP c (show(4:Int)≠0 by decide);have a2:=bM c (show(0:Int)<4 by decide);refine bG<|cJ (bY (ds:=[.int<|tP c]) GZ hr rfl (aD (nD (i:=c%4) (d:=.int<|tP c) (PEd.bor<|PEd.val (gL (ds:=[.int<|c / 4%7,.int<|c / 4%8,.int<|c / 4%10,.int<|c / 4%14]) ?_<|aP rfl)) (bZ eH (pdv 0) bD<|by decide) a1 (aGL (V:=[c / 4%7,c / 4%8,c / 4%10,c / 4%14]) (k:=(c%4).toNat)<|by show _<4;omega) λ_ _=>rfl) aS) ⟨_,rfl,rfl⟩ trivial rfl) trivial rfl;exact aD (bZ eH (bZ fH (pdv 0) bD ⟨by decide,by decide⟩) bD<|by decide)<|aD (bZ eH (bZ fH (pdv 0) bD ⟨by decide,by decide⟩) bD<|by decide) (aD (bZ eH (bZ fH (pdv 0) bD ⟨by decide,by decide⟩) bD<|by decide)<|aD (bZ eH (bZ fH (pdv 0) bD ⟨by decide,by decide⟩) bD<|by decide) aS)
abbrev nl15:List Str:=["_law_number","_law_size_here","_law_i","_law_j","_law_kind"]
theorem aGI(F:Fun K "_law_step" "_law_step" aHM f fd)(hm:mg "_law_step"=some (.ref f))(GT:bV P w K mg base "_law_two" 1 1 aKx):bV P w K mg base "_law_step" 2 2 aIc:=by
 have nd:nl15.Nodup:=by decide+kernel
 refine dL (N:=nl15) (ps:=["_law_number","_law_size_here"]) (k:=1) F hm λcdv A outer s H E hr ds r hl c=> ?_
 obtain⟨x,p,hp,rfl,rfl⟩:=c;obtain⟨h1,h2,h3,h4,h5⟩:=sC p hp;have m0:=pw0 p.1.toNat;have p20:(0:Int)<p.2:=by omega
 have d0:=bP x (show(10:Int)≠0 by decide);have d1:=bM x (show(0:Int)<10 by decide);refine aN<|mU (d:=.int<|x / 10%p.2) 2 (bZ eH (bZ fH (pdv 0) bD ⟨by decide,by decide⟩) (fW (n:=1) (d:=.int p.2) (pdv 1) bD rfl λ_ _=>rfl) p20) ?_;refine aN<|mU (d:=.int<|x / 60%p.2) 3 (bZ eH (bZ fH (pdv 0) bD ⟨by decide,by decide⟩) (fW (n:=1) (d:=.int p.2) (pdv 1) bD rfl λ_ _=>rfl) p20) ?_;refine aN<|mU (d:=.int<|x%10) 4 (bZ eH (pdv 0) bD<|by decide) ?_
 have nm6:∀k:Nat,k<6->([.str "and",.str "or",.str "xor",.str "add",.str "take",.str "copy"]:List D)[k]? =some (.str<|nm k):=by
  intro k hk
  match k,hk with
  |0,_=>rfl
  |1,_=>rfl
  |2,_=>rfl
  |3,_=>rfl
  |4,_=>rfl
  |5,_=>rfl
 have nm7:∀k:Nat,k<3->([.str "not",.str "up",.str "down"]:List D)[k]? =some (.str (nm<|k+7)):=by
  intro k hk
  match k,hk with
  |0,_=>rfl
  |1,_=>rfl
  |2,_=>rfl
 refine aN<|kI (aIa aKS (pdv 4) bD<|kO _) (λh=> ?_) λh=>dS ?_
 ·have h':x%10<6:=by simpa using h
  have es:sqD (rR p x)=.tup [.str<|nm (x%10).toNat,.int<|x / 10%p.2,.int<|x / 60%p.2]:=by show mW (x%10).toNat _ _ _=_;unfold mW;rw[if_pos<|by omega];rfl
  rw[es];refine bG<|cJ (jK (ds:=[.str<|nm (x%10).toNat,.int<|x / 10%p.2,.int<|x / 60%p.2]) (aD (nD (i:=x%10) (ds:=[.str "and",.str "or",.str "xor",.str "add",.str "take",.str "copy"]) (PEd.bor<|PEd.val (gL (ds:=[.str "and",.str "or",.str "xor",.str "add",.str "take",.str "copy"]) ?_<|aP rfl)) (pdv 4) d0 (nm6 (x%10).toNat<|by omega) λ_ _=>rfl) (aD (pdv 2)<|aD (pdv 3) aS))<|aP rfl) trivial rfl
  repeat' (first|exact aS|refine aD gS ?_)
 have h':¬ x%10<6:=by simpa using h
 refine aN<|kI (oV (pdv 4) bD) (λh2=> ?_) λh2=>dS ?_
 ·have h2':x%10=6:=by simpa using h2
  have es:sqD (rR p x)=.tup [.str "put",.int<|x / 10%p.2,.int<|x / 360%((2^p.1.toNat:Nat):Int)]:=by show mW (x%10).toNat _ _ _=_;rw[h2'];rfl
  rw[es];exact bG<|cJ (jK (ds:=[.str "put",.int<|x / 10%p.2,.int<|x / 360%((2^p.1.toNat:Nat):Int)]) (aD gS (aD (pdv 2)<|aD (bZ eH (bZ fH (pdv 0) bD ⟨by decide,by decide⟩) (bY (ds:=[.int p.1]) (r:=.val<|.int ((2^p.1.toNat:Nat):Int)) GT hr rfl (aD (fW (n:=0) (pdv 1) bD rfl λ_ _=>rfl) aS) ⟨p.1,rfl,by omega,by omega,rfl⟩ trivial rfl) m0) aS))<|aP rfl) trivial rfl
 have h2':¬ x%10=6:=by simpa using h2
 have es:sqD (rR p x)=.tup [.str<|nm (x%10).toNat,.int<|x / 10%p.2]:=by show mW (x%10).toNat _ _ _=_;unfold mW;rw[if_neg<|by omega,if_neg<|by omega];rfl
 rw[es];have e7:(x%10-7).toNat+7=(x%10).toNat:=by omega
 have n7:=nm7 (x%10-7).toNat (by omega);rw[e7] at n7;refine bG<|cJ (jK (ds:=[.str<|nm (x%10).toNat,.int<|x / 10%p.2]) (aD (nD (i:=x%10-7) (PEd.bor<|PEd.val (gL (ds:=[.str "not",.str "up",.str "down"]) ?_<|aP rfl)) (jN aBy (pdv 4) bD) (by omega) n7 λ_ _=>rfl)<|aD (pdv 2) aS)<|aP rfl) trivial rfl
 repeat' (first|exact aS|refine aD gS ?_)
theorem aJb(L:List SK)(q:SQ):mV (((L.map skD).filter λd=>deq (pJ d)<|sqD q).map pJ) []= !L.any (λs=>deq (sqD s.1)<|sqD q):=by
 have e:(L.map skD).filter (λd=>deq (pJ d)<|sqD q)=(L.filter λs=>deq (sqD s.1)<|sqD q).map skD:=by rw[qI];rfl
 rw[e];cases h:L.any (λs=>deq (sqD s.1)<|sqD q) with
 |false=>
  have:L.filter (λs=>deq (sqD s.1)<|sqD q)=[]:=by rw[aCS];intro s hs z;have:=List.any_eq_false.mp h s hs;exact this z
  rw[this];rfl
 |true=>
  obtain⟨s,hs,hz⟩:=pD.mp h;have:s∈L.filter (λs=>deq (sqD s.1)<|sqD q):=eM.mpr ⟨hs,hz⟩;cases e2:L.filter (λs=>deq (sqD s.1)<|sqD q) with
  |nil=>rw[e2] at this;cases this
  |cons a b=>rfl
abbrev nl16:List Str:=["_law_cell","_law_size_here","_law_most","_law_xs","_law_stock_here","_law_k","_law_step_here"]
abbrev nl17:List Str:=["_law_one","_law_price","_law_step_here"]
theorem aFm(F:Fun K "_law_stock" "_law_stock" vI f fd)(zrange:mg "range"=none)(hm:mg "_law_stock"=some (.ref f))(GX:bV P w K mg base "_law_stream" 1 2 vJ)(GT:bV P w K mg base "_law_step" 2 2 aIc):bV P w K mg base "_law_stock" 3 3 aEf:=by
 have nd:nl16.Nodup:=by decide+kernel
 refine dL (N:=nl16) (ps:=["_law_cell","_law_size_here","_law_most"]) (k:=2) F hm λcdv A outer s H E hr ds r hl c=> ?_
 obtain⟨c,p,m,hp,m1,m8,rfl,rfl⟩:=c;have hr1:=hr.mono (show 1<=2 by decide);have hu:(A.deeper<|Aj "_law_stock" (bJ vI) s.heap.objs.size f cdv).units+4<AR:=by have:=hr.un;omega
 have ml:=mL c<|2*m+1;have at_:=λ{i:Nat} (h:i<2*m+1)=>aEM c h
 have ix:∀ {i:Nat},i<2*m+1->((cK c<|2*m+1).map D.int)[i]? =some (.int<|(cK c<|2*m+1).getD i 0):=λ{i} h=>by
  rw[bL];have:i<(cK c<|2*m+1).length:=by omega
  simp[bF,this]
 have eS:aKz p c m=mY p (cK c<|2*m+1) (1+((cK c<|2*m+1).getD (2*m) 0%(m:Int)).toNat):=rfl;rw[eS];have SN:=aBa hp (cK c<|2*m+1);refine aN<|qZ (ds:=(cK c<|2*m+1).map D.int) 3 (bY (ds:=[.int c,.int ((2*m+1:Nat):Int)]) GX hr1 rfl (aD (pdv 0)<|aD (PEd.ic (jN jD (bZ iI bD (pdv 2)<|iD (by decide) (cB (by omega:_<=8)<|by decide)) bD)<|by omega) aS) ⟨c,_,rfl,by omega,rfl⟩ trivial rfl) λl=>nJ 3 rfl ?_;refine aN<|qZ (ds:=([]:List SK).map skD) 4 (gL (ds:=[]) aS<|bI _) λl4=> ?_;have q0:=(at_ (i:=2*m)<|by omega).1;have r1:=bP ((cK c<|2*m+1).getD (2*m) 0) (show(m:Int)≠0 by omega);have r2:=bM ((cK c<|2*m+1).getD (2*m) 0) (show(0:Int)<m by omega);generalize hX:cK c (2*m+1)=xs at *;refine aN<|nI (ds:=gB 0<|1+(xs.getD (2*m) 0%(m:Int)).toNat) (λt=>[.val<|.int c,.val<|cH p,.val<|.int (m:Int),.val (.lst<|xs.map D.int),.own l4<|(mY p xs t).map skD,.un,.un]) (λt=>[.val<|.int c,.val<|cH p,.val<|.int (m:Int),.val (.lst<|xs.map D.int),.own l4<|(mY p xs t).map skD,.val (.int<|0+(t:Int)),.un]) (gE (n:=1+(xs.getD (2*m) 0%(m:Int)).toNat) rfl zrange (PEd.ic (jN jD bD (bZ eH (fY (n:=2*m) (PEd.bor<|pdv 3) (PEd.ic (bZ iI bD (pdv 2)<|iD (by decide) (cB (by omega:_<=8)<|by decide))<|by omega) (ix<|by omega) λ_ _=>rfl) (pdv 2)<|by omega))<|by omega)<|by omega) ⟨.inr rfl,.inr rfl,.inr rfl,.inr rfl,.inr rfl,.inr rfl,.inr rfl,trivial⟩ (λt d hd=> ?_) (λt d hd=> ?_) ?_
 ·obtain⟨_,rfl⟩:=eI hd;exact eA 5<|pgn 5
 ·obtain⟨ht,rfl⟩:=eI hd;rw[gZ];have tm:t<m:=by omega
  have tb:((t:Nat):Int).natAbs<2^250:=cB (by omega:_<=8) (by decide);refine aN<|mU (d:=sqD (rR p<|xs.getD (2*t) 0)) 6 (bY (ds:=[.int<|xs.getD (2*t) 0,cH p]) GT hr rfl (aD (fY (n:=2*t) (PEd.bor<|pdv 3) (PEd.ic (bZ iI bD (pdv 5)<|iD (by decide) tb)<|by omega) (ix<|by omega) λ_ _=>rfl)<|aD (pdv 1) aS) ⟨_,p,hp,rfl,rfl⟩ trivial rfl) ?_;have eN:mY p xs (t+1)=if(mY p xs t).any (λs=>deq (sqD s.1)<|sqD (rR p<|xs.getD (2*t) 0)) then mY p xs t else mY p xs t++[(rR p<|xs.getD (2*t) 0,1+xs.getD (2*t+1) 0%mI xs)]:=rfl
  rw[eN];have ll:(mY p xs t).length<=8:=cP (SN t).1 (by omega);generalize mY p xs t=L at *;generalize rR p (xs.getD (2*t) 0)=q;have dr:=aEx xs;have nd2:nl17.Nodup:=by decide+kernel
  have flat:pY (((L.map skD).filter λd=>deq (pJ d)<|sqD q).map pJ)=true:=by
   have e:(L.map skD).filter (λd=>deq (pJ d)<|sqD q)=(L.filter λs=>deq (sqD s.1)<|sqD q).map skD:=by rw[qI];rfl
   rw[e,aX];exact sZ (λs:SK=>pJ<|skD s) (λs=>aLJ s.1) _
  have plc:plL (((L.map skD).filter λd=>deq (pJ d)<|sqD q).map pJ)=true/\pH (((L.map skD).filter λd=>deq (pJ d)<|sqD q).map pJ)<=1:=by
   have e:(L.map skD).filter (λd=>deq (pJ d)<|sqD q)=(L.filter λs=>deq (sqD s.1)<|sqD q).map skD:=by rw[qI];rfl
   rw[e,aX];exact⟨aDJ (λs:SK=>pJ<|skD s) (λs=>aIN s.1) _,aBV (λs:SK=>pJ<|skD s) 1 (λs=>aFu<|aHT s.1) _⟩
  refine bG<|kI (k:= !L.any (λs=>deq (sqD s.1)<|sqD q)) (PTd.cast (aDz (ra:=.val (.lst<|((L.map skD).filter λd=>deq (pJ d)<|sqD q).map pJ)) (rb:=.val<|.lst []) (PEd.val (PEd.lend 4 rfl (aKI rfl) flat<|kR (ds:=L.map skD) (N:=nl17) (M:=nl16) (cap:=[none,none,some 6]) (sc:=bJ vI) (Tb:=λd=>twoT d [.val<|sqD q]) (λd=>deq (pJ d)<|sqD q) pJ (gR<|pdv 4) (by rw[aA];omega) rfl (by decide+kernel) rfl (by decide+kernel) rfl (λcl C fp s H d hd=> ?_) (λd hd=> ?_) (λcl C fp s H d hd=>.inr ⟨_,rfl, ?_⟩) λcl C fp s H d hd _=> ?_)) (PEd.val (gL (ds:=[]) aS<|aP rfl)) trivial trivial (.inr ⟨rfl,rfl⟩) plc.1 rfl (aOu hu<|by have:=plc.2;show pH _+1+1<=4;omega))<|aJb L q) (λh=> ?_) λh=> ?_
  ·obtain⟨s,_,rfl⟩:=aH.mp hd;exact kS (js:=[0,1]) rfl (fD (pgn 0)<|fD (pgn 1) kU) rfl rfl
  ·obtain⟨s,_,rfl⟩:=aH.mp hd;exact⟨.inl rfl,.inl rfl,.inr rfl,trivial⟩
  ·obtain⟨s,_,rfl⟩:=aH.mp hd;refine aDz (ra:=.val<|sqD s.1) (rb:=.val<|sqD q) (pdv 0) (pdv 2) trivial trivial (.inl ⟨aId _,aId _⟩) (aIN _) (aIN _) (aOu hu<|by show dep (sqD _)+1<=4;rw[aHT];decide)
  ·obtain⟨s,_,rfl⟩:=aH.mp hd;exact(pdv 0)
  ·have h':L.any (λs=>deq (sqD s.1)<|sqD q)=false:=by simpa using h
   rw[h'];refine bG<|kM (d:=skD (q,1+xs.getD (2*t+1) 0%mI xs)) 4 rfl (pv 4) (jK (ds:=[sqD q,.int<|1+xs.getD (2*t+1) 0%mI xs]) (aD (pdv 6)<|aD (jN jD bD<|bZ eH (fY (n:=2*t+1) (PEd.bor<|pdv 3) (PEd.ic (jN jD (bZ iI bD (pdv 5)<|iD (by decide) tb) bD)<|by omega) (ix<|by omega) λ_ _=>rfl) (nD (i:=xs.getD 0 0 / 7%2) (d:=.int<|mI xs) (PEd.bor<|PEd.val (gL (ds:=[.int 3,.int 9]) (aD bD<|aD bD aS)<|aP rfl)) (bZ eH (bZ fH (fY (n:=0) (PEd.bor<|pdv 3) bD (ix<|by omega) λ_ _=>rfl) bD ⟨by decide,by decide⟩) bD<|by decide) ?_ ?_ λ_ _=>rfl) ?_) aS)<|aP rfl) ?_ ?_
   ·exact bP _<|by decide
   ·have:xs.getD 0 0 / 7%2=0\/xs.getD 0 0 / 7%2=1:=by omega
    unfold mI
    rcases this with e|e
    ·rw[e];rfl
    ·rw[e];rfl
   ·show(0:Int)<_
    rcases dr with d|d<;>rw[d]<;>decide
   ·rw[aA];omega
   ·refine⟨.inr rfl,.inr rfl,.inr rfl,.inr rfl,.inr ?_,.inl rfl,.inl rfl,trivial⟩;rw[if_neg<|by decide,aI];rfl
  ·have h':L.any (λs=>deq (sqD s.1)<|sqD q)=true:=by simpa using h
   rw[h',if_pos rfl];exact dS ⟨.inr rfl,.inr rfl,.inr rfl,.inr rfl,.inr rfl,.inl rfl,.inl rfl,trivial⟩
 ·rw[fA];exact bG<|mG 4 rfl (pv 4) rfl
abbrev nl18:List Str:=["_law_one","_law_other","_law_deed","_law_bits_here","_law_found","_law_k","_law_here","_law_there","_law_bit"]
theorem aGJ(F:Fun K "_law_bits" "_law_bits" aDl f fd)(zrange:mg "range"=none)(zmax:mg "max"=none)(hm:mg "_law_bits"=some (.ref f))(GT:bV P w K mg base "_law_two" 1 1 aKx):bV P w K mg base "_law_bits" 2 4 aIm:=by
 have nd:nl18.Nodup:=by decide+kernel
 refine dL (N:=nl18) (ps:=["_law_one","_law_other","_law_deed","_law_bits_here"]) (k:=1) F hm λcdv A outer s H E hr ds r hl c=> ?_
 obtain⟨b,k,x,y,hb,hk,hx,hy,rfl,rfl⟩:=c;rw[<-aGU hb hk hx hy];refine aN<|jW 4 nd rfl (Or.inl rfl) bD ?_;refine aN<|nI (ds:=gB 0 b) (λt=>[.val<|.int x,.val<|.int y,.val<|.int (k:Int),.val<|.int (b:Int),.val (.int<|wY k (pows.take t) x y),.un,.un,.un,.un]) (λt=>[.val<|.int x,.val<|.int y,.val<|.int (k:Int),.val<|.int (b:Int),.val (.int<|wY k (pows.take t) x y),.val (.int<|0+(t:Int)),.un,.un,.un]) (gE (n:=b) rfl zrange (pdv 3)<|by omega) ⟨.inr rfl,.inr rfl,.inr rfl,.inr rfl,.inr rfl,.inr rfl,.inr rfl,.inr rfl,.inr rfl,trivial⟩ (λt d hd=> ?_) (λt d hd=> ?_) ?_
 ·obtain⟨_,rfl⟩:=eI hd;exact eA 5<|pgn 5
 ·obtain⟨ht,rfl⟩:=eI hd;rw[gZ];have two:∀ {sd:List Slot}{p1 p2 p3:Pos},sd[5]? =some (.val<|.int (t:Int))->PEd (oM CX0 P w K mg base nl18 "_law_bits" (bJ aDl) f cdv A outer s H E).nox sd (.Call (.Name "_law_two" p1) [.Name "_law_k" p2] [] p3) (.val<|.int ((2^t:Nat):Int)):=λhs=>bY (ds:=[.int (t:Int)]) GT hr rfl (aD (lN 5 hs<|pv 5) aS) ⟨(t:Int),rfl,by omega,by omega,by rw[dG]⟩ trivial rfl
  have p0:=pw0 t
  have pl2:((2^t:Nat):Int).natAbs.log2<9000:=by
   have:∀t,t<7->((2^t:Nat):Int).natAbs.log2<9000:=by decide+kernel
   exact this t<|by omega
  have b64:((2^t:Nat):Int)<=64:=by
   have:∀t,t<7->((2^t:Nat):Int)<=64:=by decide+kernel
   exact this t<|by omega
  have h0:=bP (x / ((2^t:Nat):Int)) (show(2:Int)≠0 by decide);have h1:=bM (x / ((2^t:Nat):Int)) (show(0:Int)<2 by decide);have t0:=bP (y / ((2^t:Nat):Int)) (show(2:Int)≠0 by decide);have t1:=bM (y / ((2^t:Nat):Int)) (show(0:Int)<2 by decide);refine aN<|mU (d:=.int<|x / ((2^t:Nat):Int)%2) 6 (bZ eH (bZ fH (pdv 0) (two rfl) ⟨p0,pl2⟩) bD<|by decide) ?_;refine aN<|mU (d:=.int<|y / ((2^t:Nat):Int)%2) 7 (bZ eH (bZ fH (pdv 1) (two rfl) ⟨p0,pl2⟩) bD<|by decide) ?_
  have eb:wY k (pows.take<|t+1) x y=wY k (pows.take t) x y+bop k (x / ((2^t:Nat):Int)%2) (y / ((2^t:Nat):Int)%2)*((2^t:Nat):Int):=by rw[aGu t<|by omega,Int.mul_comm];unfold wY;rw[uO];rfl
  generalize x / ((2^t:Nat):Int)%2=hh at *;generalize y / ((2^t:Nat):Int)%2=tt at *;refine aN<|mU (d:=.int<|bop k hh tt) 8 (fY (n:=k) (ds:=[.int<|hh*tt,.int (if tt>hh then tt else hh),.int<|(hh+tt)%2]) (PEd.bor<|PEd.val (gL (ds:=[.int<|hh*tt,.int (if tt>hh then tt else hh),.int<|(hh+tt)%2]) (aD (bZ iI (pdv 6) (pdv 7) (aFN (by omega)<|by omega)) (aD (aJJ rfl zmax (pdv 6)<|pdv 7)<|aD (bZ eH (jN jD (pdv 6)<|pdv 7) bD<|by decide) aS))<|aP rfl)) (pdv 2) ?_ λ_ _=>rfl) ?_
  ·match k,hk with
   |0,_=>rfl
   |1,_=>rfl
   |2,_=>rfl
  ·refine bG<|jW 4 nd rfl (Or.inl rfl) (jN jD (pdv 4)<|bZ iI (pdv 8) (two rfl) (aFN (by omega)<|by omega)) ?_;refine⟨.inr rfl,.inr rfl,.inr rfl,.inr rfl,.inr ?_,.inl rfl,.inl rfl,.inl rfl,.inl rfl,trivial⟩;rw[eb]
 ·rw[fA];exact bG<|cJ (pdv 4) trivial rfl
abbrev nl19:List Str:=["_law_step_here","_law_bits_here","_law_filling","_law_deed","_law_here","_law_there"]
abbrev aOG:List Str:=["_law_step_here","_law_bits_here","_law_filling"]
abbrev aKy:List Str:=["and","or","xor"]
theorem aGX(F:Fun K "_law_word" "_law_word" aBx f fd)(zint:mg "int"=none)(hm:mg "_law_word"=some (.ref f))(GT:bV P w K mg base "_law_two" 1 1 aKx)(GB:bV P w K mg base "_law_bits" 2 4 aIm):bV P w K mg base "_law_word" 3 3 aHY:=by
 have nd:nl19.Nodup:=by decide+kernel
 refine dL (N:=nl19) (ps:=aOG) (k:=2) F hm λcdv A outer s H E hr ds r hl c=> ?_
 obtain⟨p,⟨k,i,j,n⟩,ws,O,G,rfl,rfl⟩:=c;obtain⟨h1,h2,h3,h4,h5⟩:=sC p O.sz;obtain⟨_,k10,i0,j0,n0⟩:=O;simp only at k10 i0 j0 n0;have hr1:=hr.mono (show 1<=2 by decide);have m0:=pw0 p.1.toNat;have hu:(A.deeper<|Aj "_law_word" (bJ aBx) s.heap.objs.size f cdv).units+1<AR:=by have:=hr.un;omega
 have li:i.toNat<ws.length:=by rw[G.len];omega
 have lj:j.toNat<ws.length:=by rw[G.len];omega
 have ai:(ws.map D.int)[i.toNat]? =some (.int<|ws.getD i.toNat 0):=by rw[bL];simp[bF,li]
 have aj:(ws.map D.int)[j.toNat]? =some (.int<|ws.getD j.toNat 0):=by rw[bL];simp[bF,lj]
 have wi:=G.wd (ws.getD i.toNat 0)<|DL.getD_mem li;have wj:=G.wd (ws.getD j.toNat 0)<|DL.getD_mem lj;have e1:p.1=((p.1.toNat:Nat):Int):=by omega
 have en:nwQ p (k,i,j,n) ws=aIy k ((2^p.1.toNat:Nat):Int) (ws.getD i.toNat 0) (ws.getD j.toNat 0) n:=rfl;rw[en];have esq:sqD (k,i,j,n)=mW k i j n:=rfl;rw[esq];generalize ws.getD i.toNat 0=va at *;generalize ws.getD j.toNat 0=vc at *;have two:∀ {sd:List Slot}{p1 p2 p3:Pos},sd[1]? =some (.val<|.int p.1)->PEd (oM CX0 P w K mg base nl19 "_law_word" (bJ aBx) f cdv A outer s H E).nox sd (.Call (.Name "_law_two" p1) [.Name "_law_bits_here" p2] [] p3) (.val<|.int ((2^p.1.toNat:Nat):Int)):=λhs=>bY (ds:=[.int p.1]) GT hr1 rfl (aD (lN 1 hs<|pv 1) aS) ⟨p.1,rfl,by omega,by omega,rfl⟩ trivial rfl
 by_cases k7:7<=k
 ·have es:mW k i j n=.tup [.str<|nm k,.int i]:=by unfold mW;rw[if_neg<|by omega,if_neg<|by omega]
  rw[es];refine aN<|mU (d:=.str<|nm k) 3 (fW (n:=0) (pdv 0) bD rfl λ_ _=>rfl) ?_;refine aN<|mU (d:=.int va) 4 (vA (i:=i) (pdv 2) (fW (n:=1) (pdv 0) bD rfl λ_ _=>rfl) i0.1 ai λ_ _=>rfl) ?_;refine aN (fU (oP (pdv 3) gS rfl rfl rfl<|aDs k k10) (by simp;omega)<|dS ?_);refine aN<|jV (k:=inV (V.str<|nm k) [V.str "not",V.str "up",V.str "down"]) (aEl (ss:=["not","up","down"]) (pdv 3) (jK (ds:=[.str "not",.str "up",.str "down"]) (aD gS (aD gS<|aD gS aS))<|aP rfl) rfl rfl) (by rw[aDW k k10];simpa using k7) ?_;refine bG<|cJ (aGS (vx:=aIy k ((2^p.1.toNat:Nat):Int) va vc n) rfl (jN aBy (jN aBy (two rfl) bD)<|pdv 4) (bZ eH (bZ iI (pdv 4) bD (aFN (by decide)<|by decide)) (two rfl) m0) (bZ aJi (pdv 4) bD ⟨by decide,by decide⟩) (pdv 3) ?_ hu λ_ _=>rfl) trivial rfl;obtain⟨v1,v2,v3⟩:=val3 (k1:="not") (k2:="up") (k3:="down") (by decide+kernel) (by decide+kernel) (by decide+kernel) (V.int<|((2^p.1.toNat:Nat):Int)-1-va) (V.int<|va*2%((2^p.1.toNat:Nat):Int)) (V.int<|va / 2)
  rcases(by omega:k=7\/k=8\/k=9) with rfl|rfl|rfl
  ·exact v1
  ·exact v2
  ·exact v3
 by_cases k6:k=6
 ·subst k6;have es:mW 6 i j n=.tup [.str<|nm 6,.int i,.int n]:=rfl;rw[es];refine aN<|mU (d:=.str<|nm 6) 3 (fW (n:=0) (pdv 0) bD rfl λ_ _=>rfl) ?_;refine aN<|mU (d:=.int va) 4 (vA (i:=i) (pdv 2) (fW (n:=1) (pdv 0) bD rfl λ_ _=>rfl) i0.1 ai λ_ _=>rfl) ?_;refine aN<|jV (oP (pdv 3) gS rfl rfl rfl<|aDs 6 k10) rfl ?_;exact bG<|cJ (fW (n:=2) (pdv 0) bD rfl λ_ _=>rfl) trivial rfl
 have k6':k<6:=by omega
 have es:mW k i j n=.tup [.str<|nm k,.int i,.int j]:=by unfold mW;rw[if_pos k6']
 have nwe:aIy k ((2^p.1.toNat:Nat):Int) va vc n=xR k ((2^p.1.toNat:Nat):Int) va vc:=by unfold aIy;rw[if_neg k6,if_neg k7]
 rw[es,nwe];refine aN<|mU (d:=.str<|nm k) 3 (fW (n:=0) (pdv 0) bD rfl λ_ _=>rfl) ?_;refine aN<|mU (d:=.int va) 4 (vA (i:=i) (pdv 2) (fW (n:=1) (pdv 0) bD rfl λ_ _=>rfl) i0.1 ai λ_ _=>rfl) ?_;refine aN (fU (oP (pdv 3) gS rfl rfl rfl<|aDs k k10) (by simp;omega)<|dS ?_);refine aN (fU (k:=inV (V.str<|nm k) [V.str "not",V.str "up",V.str "down"]) (aEl (ss:=["not","up","down"]) (pdv 3) (jK (ds:=[.str "not",.str "up",.str "down"]) (aD gS (aD gS<|aD gS aS))<|aP rfl) rfl rfl) (by rw[aDW k k10];simpa using k7)<|dS ?_);refine aN<|mU (d:=.int vc) 5 (vA (i:=j) (pdv 2) (fW (n:=2) (pdv 0) bD rfl λ_ _=>rfl) j0.1 aj λ_ _=>rfl) ?_;refine aN<|kI (oP (pdv 3) gS rfl rfl rfl<|aJz k k10) (λh=> ?_) λh=>dS ?_
 ·have h':k=5:=by simpa using h
  subst h';exact bG<|cJ (pdv 5) trivial rfl
 have k5:¬ k=5:=by simpa using h
 refine aN<|kI (k:=decide<|k=3\/k=4) (PWd.pt (PWd.cast (vW (oP (pdv 3) gS rfl rfl rfl rfl) λ_=>vG<|oP (pdv 3) gS rfl rfl rfl rfl)<|aCK k k10)) (λh=> ?_) λh=>dS ?_
 ·have h':k=3\/k=4:=by simpa using h
  have sel:([.int<|va+vc,.int<|va-vc]:List D)[(if decide (k=4)=true then(1:Int) else 0).toNat]? =some (.int (if k=4 then va-vc else va+vc)):=by rcases h' with rfl|rfl<;>rfl
  refine bG<|cJ (PEd.ic (bZ eH (nD (i:=if decide (k=4)=true then(1:Int) else 0) (PEd.bor<|PEd.val (gL (ds:=[.int<|va+vc,.int<|va-vc]) (aD (jN jD (pdv 4)<|pdv 5)<|aD (jN aBy (pdv 4)<|pdv 5) aS)<|aP rfl)) (aDY rfl zint (aMj (pdv 3) gS rfl rfl rfl<|aJV k k10)) ?_ sel λ_ _=>rfl) (two rfl) m0) ?_) trivial rfl
  ·split<;>decide
  ·rcases h' with rfl|rfl<;>rfl
 have k34:¬ (k=3\/k=4):=by simpa using h
 have k3:k<3:=by omega
 have ind:aKy[k]? =some (nm k)/\∀m,m<k->∀y,aKy[m]? =some y->y≠nm k:=by
  have g:∀k,k<3->aKy[k]? =some (nm k)/\∀m,m<k->aKy[m]? ≠some (nm k):=by decide+kernel
  obtain⟨a,b⟩:=g k k3;exact⟨a,λm hm y hy e=>b m hm<|by rw[hy,e]⟩
 refine bG<|cJ (bY (ds:=[.int va,.int vc,.int (k:Int),.int ((p.1.toNat:Nat):Int)]) GB hr rfl (aD (pdv 4)<|aD (pdv 5) (aD (aGA (ss:=aKy) (PEd.bor<|PEd.val (gL (ds:=[.str "and",.str "or",.str "xor"]) (aD gS (aD gS<|aD gS aS))<|aP rfl)) (pdv 3) ind.1 ind.2)<|aD (PEd.ic (pdv 1) e1) aS)) ⟨p.1.toNat,k,va,vc,by omega,k3,wi,wj,rfl,by rw[aLn k3]⟩ trivial rfl) trivial rfl
theorem aLx(q:SQ):∃es,sqD q=.tup (.str (nm q.1)::.int q.2.1::es):=by
 show ∃es,mW _ _ _ _=_;unfold mW
 split
 ·exact⟨_,rfl⟩
 ·split
  ·exact⟨_,rfl⟩
  ·exact⟨_,rfl⟩
abbrev nl22:List Str:=["_law_step_here","_law_bits_here","_law_filling","_law_words"]
theorem aCC(F:Fun K "_law_stepped" "_law_stepped" aBT f fd)(zlist:mg "list"=none)(ztuple:mg "tuple"=none)(hm:mg "_law_stepped"=some (.ref f))(GW:bV P w K mg base "_law_word" 3 3 aHY):bV P w K mg base "_law_stepped" 4 3 aCc:=by
 have nd:nl22.Nodup:=by decide+kernel
 refine dL (N:=nl22) (ps:=aOG) (k:=3) F hm λcdv A outer s H E hr ds r hl c=> ?_
 obtain⟨p,q,ws,O,G,rfl,rfl⟩:=c;have ei:q.2.1=((q.2.1.toNat:Nat):Int):=by have:=O.i0;omega
 have li:q.2.1.toNat<ws.length:=by have:=O.i0;rw[G.len];omega
 obtain⟨es0,es1⟩:=aLx q;refine aN<|qZ (ds:=ws.map D.int) 3 (aBY rfl zlist<|pdv 2) λl=> ?_;refine aN<|uC 3 (n:=q.2.1.toNat) (d:=.int<|nwQ p q ws) rfl (pv 3) (bY (ds:=[sqD q,.int p.1,aT ws]) GW hr rfl (aD (pdv 0) (aD (pdv 1)<|aD (pdv 2) aS)) ⟨p,q,ws,O,G,rfl,rfl⟩ trivial rfl) (fW (n:=1) (ds:=.str (nm q.1)::.int q.2.1::es0) (PEd.cast (pdv 0)<|by rw[es1]) bD (by rw[<-ei];rfl) λ_ _=>rfl) (by rw[aA];exact li) ?_;refine bG<|cJ (mD rfl ztuple (nG 3 rfl<|pv 3)) trivial ?_;show R.val (.tup<|(ws.map D.int).set q.2.1.toNat (.int<|nwQ p q ws))=R.val (aT<|onQ p q ws);unfold aT onQ;rw[pP]
abbrev nl23:List Str:=["_law_size_here","_law_stock_here","_law_row","_law_filling","_law_number"]
theorem aFe(F:Fun K "_law_gone" "_law_gone" aKJ f fd)(hm:mg "_law_gone"=some (.ref f))(GS:bV P w K mg base "_law_stepped" 4 3 aCc):bV P w K mg base "_law_gone" 5 4 aDB:=by
 have nd:nl23.Nodup:=by decide+kernel
 refine dL (N:=nl23) (ps:=["_law_size_here","_law_stock_here","_law_row","_law_filling"]) (k:=4) F hm λcdv A outer s H E hr ds r hl c=> ?_
 obtain⟨p,L,row,ws,hp,S,hrow,G,h100,rfl,rfl⟩:=c;refine aN<|nI (ds:=lX row) (λt=>[.val<|cH p,.val (.lst<|L.map skD),.val (.lst<|lX row),.val (aT<|pK p L (row.take t) ws),.un]) (λt=>[.val<|cH p,.val (.lst<|L.map skD),.val (.lst<|lX row),.val (aT<|pK p L (row.take t) ws),.val<|.int ((row.getD t 0:Nat):Int)]) (gR<|pdv 2) ⟨.inr rfl,.inr rfl,.inr rfl,.inr rfl,.inr rfl,trivial⟩ (λt d hd=> ?_) (λt d hd=> ?_) ?_
 ·obtain⟨_,rfl⟩:=aDA hd;exact eA 4<|pgn 4
 ·obtain⟨ht,rfl⟩:=aDA hd;have hn:=hrow (row.getD t 0)<|DL.getD_mem ht;have G1:=xW S (row.take t) ws (λu hu=>hrow u<|List.take_subset _ _ hu) G;refine bG<|mU (d:=aT<|pK p L (row.take<|t+1) ws) 3 (bY (ds:=[sqD (L.getD (row.getD t 0) default).1,.int p.1,aT<|pK p L (row.take t) ws]) GS hr rfl (aD (fW (n:=0) (ds:=[sqD (L.getD (row.getD t 0) default).1,.int (L.getD (row.getD t 0) default).2]) (fY (PEd.bor<|pdv 1) (pdv 4) (aMc hn) λ_ _=>rfl) bD rfl λ_ _=>rfl) (aD (fW (n:=0) (pdv 0) bD rfl λ_ _=>rfl)<|aD (pdv 3) aS)) ⟨p,_,_,(S.st _<|DL.getD_mem hn).1,G1,rfl,by rw[aGy ht,aEK]⟩ trivial rfl) ?_;exact⟨.inr rfl,.inr rfl,.inr rfl,.inr rfl,.inl rfl,trivial⟩
 ·refine bG<|cJ (pdv 3) trivial ?_;show R.val (aT<|pK p L (row.take (lX row).length) ws)=_;rw[show(lX row).length=row.length from aA _,fS]
abbrev nl24:List Str:=["_law_script","_law_start","_law_most","_law_cell"]
theorem aGp(F:Fun K "_law_cells" "_law_cells" aHt f fd)(hm:mg "_law_cells"=some (.ref f))(GX:bV P w K mg base "_law_stream" 1 2 vJ):bV P w K mg base "_law_cells" 2 4 aHl:=by
 have nd:nl24.Nodup:=by decide+kernel
 refine dL (N:=nl24) (ps:=nl24) (k:=1) F hm λcdv A outer s H E hr ds r hl c=> ?_
 obtain⟨ns,st,m,c,hm2,hst,hns,rfl,rfl⟩:=c;refine aN<|kI (oV (bZ eH (pdv 3) bD<|by decide) bD) (λh=> ?_) λh=>dS ?_
 ·have h':c%8=5:=by simpa using h
  refine bG<|cJ (bY (ds:=[.int<|c / 8,.int (m:Int)]) GX hr rfl (aD (bZ fH (pdv 3) bD ⟨by decide,by decide⟩)<|aD (pdv 2) aS) ⟨_,m,rfl,hm2,rfl⟩ trivial rfl) trivial ?_;unfold jC;rw[if_pos h']
 ·have h':¬ c%8=5:=by simpa using h
  refine bG<|cJ (aMd (ol:=some (st:Int)) (oh:=some ((st+m:Nat):Int)) (pdv 0) (pdv 1) (PEd.ic (jN jD (pdv 1)<|pdv 2)<|by omega)) trivial ?_;unfold jC;rw[if_neg h'];unfold DL.cutD;rw[HT.sIx_nat,HT.sIx_nat,aA,oF,tH];congr 1
  by_cases q:st<=ns.length
  ·rw[zN q];rw[List.take_eq_take_iff];simp;omega
  ·rw[yS<|by omega,kE (by rw[aA];omega),kE<|by rw[aA];omega];simp
abbrev nl25:List Str:=["_law_script","_law_size_here","_law_table","_law_some","_law_examples","_law_cell","_law_at","_law_wanted","_law_box"]
theorem aCO(F:Fun K "_law_wants" "_law_wants" aHr f fd)(zlen:mg "len"=none)(zrange:mg "range"=none)(zint:mg "int"=none)(ztuple:mg "tuple"=none)(hm:mg "_law_wants"=some (.ref f))(GC:bV P w K mg base "_law_cell_at" 1 2 aIF)(GS:bV P w K mg base "_law_cells" 2 4 aHl):bV P w K mg base "_law_wants" 3 4 aBZ:=by
 have nd:nl25.Nodup:=by decide+kernel
 refine dL (N:=nl25) (ps:=["_law_script","_law_size_here","_law_table","_law_some"]) (k:=2) F hm λcdv A outer s H E hr ds r hl c=> ?_
 obtain⟨p,T,ns,hp,hT,n63,rfl,rfl⟩:=c;have hr1:=hr.mono (show 1<=2 by decide);obtain⟨s1,s2,s3,s4,s5⟩:=sC p hp;have f9:(bC p).length<=64:=iR hp;have fpos:=aBA hp;have c40:=yH ns 6 40<|ns.getD 5 0;have e2:((p.2.toNat:Nat):Int)=p.2:=by omega
 have g6:∀b,b<6->([.int 1,.int 3,.int 9,.int 27,.int 81,.int 243]:List D)[b]? =some (.int<|p3 b)/\0<p3 b/\(p3 b).natAbs.log2<9000:=λb hb=>by
  have:b=0\/b=1\/b=2\/b=3\/b=4\/b=5:=by omega
  rcases this with rfl|rfl|rfl|rfl|rfl|rfl<;>exact⟨rfl,by decide,by decide⟩
 refine aN<|qZ (ds:=(([]:List Int).map<|uB p T).map exD) 4 (gL (ds:=[]) aS<|aP rfl) λl4=> ?_;refine aN<|iB (ds:=(jC ns 6 40<|ns.getD 5 0).map D.int) (λt sd=>sd=[.val<|.scr ns,.val<|cH p,.val (.tup<|T.map aT),.val (.lst<|(bC p).map aT),.own l4<|(((jC ns 6 40<|ns.getD 5 0).take t).map<|uB p T).map exD,.un,.un,.un,.un]) (gR (PEd.val<|bY (ds:=[.scr ns,.int ((6:Nat):Int),.int ((40:Nat):Int),.int<|ns.getD 5 0]) GS hr rfl (aD (pdv 0)<|aD bD (aD bD<|aD (bY (ds:=[.scr ns,.int ((5:Nat):Int)]) GC hr1 rfl (aD (pdv 0)<|aD bD aS) ⟨ns,5,rfl,by decide,rfl⟩ trivial rfl) aS)) ⟨ns,6,40,_,by decide,by decide,n63,rfl,rfl⟩ trivial rfl)) ⟨_,Le.refl _,rfl⟩ (λt d sdt hd ht=> ?_) λsdn hn=> ?_
 ·subst ht;obtain⟨c,hc,rfl,_⟩:=uD hd;have etk:(jC ns 6 40<|ns.getD 5 0).take (t+1)=(jC ns 6 40<|ns.getD 5 0).take t++[c]:=by rw[dO,hc];rfl
  rw[etk];have el:((((jC ns 6 40<|ns.getD 5 0).take t).map<|uB p T).map exD).length<=1000:=by rw[aA,aA,cW];omega
  rw[aI,aI];generalize (((jC ns 6 40<|ns.getD 5 0).take t).map<|uB p T).map exD=Es at el;obtain⟨a1,a2⟩:=jJ hp c;have ee:exD (uB p T c)=.tup [aT<|(bC p).getD (iA p c) [],wnD<|kC (T.getD (iA p c) []) c p.2.toNat]:=rfl;refine⟨[.val<|.scr ns,.val<|cH p,.val (.tup<|T.map aT),.val (.lst<|(bC p).map aT),.own l4 Es,.val<|.int c,.un,.un,.un],eA 5<|pgn 5, ?_⟩;refine aN<|mU (d:=.int ((iA p c:Nat):Int)) 6 (PEd.ic (bZ eH (pdv 5) (PEd.ic (iT rfl zlen (PEd.bor<|pdv 3))<|by rw[aA])<|by omega) a2.symm) ?_;have F2:=hJ hp<|aBq hp hT a1;have tT:(T.map aT)[iA p c]? =some (aT<|T.getD (iA p c) []):=oK (by rw[hT.1];exact a1);have tA:((bC p).map aT)[iA p c]? =some (aT<|(bC p).getD (iA p c) []):=oK a1;show PSd _ _ _ _;generalize hw0:T.getD (iA p c) []=w0 at F2 tT ee;generalize (bC p).getD (iA p c) []=f0 at tA ee;generalize iA p c=a at tT tA;refine aN<|qZ (ds:=(kC w0 c 0).map oiD) 7 (gL (ds:=[]) aS<|aP rfl) λl7=> ?_;refine aN<|iB (ds:=gB 0 p.2.toNat) (λu sd=>sd=[.val<|.scr ns,.val<|cH p,.val (.tup<|T.map aT),.val (.lst<|(bC p).map aT),.own l4 Es,.val<|.int c,.val<|.int (a:Int),.own l7<|(kC w0 c u).map oiD,.un]) (gE (n:=p.2.toNat) rfl zrange (PEd.ic (fW (n:=1) (d:=.int p.2) (pdv 1) bD rfl λ_ _=>rfl) e2.symm)<|by omega) ⟨_,Le.refl _,rfl⟩ (λu d sdu hd hu=> ?_) λsdn hn=> ?_
  ·subst hu;obtain⟨hu,rfl⟩:=eI hd;rw[gZ,aCx,aI];have wl:((kC w0 c u).map oiD).length<=1000:=by unfold kC;rw[aA,aA,dP];omega
   generalize (kC w0 c u).map oiD=Ws at wl;obtain⟨q1,q2,q3⟩:=g6 u<|by omega
   have tw:(w0.map D.int)[u]? =some (.int<|w0.getD u 0):=by
    have:u<w0.length:=by rw[F2.len];exact hu
    simp[bF,this]
   have ix:([.non,.int<|w0.getD u 0]:List D)[((if decide (0<c / 64 / p3 u%3)=true then 1 else 0:Int)).toNat]? =some (oiD<|aIA w0 c u):=by
    unfold aIA
    by_cases h:0<c / 64 / p3 u%3
    ·rw[if_pos<|decide_eq_true h,if_pos h];rfl
    ·rw[if_neg (by simpa using h),if_neg h];rfl
   refine⟨[.val<|.scr ns,.val<|cH p,.val (.tup<|T.map aT),.val (.lst<|(bC p).map aT),.own l4 Es,.val<|.int c,.val<|.int (a:Int),.own l7 Ws,.val<|.int (u:Int)],eA 8<|pgn 8, ?_⟩;exact bG<|kM (d:=oiD<|aIA w0 c u) 7 rfl (pv 7) (nD (i:=(if decide (0<c / 64 / p3 u%3)=true then 1 else 0:Int)) (ds:=[.non,.int<|w0.getD u 0]) (PEd.bor<|PEd.val (gL (ds:=[.non,.int<|w0.getD u 0]) (aD eB<|aD (fW (n:=u) (ds:=w0.map D.int) (fW (n:=a) (ds:=T.map aT) (d:=aT w0) (pdv 2) (pdv 6) tT λ_ _=>rfl) (pdv 8) tw λ_ _=>rfl) aS)<|aP rfl)) (aDY rfl zint (aNR aOf (bZ eH (bZ fH (bZ fH (pdv 5) bD ⟨by decide,by decide⟩) (fY (n:=u) (ds:=[.int 1,.int 3,.int 9,.int 27,.int 81,.int 243]) (PEd.bor<|PEd.val (gL (ds:=[.int 1,.int 3,.int 9,.int 27,.int 81,.int 243]) (aD bD<|aD bD (aD bD<|aD bD (aD bD<|aD bD aS)))<|aP rfl)) (pdv 8) q1 λ_ _=>rfl) ⟨by omega,q3⟩) bD<|by decide) bD<|kO _)) (by split<;>decide) ix λ_ _=>rfl) wl ⟨[.val<|.scr ns,.val<|cH p,.val (.tup<|T.map aT),.val (.lst<|(bC p).map aT),.own l4 Es,.val<|.int c,.val<|.int (a:Int),.own l7 (Ws++[oiD<|aIA w0 c u]),.un],⟨.inr rfl,.inr rfl,.inr rfl,.inr rfl,.inr rfl,.inr rfl,.inr rfl,.inr rfl,.inl rfl,trivial⟩,rfl⟩
  ·subst hn;rw[fA];refine bG<|kM (d:=exD<|uB p T c) 4 rfl (pv 4) (PEd.cast (jK (ds:=[aT f0,wnD<|kC w0 c p.2.toNat]) (aD (fY (n:=a) (ds:=(bC p).map aT) (d:=aT f0) (PEd.bor<|pdv 3) (pdv 6) tA λ_ _=>rfl)<|aD (mD rfl ztuple (nG 7 rfl<|pv 7)) aS)<|aP rfl)<|by rw[ee]) el ⟨[.val<|.scr ns,.val<|cH p,.val (.tup<|T.map aT),.val (.lst<|(bC p).map aT),.own l4 (Es++[exD<|uB p T c]),.un,.un,.un,.un],⟨.inr rfl,.inr rfl,.inr rfl,.inr rfl,.inr rfl,.inl rfl,.inl rfl,.inl rfl,.inl rfl,trivial⟩,rfl⟩
 ·subst hn;rw[aA,fS];exact bG<|mG 4 rfl (pv 4) rfl
abbrev nl26:List Str:=["_law_examples","_law_some","_law_table","_law_filling","_law_wanted","_law_word_here","_law_there"]
theorem aET(F:Fun K "_law_kept" "_law_kept" aIC f fd)(zzip:mg "zip"=none)(hm:mg "_law_kept"=some (.ref f)):bV P w K mg base "_law_kept" 1 3 aEq:=by
 have nd:nl26.Nodup:=by decide+kernel
 refine dL (N:=nl26) (ps:=["_law_examples","_law_some","_law_table"]) (k:=0) F hm λcdv A outer s H E hr ds r hl c=> ?_
 obtain⟨p,Es,T,hp,O,hT,rfl,rfl⟩:=c;have hu:(A.deeper<|Aj "_law_kept" (bJ aIC) s.heap.objs.size f cdv).units+2<AR:=by have:=hr.un;omega
 refine aN<|iB (ds:=Es.map exD) (λt sd=>(Es.take t).all (aDg p T)=true/\sd=[.val (.lst<|Es.map exD),.val (.lst<|(bC p).map aT),.val (.tup<|T.map aT),.un,.un,.un,.un]) (gR<|pdv 0) ⟨_,Le.refl _,rfl,rfl⟩ (λt d sdt hd ht=> ?_) λsdn hn=> ?_
 ·obtain⟨hq,rfl⟩:=ht;obtain⟨x,hx,rfl,_⟩:=uD hd;have xm:=cU hx;have hf:=O.fil x xm;have jl:=bO hf;have ja:(bC p)[(bC p).idxOf x.1]? =some x.1:=by rw[dH jl,gK jl]
  have jn:∀m,m<(bC p).idxOf x.1->∀z,(bC p)[m]? =some z->z≠x.1:=λm hm z hz e=>by
   have ml:m<(bC p).length:=by omega
   rw[dH ml] at hz;have e1:(bC p)[m]=x.1:=(bT.inj hz).trans e;have:=aKT (oQ hp) ml jl (by simp only[bF,dH ml,dH jl,aHc];rw[e1,gK jl]);omega
  have F2:=hJ hp<|aBq hp hT jl;have tT:(T.map aT)[(bC p).idxOf x.1]? =some (aT<|T.getD ((bC p).idxOf x.1) []):=oK (by rw[hT.1];exact jl);have etk:Es.take (t+1)=Es.take t++[x]:=by rw[dO,hx];rfl
  have xl:=O.len x xm;have fin:aDg p T x=(bK p.2.toNat).all λb=>kp1 (x.2.getD b none) ((T.getD ((bC p).idxOf x.1) []).getD b 0):=rfl
  have bad:aDg p T x=false->oY p Es T=false:=λh=>oD.mpr λz=>by rw[bN.mp z x xm] at h;cases h
  clear hd;obtain⟨f0,w0⟩:=x;refine⟨[.val (.lst<|Es.map exD),.val (.lst<|(bC p).map aT),.val (.tup<|T.map aT),.val<|aT f0,.val<|wnD w0,.un,.un],kS (ds:=[aT f0,wnD w0]) (js:=[3,4]) rfl (fD (pgn 3)<|fD (pgn 4) kU) rfl rfl, ?_⟩;have xl:w0.length=p.2.toNat:=xl;generalize hv:T.getD ((bC p).idxOf f0) []=v0 at F2 tT fin;have vl:=F2.len;refine bG<|iB (ds:=mS (w0.map oiD)<|v0.map D.int) (λu sd=>(∀b,b<u->kp1 (w0.getD b none) (v0.getD b 0)=true)/\sd=[.val (.lst<|Es.map exD),.val (.lst<|(bC p).map aT),.val (.tup<|T.map aT),.val<|aT f0,.val<|wnD w0,.un,.un]) (tD true true rfl zzip (pdv 4)<|fW (n:=(bC p).idxOf f0) (ds:=T.map aT) (d:=aT v0) (pdv 2) (aFp hu (pdv 1) (pdv 3) ja jn) tT λ_ _=>rfl) ⟨_,Le.refl _,λb hb=>by omega,rfl⟩ (λu d sdu hd hu2=> ?_) λsdn hn=> ?_
  ·obtain⟨hk,rfl⟩:=hu2;obtain⟨y,z,hy,hz,rfl⟩:=nY hd;obtain⟨o,ho,rfl,_⟩:=uD hy;obtain⟨i,hi,rfl,_⟩:=uD hz;obtain⟨ul,eo⟩:=aZ.mp ho;have e1:w0.getD u none=o:=by simp[bF,ho]
   have e2:v0.getD u 0=i:=by simp[bF,hi]
   refine⟨[.val (.lst<|Es.map exD),.val (.lst<|(bC p).map aT),.val (.tup<|T.map aT),.val<|aT f0,.val<|wnD w0,.val<|oiD o,.val<|.int i],kS (ds:=[oiD o,.int i]) (js:=[5,6]) rfl (fD (pgn 5)<|fD (pgn 6) kU) rfl rfl, ?_⟩;refine bG<|kI (k:= !kp1 o i) ?_ (λh=> ?_) λh=>dS ?_
   ·cases o with
    |none=>exact PWd.pt<|kZ (k:=false) (j:=false) (nW (d:=.non) (pdv 5) eB) λh=>by cases h
    |some q=>exact PWd.pt (kZ (k:=true) (j:= !decide (q=i)) (nW (d:=.int q) (pdv 5) eB) λ_=>pT (aJj (pdv 5)<|pdv 6))
   ·have h:kp1 o i=false:=by simpa using h
    rw [bad (by
     rw[fin];refine oD.mpr λz=> ?_
     have:=bN.mp z u (bB.mpr<|by rw[<-xl];exact ul);have this:kp1 (w0.getD u none) (v0.getD u 0)=true:=this;rw[e1,e2,h] at this
     cases this)]
    exact bG<|cJ aFI trivial rfl
   ·have h:kp1 o i=true:=by simpa using h
    refine⟨[.val (.lst<|Es.map exD),.val (.lst<|(bC p).map aT),.val (.tup<|T.map aT),.val<|aT f0,.val<|wnD w0,.un,.un],⟨.inr rfl,.inr rfl,.inr rfl,.inr rfl,.inr rfl,.inl rfl,.inl rfl,trivial⟩,λb hb=> ?_,rfl⟩
    by_cases q:b<u
    ·exact hk b q
    ·have:b=u:=by omega
     rw[this,e1,e2];exact h
  ·obtain⟨hk,rfl⟩:=hn;rw[mH,aA,aA,xl,vl,nA] at hk;refine⟨[.val (.lst<|Es.map exD),.val (.lst<|(bC p).map aT),.val (.tup<|T.map aT),.un,.un,.un,.un],⟨.inr rfl,.inr rfl,.inr rfl,.inl rfl,.inl rfl,.inl rfl,.inl rfl,trivial⟩, ?_,rfl⟩;rw[etk,List.all_append,hq]
   have:aDg p T (f0,w0)=true:=by rw[fin];exact bN.mpr λb hb=>hk b<|bB.mp hb
   simp[this]
 ·obtain⟨hq,rfl⟩:=hn;rw[aA,fS] at hq;refine bG<|cJ aFI trivial ?_;show R.val (.bl true)=R.val (.bl<|oY p Es T);rw[show oY p Es T=true from hq]
abbrev nl27:List Str:=["_law_table","_law_cells_here","_law_some","_law_found","_law_cell"]
theorem aEL(F:Fun K "_law_bent" "_law_bent" aLm f fd)(zlen:mg "len"=none)(zlist:mg "list"=none)(ztuple:mg "tuple"=none)(hm:mg "_law_bent"=some (.ref f)):bV P w K mg base "_law_bent" 1 3 aDR:=by
 have nd:nl27.Nodup:=by decide+kernel
 refine dL (N:=nl27) (ps:=["_law_table","_law_cells_here","_law_some"]) (k:=0) F hm λcdv A outer s H E hr ds r hl c=> ?_
 obtain⟨p,T,cs,hp,hT,rfl,rfl⟩:=c;have fpos:=aBA hp;refine aN<|qZ (ds:=(([]:List Int).foldl (vV p) T).map aT) 3 (aBY rfl zlist<|pdv 0) λl3=> ?_;refine aN<|iB (ds:=cs.map D.int) (λt sd=>sd=[.val (.tup<|T.map aT),.val (.lst<|cs.map D.int),.val (.lst<|(bC p).map aT),.own l3<|((cs.take t).foldl (vV p) T).map aT,.un]) (gR<|pdv 1) ⟨_,Le.refl _,rfl⟩ (λt d sdt hd ht=> ?_) λsdn hn=> ?_
 ·subst ht;obtain⟨c,hc,rfl,_⟩:=uD hd;have etk:cs.take (t+1)=cs.take t++[c]:=by rw[dO,hc];rfl
  rw[etk,uO];have OT:=aAH hp (cs.take t) hT;generalize (cs.take t).foldl (vV p) T=U at OT;obtain⟨a1,a2⟩:=jJ hp c;obtain⟨b1,b2⟩:=jJ hp<|c / 64;refine⟨[.val (.tup<|T.map aT),.val (.lst<|cs.map D.int),.val (.lst<|(bC p).map aT),.own l3<|U.map aT,.val<|.int c],eA 4<|pgn 4, ?_⟩;refine bG<|uC (ds:=U.map aT) (d:=aT<|(bC p).getD (iA p<|c / 64) []) (n:=iA p c) 3 rfl (pv 3) (fY (n:=iA p<|c / 64) (ds:=(bC p).map aT) (PEd.bor<|pdv 2) (PEd.ic (bZ eH (bZ fH (pdv 4) bD ⟨by decide,by decide⟩) (PEd.ic (iT rfl zlen (PEd.bor<|pdv 2))<|by rw[aA])<|by omega) b2.symm) (oK b1) λ_ _=>rfl) (PEd.ic (bZ eH (pdv 4) (PEd.ic (iT rfl zlen (PEd.bor<|pdv 2))<|by rw[aA])<|by omega) a2.symm) (by rw[aA,OT.1];exact a1) ⟨[.val (.tup<|T.map aT),.val (.lst<|cs.map D.int),.val (.lst<|(bC p).map aT),.own l3<|(vV p U c).map aT,.un],⟨.inr rfl,.inr rfl,.inr rfl,.inr ?_,.inl rfl,trivial⟩,rfl⟩;unfold vV;rw[pP]
 ·subst hn;rw[aA,fS];exact bG<|cJ (mD rfl ztuple (nG 3 rfl<|pv 3)) trivial rfl
abbrev nl28:List Str:=["_law_size_here","_law_examples"]
theorem aEZ{CN:BJ}(F:Fun K "_law_told" "_law_told" aKQ f fd)(xk:aMG K mg CN)(hm:mg "_law_told"=some (.ref f))(GW:bV P w K mg base "wish_of" 4 2 (aMY K)/\hR P w K mg base "wish_of" 4 2 aNg (.ref CN) [] []):bV P w K mg base "_law_told" 5 2 aDy:=by
 have nd:nl28.Nodup:=by decide+kernel
 refine dL (N:=nl28) (ps:=nl28) (k:=4) F hm λcdv A outer s H E hr ds r hl c=> ?_
 obtain⟨p,L,hp,O,h9,rfl,rfl⟩:=c;cases hG:gth L with
 |some G=>exact bG<|aGf (bG<|cJ (PEd.cast (PEd.valO<|bY (ds:=[cH p,.lst<|L.map exD]) GW.1 hr rfl (aD (pdv 0)<|aD (pdv 1) aS) ⟨p,L,G,hp,O,h9,hG,rfl,rfl⟩ trivial rfl)<|by rw[yM];rfl) trivial rfl)
 |none=>
  refine bG<|aGT (cls:=.ref CN) rfl xk.nw.1 xk.nx (λξ pn F0 tk=> ?_) λa pn=> ?_
  ·exact bG<|xK (pU (ds:=[cH p,.lst<|L.map exD]) (dds:=[]) GW.2 (tZ rfl) hr rfl (aD (pdv 0)<|aD (pdv 1) aS) (λ_=>RepL.nil) ⟨p,L,hp,O,h9,hG,rfl⟩ rfl<|Takes.o tk)
  ·exact bG<|cJ eB trivial rfl
noncomputable def aHP:D->D
 |.int i=>oiD<|some i
 |d=>d
noncomputable def aHs(n:Nat):D->D
 |.int i=>.int (((i%(n:Int)).toNat:Nat):Int)
 |d=>d
noncomputable def aHF(p:Int×Int)(L:List SK)(row:List Nat)(d:D):D:=aT (pK p L row<|kK d)
theorem aMp(W:List (Option (List<|List Int))):pl (.lst<|W.map wsD)=true/\dep (.lst<|W.map wsD)<=3:=⟨aMr W,aKt<|zS wsD 2 aMg W⟩
abbrev nl29:List Str:=["_law_script","_law_size_here","_law_some","_law_stock_here","_law_row","_law_table","_law_examples","_law_wish","_law_cut","_law_ahead","_law_further","_law_x","_law_words","_law_more","_law_k","_law_other"]
abbrev nl30:List Str:=["_law_filling","_law_size_here","_law_stock_here","_law_row"]
theorem aMv{CN:BJ}(F:Fun K "law" "law" tF f fd)(zlen:mg "len"=none)(zrange:mg "range"=none)(ztuple:mg "tuple"=none)(GC:bV P w K mg base "_law_cell_at" 1 2 aIF)(GZ:bV P w K mg base "_law_small" 2 1 aHH)(GF:bV P w K mg base "_law_fillings" 2 1 aHA)(GK:bV P w K mg base "_law_stock" 3 3 aEf)(GX:bV P w K mg base "_law_stream" 1 2 vJ)(GG:bV P w K mg base "_law_gone" 5 4 aDB)(GE:bV P w K mg base "_law_wants" 3 4 aBZ)(GW:bV P w K mg base "wish_of" 4 2 (aMY K)/\hR P w K mg base "wish_of" 4 2 aNg (.ref CN) [] [])(GD:bV P w K mg base "does_wish" 4 3 aLb)(GB:bV P w K mg base "both_wishes" 3 3 (aOt K)/\hR P w K mg base "both_wishes" 3 3 aOH (.ref CN) [] [])(GL:bV P w K mg base "is_loose" 4 3 aLc)(GT:bV P w K mg base "_law_told" 5 2 aDy)(GN:bV P w K mg base "_law_bent" 1 3 aDR)(GP:bV P w K mg base "_law_kept" 1 3 aEq):FnOk P w K mg base CX0 6 f fd ["_law_script"] (spC K 1 aMO):=by
 have nd:nl29.Nodup:=by decide+kernel
 have nd2:(["_law_x","_law_stock_here"]:List Str).Nodup:=by decide+kernel
 have nd3:nl30.Nodup:=by decide+kernel
 have nd4:(["_law_word_here"]:List Str).Nodup:=by decide+kernel
 refine aHK (N:=nl29) (ps:=["_law_script"]) (k:=5) F ⟨rfl,rfl,rfl,nd,rfl,by decide+kernel,by decide+kernel⟩ λcdv A outer s H E hr ds r hl c=> ?_
 obtain⟨ns,rfl,n63,rfl⟩:=c;have hr1:=hr.mono (show 1<=5 by decide);have hr2:=hr.mono (show 2<=5 by decide);have hr3:=hr.mono (show 3<=5 by decide);have hr4:=hr.mono (show 4<=5 by decide);have hu:(A.deeper<|Aj "law" (bJ tF) s.heap.objs.size f cdv).units+8<AR:=by have:=hr.un;omega
 have cell:∀ {sd:List Slot}{p1 p2 p3 p4:Pos}{j1:Nat} (k:Nat),k<=1000->sd[0]? =some (.val<|.scr ns)->PEd (oM CX0 P w K mg base nl29 "law" (bJ tF) f cdv A outer s H E).nox sd (.Call (.Name "_law_cell_at" p1) [.Name "_law_script" p2, .Constant (.int (k:Int)) j1 p3] [] p4) (.val (.int<|ns.getD k 0)):=λk hk hs=>bY (ds:=[.scr ns,.int (k:Int)]) GC hr1 rfl (aD (lN 0 hs<|pv 0)<|aD bD aS) ⟨ns,k,rfl,hk,rfl⟩ trivial rfl
 refine aN<|mU (d:=cH<|vZ (tP<|ns.getD 0 0)) 1 (bY (ds:=[.int<|ns.getD 0 0]) GZ hr2 rfl (aD (cell 0 (by decide) rfl) aS) ⟨_,rfl,rfl⟩ trivial rfl) ?_;have hp:=aEP (tP<|ns.getD 0 0);generalize vZ (tP<|ns.getD 0 0)=p at hp;obtain⟨s1,s2,s3,s4,s5⟩:=sC p hp;have f9:(bC p).length<=64:=iR hp;have fpos:=aBA hp;refine aN<|qZ (ds:=(bC p).map aT) 2 (bY (ds:=[cH p]) GF hr2 rfl (aD (pdv 1) aS) ⟨p,hp,rfl,rfl⟩ trivial rfl) λl2=>nJ 2 rfl ?_;have S:=aIP hp (ns.getD 1 0) (m:=8) (by decide) (by decide);refine aN<|qZ (ds:=(aKz p (ns.getD 1 0) 8).map skD) 3 (bY (ds:=[.int<|ns.getD 1 0,cH p,.int ((8:Nat):Int)]) GK hr3 rfl (aD (cell 1 (by decide) rfl) (aD (pdv 1)<|aD bD aS)) ⟨_,p,8,hp,by decide,by decide,rfl,rfl⟩ trivial rfl) λl3=>nJ 3 rfl ?_;generalize aKz p (ns.getD 1 0) 8=L at S;have Lp:=S.pos;obtain⟨w1,w2⟩:=aGi Lp<|ns.getD 2 0;have c21:=bP (ns.getD 2 0) (show(21:Int)≠0 by decide)
 have er:DL.cutD ((((cK (ns.getD 2 0) 20).map D.int).filter λ_=>true).map<|aHs L.length) none (some<|ns.getD 2 0%21)=lX (yJ L.length<|ns.getD 2 0):=by
  have e:ns.getD 2 0%21=(((ns.getD 2 0%21).toNat:Nat):Int):=by omega
  rw[e,tQ,dJ.mpr λ_ _=>rfl,aX];unfold yJ lX;rw[oF,aX];rfl
 refine aN<|qZ (ds:=lX (yJ L.length<|ns.getD 2 0)) 4 (PEd.cast (wF (ol:=none) (oh:=some<|ns.getD 2 0%21) (PEd.bor (PEd.val<|kR (ds:=(cK (ns.getD 2 0) 20).map D.int) (N:=["_law_x","_law_stock_here"]) (M:=nl29) (cap:=[none,some 3]) (sc:=bJ tF) (Tb:=λd=>[.val d,.val (.lst<|L.map skD)]) (λ_=>true) (aHs L.length) (gR (PEd.val<|bY (ds:=[.int<|ns.getD 2 0,.int ((20:Nat):Int)]) GX hr1 rfl (aD (cell 2 (by decide) rfl)<|aD bD aS) ⟨_,20,rfl,by decide,rfl⟩ trivial rfl)) (by rw[aA,mL];decide) rfl (by decide+kernel) rfl (by decide+kernel) rfl (λcl C fp s H d hd=>eA 0<|pgn 0) (λd hd=>⟨.inl rfl,.inr rfl,trivial⟩) (λcl C fp s H d hd=>.inl ⟨rfl,rfl⟩) λcl C2 fp s H d hd _=> ?_)) trivial (bZ eH (cell 2 (by decide) rfl) bD<|by decide))<|by rw[er]) λl4=>nJ 4 rfl ?_
 ·obtain⟨x,_,rfl⟩:=aH.mp hd;have h0:=bP x (show(L.length:Int)≠0 by omega);exact PEd.ic (bZ eH (pdv 0) (PEd.ic (iT rfl zlen (PEd.bor<|pdv 1))<|by rw[aA])<|by omega)<|by omega
 clear er;generalize yJ L.length (ns.getD 2 0)=row at w1 w2;refine wD (sd':=[.val<|.scr ns,.val<|cH p,.val (.lst<|(bC p).map aT),.val (.lst<|L.map skD),.val (.lst<|lX row),.un,.un,.un,.un,.un,.un,.un,.un,.un,.un,.un]) (Le.refl _) ?_
 have et:((((bC p).map aT).filter λ_=>true).map<|aHF p L row)=(aKi p L row).map aT:=by
  rw[dJ.mpr λ_ _=>rfl,aX];show _=((bC p).map λws=>pK p L row ws).map aT;rw[aX];refine cI λws _=> ?_
  show aT (pK p L row (kK<|aT ws))=aT (pK p L row ws);rw[jL]
 have hT:=aMq hp S w1;refine aN<|mU (d:=.tup<|(aKi p L row).map aT) 5 (mD rfl ztuple (PEd.bor<|PEd.val (PEd.cast (kR (ds:=(bC p).map aT) (N:=nl30) (M:=nl29) (cap:=[none,some 1,some 3,some 4]) (sc:=bJ tF) (Tb:=λd=>[.val d,.val<|cH p,.val (.lst<|L.map skD),.val (.lst<|lX row)]) (λ_=>true) (aHF p L row) (gR<|pdv 2) (by rw[aA];omega) rfl (by decide+kernel) rfl (by decide+kernel) rfl (λcl C fp s H d hd=>eA 0<|pgn 0) (λd hd=>⟨.inl rfl,.inr rfl,.inr rfl,.inr rfl,trivial⟩) (λcl C fp s H d hd=>.inl ⟨rfl,rfl⟩) λcl C2 fp s H d hd _=> ?_)<|by rw[et]))) ?_
 ·obtain⟨ws,hw,rfl⟩:=wZ hd;show PEd _ _ _ (.val (aT<|pK p L row (kK<|aT ws)));rw[jL];exact bY (ds:=[cH p,.lst<|L.map skD,.lst<|lX row,aT ws]) GG hr rfl (aD (pdv 1)<|aD (pdv 2) (aD (pdv 3)<|aD (pdv 0) aS)) ⟨p,L,row,ws,hp,S,w1,hJ hp hw,by omega,rfl,rfl⟩ trivial rfl
 clear et;generalize aKi p L row=T at hT;obtain⟨EO,EK⟩:=aIY hp hT (jC ns 6 40<|ns.getD 5 0);have el:((jC ns 6 40<|ns.getD 5 0).map<|uB p T).length<=40:=by rw[aA];exact yH ns 6 40 _
 refine aN<|qZ (ds:=((jC ns 6 40<|ns.getD 5 0).map<|uB p T).map exD) 6 (bY (ds:=[.scr ns,cH p,.tup<|T.map aT,.lst<|(bC p).map aT]) GE hr3 rfl (aD (pdv 0)<|aD (pdv 1) (aD (pdv 5)<|aD (pdv 2) aS)) ⟨p,T,ns,hp,hT,n63,rfl,rfl⟩ trivial rfl) λl6=>nJ 6 rfl ?_;generalize (jC ns 6 40<|ns.getD 5 0).map (uB p T)=Es at EO EK el;refine wD (sd':=[.val<|.scr ns,.val<|cH p,.val (.lst<|(bC p).map aT),.val (.lst<|L.map skD),.val (.lst<|lX row),.val (.tup<|T.map aT),.val (.lst<|Es.map exD),.un,.un,.un,.un,.un,.un,.un,.un,.un]) (Le.refl _) ?_;obtain⟨G,hG⟩:=aDq hp EO hT EK;have WC0:=aBC hp EO hG;have WK:=(WC0.wn<|oQ hp).wish hp;refine aN<|mU (d:=.lst<|(cE p Es).map wsD) 7 (PEd.cast (PEd.valO<|bY (ds:=[cH p,.lst<|Es.map exD]) GW.1 hr4 rfl (aD (pdv 1)<|aD (pdv 6) aS) ⟨p,Es,G,hp,EO,by omega,hG,rfl,rfl⟩ trivial rfl)<|by rw[yM]) ?_;refine aN (fU (k:=false) (PTd.cast (aAW (sY<|bY (ds:=[cH p,.lst<|(cE p Es).map wsD,.tup<|T.map aT]) GD hr4 rfl (aD (pdv 1) (aD (pdv 7)<|aD (pdv 5) aS)) ⟨p,cE p Es,T,hp,WK,hT,rfl,rfl⟩ trivial rfl))<|by rw[aKN hp EO hT,EK];rfl) rfl<|dS ?_);have u0:=bP (ns.getD 3 0) (show((Es.length:Int)+1)≠0 by omega);have ec:(((ns.getD 3 0%((Es.length:Int)+1)).toNat:Nat):Int)=ns.getD 3 0%((Es.length:Int)+1):=by omega
 refine aN<|jW (d:=.int (((ns.getD 3 0%((Es.length:Int)+1)).toNat:Nat):Int)) 8 nd rfl (Or.inl rfl) (PEd.ic (bZ eH (cell 3 (by decide) rfl) (jN jD (PEd.ic (iT rfl zlen (PEd.bor<|pdv 6))<|by rw[aA]) bD)<|by omega) ec.symm) ?_;clear ec u0;generalize (ns.getD 3 0%((Es.length:Int)+1)).toNat=cu;refine wD (sd':=[.val<|.scr ns,.val<|cH p,.val (.lst<|(bC p).map aT),.val (.lst<|L.map skD),.val (.lst<|lX row),.val (.tup<|T.map aT),.val (.lst<|Es.map exD),.val (.lst<|(cE p Es).map wsD),.val<|.int (cu:Int),.un,.un,.un,.un,.un,.un,.un]) (Le.refl _) ?_;have sA:∀x∈Es.take cu,x∈Es:=λx hx=>iY hx
 have sB:∀x∈Es.drop cu,x∈Es:=λx hx=>iX hx
 have AO:=EO.sub sA;have BO:=EO.sub sB;obtain⟨GA,hGA⟩:=aDq hp AO hT<|aHE EK sA;obtain⟨GB',hGB⟩:=aDq hp BO hT<|aHE EK sB;have WA:=aBC hp AO hGA;have WB:=aBC hp BO hGB;have tdE:Es.take cu++Es.drop cu=Es:=gM cu Es;have bwE:=aMn (p:=p) (Es.take cu)<|Es.drop cu;rw[tdE] at bwE;have loE:=aHo (p:=p) (Es.take cu)<|Es.drop cu;rw[tdE] at loE;have al:(Es.take cu).length<=100:=by rw[cW];omega
 have bl:(Es.drop cu).length<=100:=by rw[pB];omega
 have tkE:DL.cutD (Es.map exD) none (some (cu:Int))=(Es.take cu).map exD:=by rw[tQ,oF]
 have dpE:DL.cutD (Es.map exD) (some (cu:Int)) none=(Es.drop cu).map exD:=by rw[aEC,tH]
 refine aN<|mU (d:=.lst<|(cE p<|Es.take cu).map wsD) 9 (PEd.cast (PEd.valO<|bY (ds:=[cH p,.lst<|(Es.take cu).map exD]) GW.1 hr4 rfl (aD (pdv 1)<|aD (PEd.val (PEd.cast (wF (ol:=none) (oh:=some (cu:Int)) (PEd.bor<|pdv 6) trivial<|pdv 8)<|by rw[tkE])) aS) ⟨p,Es.take cu,GA,hp,AO,al,hGA,rfl,rfl⟩ trivial rfl)<|by rw[yM]) ?_;refine wD (sd':=[.val<|.scr ns,.val<|cH p,.val (.lst<|(bC p).map aT),.val (.lst<|L.map skD),.val (.lst<|lX row),.val (.tup<|T.map aT),.val (.lst<|Es.map exD),.val (.lst<|(cE p Es).map wsD),.val<|.int (cu:Int),.val (.lst<|(cE p<|Es.take cu).map wsD),.un,.un,.un,.un,.un,.un]) (Le.refl _) ?_;obtain⟨pw,dw⟩:=aMp<|cE p Es;refine aN (fU (k:=false) (PWd.pt<|vW (k:=false) (j:=false) (PTd.cast (aJU (ra:=.val (.lst<|(cE p Es).map wsD)) (rb:=.val (.lst<|(cE p Es).map wsD)) (PEd.cast (PEd.valO<|bY (ds:=[cH p,.lst<|(cE p<|Es.take cu).map wsD,.lst<|(cE p<|Es.drop cu).map wsD]) GB.1 hr3 rfl (aD (pdv 1) (aD (pdv 9)<|aD (PEd.cast (PEd.valO<|bY (ds:=[cH p,.lst<|(Es.drop cu).map exD]) GW.1 hr4 rfl (aD (pdv 1)<|aD (PEd.val (PEd.cast (wF (ol:=some (cu:Int)) (oh:=none) (PEd.bor<|pdv 6) (pdv 8) trivial)<|by rw[dpE])) aS) ⟨p,Es.drop cu,GB',hp,BO,bl,hGB,rfl,rfl⟩ trivial rfl)<|by rw[yM]) aS)) ⟨p,_,_,hp,WA,WB,by rw[bwE];exact aHG hp EO hG,rfl,rfl⟩ trivial rfl)<|by rw[yM,bwE]) (pdv 7) trivial trivial (.inr ⟨rfl,rfl⟩) pw pw<|by show(A.deeper<|Aj "law" (bJ tF) s.heap.objs.size f cdv).units+dep (.lst<|(cE p Es).map wsD)+1<AR;omega)<|by show(!deq (.lst<|(cE p Es).map wsD) (.lst<|(cE p Es).map wsD))=false;rw[aCn _ pw];rfl) λ_=>vG (PTd.cast (aAW (sY<|bY (ds:=[cH p,.lst<|(cE p<|Es.take cu).map wsD,.lst<|(cE p Es).map wsD]) GL hr4 rfl (aD (pdv 1) (aD (pdv 9)<|aD (pdv 7) aS)) ⟨p,_,_,hp,WA.wn<|oQ hp,WC0.wn<|oQ hp,rfl,rfl⟩ trivial rfl))<|by rw[loE];rfl)) rfl<|dS ?_);have xl:(cK (ns.getD 4 0) 4).length=4:=mL _ _;refine aN<|qZ (ds:=(([]:List Int).map<|zM p).map exD) 10 (gL (ds:=[]) aS<|aP rfl) λl10=> ?_;refine aN<|iB (ds:=(cK (ns.getD 4 0) 4).map D.int) (λt sd=>sd=[.val<|.scr ns,.val<|cH p,.val (.lst<|(bC p).map aT),.val (.lst<|L.map skD),.val (.lst<|lX row),.val (.tup<|T.map aT),.val (.lst<|Es.map exD),.val (.lst<|(cE p Es).map wsD),.val<|.int (cu:Int),.val (.lst<|(cE p<|Es.take cu).map wsD),.own l10<|(((cK (ns.getD 4 0) 4).take t).map<|zM p).map exD,.un,.un,.un,.un,.un]) (gR (PEd.val<|bY (ds:=[.int<|ns.getD 4 0,.int ((4:Nat):Int)]) GX hr1 rfl (aD (cell 4 (by decide) rfl)<|aD bD aS) ⟨_,4,rfl,by decide,rfl⟩ trivial rfl)) ⟨_,Le.refl _,rfl⟩ (λt d sdt hd ht=> ?_) λsdn hn=> ?_
 ·subst ht;obtain⟨x,hx,rfl,_⟩:=uD hd;have etk:(cK (ns.getD 4 0) 4).take (t+1)=(cK (ns.getD 4 0) 4).take t++[x]:=by rw[dO,hx];rfl
  rw[etk];have fl:((((cK (ns.getD 4 0) 4).take t).map<|zM p).map exD).length<=1000:=by rw[aA,aA,cW];omega
  rw[aI,aI];generalize (((cK (ns.getD 4 0) 4).take t).map<|zM p).map exD=Fs at fl;obtain⟨a1,a2⟩:=jJ hp x;obtain⟨b1,b2⟩:=jJ hp<|x / 64;have F2:Fil p ((bC p).getD (iA p<|x / 64) []):=hJ hp<|getD_mem (d:=([]:List Int)) b1;have h20:(0:Int)<p.2:=by omega
  have k0:=bP (x / 4096)<|kQ h20;have k1:=bM (x / 4096) h20;have ee:exD (zM p x)=.tup [aT<|(bC p).getD (iA p x) [],wnD<|(((bC p).getD (iA p<|x / 64) []).map some).set (x / 4096%p.2).toNat none]:=rfl;have tA:((bC p).map aT)[iA p x]? =some (aT<|(bC p).getD (iA p x) []):=oK a1;have tB:((bC p).map aT)[iA p<|x / 64]? =some (aT<|(bC p).getD (iA p<|x / 64) []):=oK b1;refine⟨[.val<|.scr ns,.val<|cH p,.val (.lst<|(bC p).map aT),.val (.lst<|L.map skD),.val (.lst<|lX row),.val (.tup<|T.map aT),.val (.lst<|Es.map exD),.val (.lst<|(cE p Es).map wsD),.val<|.int (cu:Int),.val (.lst<|(cE p<|Es.take cu).map wsD),.own l10 Fs,.val<|.int x,.un,.un,.un,.un],eA 11<|pgn 11, ?_⟩;generalize (bC p).getD (iA p<|x / 64) []=w0 at F2 ee tB;have wl:=F2.len
  have ew:((w0.map D.int).filter λ_=>true).map aHP=(w0.map some).map oiD:=by rw[dJ.mpr λ_ _=>rfl,aX,aX];rfl
  refine aN<|aFr (ds:=w0.map D.int) 12 (λ_=>true) aHP nd rfl rfl (by rfl) (aDV<|fY (n:=iA p<|x / 64) (ds:=(bC p).map aT) (d:=aT w0) (PEd.bor<|pdv 2) (PEd.ic (bZ eH (bZ fH (pdv 11) bD ⟨by decide,by decide⟩) (PEd.ic (iT rfl zlen (PEd.bor<|pdv 2))<|by rw[aA])<|by omega) b2.symm) tB λ_ _=>rfl) (by rw[aA,wl];omega) (N:=["_law_word_here"]) (M:=nl29) (cap:=[none]) (sc:=bJ tF) (Tb:=λd=>[.val d]) rfl (by decide+kernel) rfl (by decide+kernel) rfl (λcl C fp s H d _=>eA 0<|pgn 0) (λd _=>⟨.inl rfl,trivial⟩) (λcl C fp s H d hd=>.inl ⟨rfl,rfl⟩) (λcl C fp s H d hd _=> ?_) λl12=> ?_
  ·obtain⟨i,_,rfl⟩:=aH.mp hd;exact(pdv 0)
  rw[ew];refine aN<|uC (ds:=(w0.map some).map oiD) (d:=.non) (n:=(x / 4096%p.2).toNat) 12 rfl (pv 12) eB (PEd.ic (bZ eH (bZ fH (pdv 11) bD ⟨by decide,by decide⟩) (fW (n:=1) (d:=.int p.2) (pdv 1) bD rfl λ_ _=>rfl) h20)<|by omega) (by rw[aA,aA,wl];omega) ?_;have es:((w0.map some).map oiD).set (x / 4096%p.2).toNat .non=((w0.map some).set (x / 4096%p.2).toNat none).map oiD:=by rw[pP];rfl
  rw[es];refine bG<|kM (d:=exD<|zM p x) 10 rfl (pv 10) (PEd.cast (jK (ds:=[aT<|(bC p).getD (iA p x) [],wnD<|(w0.map some).set (x / 4096%p.2).toNat none]) (aD (fY (n:=iA p x) (ds:=(bC p).map aT) (PEd.bor<|pdv 2) (PEd.ic (bZ eH (pdv 11) (PEd.ic (iT rfl zlen (PEd.bor<|pdv 2))<|by rw[aA])<|by omega) a2.symm) tA λ_ _=>rfl)<|aD (mD rfl ztuple (nG 12 rfl<|pv 12)) aS)<|aP rfl)<|by rw[ee]) fl ⟨[.val<|.scr ns,.val<|cH p,.val (.lst<|(bC p).map aT),.val (.lst<|L.map skD),.val (.lst<|lX row),.val (.tup<|T.map aT),.val (.lst<|Es.map exD),.val (.lst<|(cE p Es).map wsD),.val<|.int (cu:Int),.val (.lst<|(cE p<|Es.take cu).map wsD),.own l10 (Fs++[exD<|zM p x]),.un,.un,.un,.un,.un],⟨.inr rfl,.inr rfl,.inr rfl,.inr rfl,.inr rfl,.inr rfl,.inr rfl,.inr rfl,.inr rfl,.inr rfl,.inr rfl,.inl rfl,.inl rfl,.inl rfl,.inl rfl,.inl rfl,trivial⟩,rfl⟩
 ·subst hn;rw[aA,fS];have FO:=aIS hp<|cK (ns.getD 4 0) 4;have fl4:((cK (ns.getD 4 0) 4).map<|zM p).length=4:=by rw[aA];exact xl
  generalize (cK (ns.getD 4 0) 4).map (zM p)=Fs at FO fl4;refine nJ 10 rfl ?_;have m0:=bP (ns.getD 4 0) (show(5:Int)≠0 by decide);have em:ns.getD 4 0%5=(((ns.getD 4 0%5).toNat:Nat):Int):=by omega
  have tkF:DL.cutD (Fs.map exD) none (some<|ns.getD 4 0%5)=(Fs.take (ns.getD 4 0%5).toNat).map exD:=by rw[em,tQ,oF];rfl
  have MO:=EO.app<|FO.sub (E1:=Fs.take (ns.getD 4 0%5).toNat) λx hx=>iY hx;have ml:(Fs.take (ns.getD 4 0%5).toNat).length<=4:=by rw[cW];omega
  generalize Fs.take (ns.getD 4 0%5).toNat=Ms at MO ml tkF;have loM:=aHo (p:=p) Es Ms;refine aN<|mU (d:=if(gth<|Es++Ms).isSome=true then .lst ((cE p<|Es++Ms).map wsD) else .non) 13 (bY (ds:=[cH p,.lst<|(Es++Ms).map exD]) GT hr rfl (aD (pdv 1)<|aD (PEd.val (PEd.cast (aEh (d1:=Es.map exD) (d2:=Ms.map exD) (PEd.bor<|pdv 6) (PEd.bor<|PEd.val (PEd.cast (wF (ol:=none) (oh:=some<|ns.getD 4 0%5) (PEd.bor<|pdv 10) trivial (bZ eH (cell 4 (by decide) rfl) bD<|by decide))<|by rw[tkF]))<|by rw[aA,aA];omega)<|by rw[aI])) aS) ⟨p,Es++Ms,hp,MO,by rw[bR];omega,rfl,rfl⟩ trivial rfl) ?_;generalize hg:gth (Es++Ms)=g;refine wD (sd':=[.val<|.scr ns,.val<|cH p,.val (.lst<|(bC p).map aT),.val (.lst<|L.map skD),.val (.lst<|lX row),.val (.tup<|T.map aT),.val (.lst<|Es.map exD),.val (.lst<|(cE p Es).map wsD),.val<|.int (cu:Int),.val (.lst<|(cE p<|Es.take cu).map wsD),.val (.lst<|Fs.map exD),.un,.un,.val (if g.isSome=true then .lst ((cE p<|Es++Ms).map wsD) else .non),.un,.un]) (Le.refl _) ?_;refine aN (fU (k:=false) ?_ rfl<|dS ?_)
  ·cases g with
   |none=>exact PWd.pt<|kZ (k:=false) (j:=false) (nW (d:=.non) (pdv 13) eB) λh=>by cases h
   |some G2=>exact PWd.pt<|kZ (k:=true) (j:=false) (nW (d:=.lst<|(cE p<|Es++Ms).map wsD) (pdv 13) eB) λ_=>pT (PTd.cast (aAW (sY<|bY (ds:=[cH p,.lst<|(cE p Es).map wsD,.lst<|(cE p<|Es++Ms).map wsD]) GL hr4 rfl (aD (pdv 1) (aD (pdv 7)<|aD (pdv 13) aS)) ⟨p,_,_,hp,WC0.wn<|oQ hp,(aBC hp MO hg).wn<|oQ hp,rfl,rfl⟩ trivial rfl))<|by rw[loM];rfl)
  refine aN<|iB (ds:=gB 0 4) (λt sd=>sd=[.val<|.scr ns,.val<|cH p,.val (.lst<|(bC p).map aT),.val (.lst<|L.map skD),.val (.lst<|lX row),.val (.tup<|T.map aT),.val (.lst<|Es.map exD),.val (.lst<|(cE p Es).map wsD),.val<|.int (cu:Int),.val (.lst<|(cE p<|Es.take cu).map wsD),.val (.lst<|Fs.map exD),.un,.un,.val (if g.isSome=true then .lst ((cE p<|Es++Ms).map wsD) else .non),.un,.un]) (gE (n:=4) rfl zrange bD<|by decide) ⟨_,Le.refl _,rfl⟩ (λt d sdt hd ht=> ?_) λsdn hn=> ?_
  ·subst ht;obtain⟨ht,rfl⟩:=eI hd;rw[gZ];refine⟨[.val<|.scr ns,.val<|cH p,.val (.lst<|(bC p).map aT),.val (.lst<|L.map skD),.val (.lst<|lX row),.val (.tup<|T.map aT),.val (.lst<|Es.map exD),.val (.lst<|(cE p Es).map wsD),.val<|.int (cu:Int),.val (.lst<|(cE p<|Es.take cu).map wsD),.val (.lst<|Fs.map exD),.un,.un,.val (if g.isSome=true then .lst ((cE p<|Es++Ms).map wsD) else .non),.val<|.int (t:Int),.un],eA 14<|pgn 14, ?_⟩;have OT:=aAH hp (cK (ns.getD 5 0+2*(t:Int))<|1+2*t) hT;refine aN<|jW (d:=.tup<|((cK (ns.getD 5 0+2*(t:Int))<|1+2*t).foldl (vV p) T).map aT) 15 nd rfl (Or.inl rfl) (bY (ds:=[.tup<|T.map aT,.lst<|(cK (ns.getD 5 0+2*(t:Int))<|1+2*t).map D.int,.lst<|(bC p).map aT]) GN hr1 rfl (aD (pdv 5) (aD (PEd.val<|bY (ds:=[.int<|ns.getD 5 0+2*(t:Int),.int ((1+2*t:Nat):Int)]) GX hr1 rfl (aD (jN jD (cell 5 (by decide) rfl) (bZ iI bD (pdv 14)<|iD (by decide) (cB (by omega:_<=4)<|by decide)))<|aD (PEd.ic (jN jD bD (bZ iI bD (pdv 14)<|iD (by decide) (cB (by omega:_<=4)<|by decide)))<|by omega) aS) ⟨_,1+2*t,rfl,by omega,rfl⟩ trivial rfl)<|aD (pdv 2) aS)) ⟨p,T,_,hp,hT,rfl,rfl⟩ trivial rfl) ?_;generalize (cK (ns.getD 5 0+2*(t:Int))<|1+2*t).foldl (vV p) T=U at OT;refine bG (fU (k:=false) (PTd.cast (aKc (p:=(rH (cE p Es) (bC p) U).isNone) (q:=oY p Es U) (bY (ds:=[cH p,.lst<|(cE p Es).map wsD,.tup<|U.map aT]) GD hr4 rfl (aD (pdv 1) (aD (pdv 7)<|aD (pdv 15) aS)) ⟨p,cE p Es,U,hp,WK,OT,rfl,rfl⟩ trivial rfl)<|bY (ds:=[.lst<|Es.map exD,.lst<|(bC p).map aT,.tup<|U.map aT]) GP hr1 rfl (aD (pdv 6) (aD (pdv 2)<|aD (pdv 15) aS)) ⟨p,Es,U,hp,EO,OT,rfl,rfl⟩ trivial rfl)<|by rw[aKN hp EO OT];simp) rfl<|dS ?_);exact⟨[.val<|.scr ns,.val<|cH p,.val (.lst<|(bC p).map aT),.val (.lst<|L.map skD),.val (.lst<|lX row),.val (.tup<|T.map aT),.val (.lst<|Es.map exD),.val (.lst<|(cE p Es).map wsD),.val<|.int (cu:Int),.val (.lst<|(cE p<|Es.take cu).map wsD),.val (.lst<|Fs.map exD),.un,.un,.val (if g.isSome=true then .lst ((cE p<|Es++Ms).map wsD) else .non),.un,.un],⟨.inr rfl,.inr rfl,.inr rfl,.inr rfl,.inr rfl,.inr rfl,.inr rfl,.inr rfl,.inr rfl,.inr rfl,.inr rfl,.inl rfl,.inl rfl,.inr rfl,.inl rfl,.inl rfl,trivial⟩,rfl⟩
  ·subst hn;exact bG<|cJ aFI trivial rfl
theorem all_mk{h:BL}{fa:BJ}(X:K.In h)(G:h.Ns AQ mg)(hfa:mg "law"=some (.ref fa))
  {odL anL:Option BJ}{slL:Array (Option BH)}{ocL kVL dcL pmL cdL ctL:BH}{fL:BJ}{CN:BJ}
  (aL:eZ K AQ "law"=some (some<|.ref fL)) (lL:K.lookup fL=some ⟨ocL,odL,.func<|eQ "law" "law" (iS tF) (fV tF) (bJ tF) .none kVL dcL pmL anL cdL ctL,slL⟩) (cL:iP K cdL "law"=true) (kL:eJ K (.ref fL)=true) (nrange:eZ K AQ "range"=some none) (ntuple:eZ K AQ "tuple"=some none) (nzip:eZ K AQ "zip"=some none) (nall:eZ K AQ "all"=some none) (nenumerate:eZ K AQ "enumerate"=some none) (nlist:eZ K AQ "list"=some none) (nlen:eZ K AQ "len"=some none) (nsorted:eZ K AQ "sorted"=some none) (nset:eZ K AQ "set"=some none) (nmax:eZ K AQ "max"=some none) (nint:eZ K AQ "int"=some none) (aCN:eZ K AQ "NoWish"=some (some<|.ref CN)) (xex:lB K CN [.type "ValueError",.type "Exception",.type "BaseException",.type "object"] "ValueError.__new__"=true) (xnx:qM K (.ref CN) (.ref CN)=some true) (hC:FI K mg "word_count" aHZ) (hEa:FI K mg "with_each_word" aDh) (hFi:FI K mg "fillings" aLl) (hBw:FI K mg "both_words" sBw) (hBt:FI K mg "both_wanted" aMF) (hWb:FI K mg "wanted_by_filling" aMM) (hHw:FI K mg "has_wanted" sHw) (hCh:FI K mg "choice_of" aME) (hWf:FI K mg "wish_of" aMR) (hMs:FI K mg "misses_at" aIL) (hDo:FI K mg "does_wish" aKL) (hBc:FI K mg "both_choices" sBc) (hBv:FI K mg "both_wishes" aMH) (hLc:FI K mg "is_loose_choice" sLc) (hLo:FI K mg "is_loose" sLo) (hCa:FI K mg "_law_cell_at" aEa) (hX:FI K mg "_law_stream" aEb) (hZ:FI K mg "_law_size" aHB) (hT:FI K mg "_law_two" aOR) (hF:FI K mg "_law_fillings" aDm) (hSm:FI K mg "_law_small" aIg) (hQ:FI K mg "_law_step" aHM) (hK:FI K mg "_law_stock" vI) (hBi:FI K mg "_law_bits" aDl) (hWo:FI K mg "_law_word" aBx) (hSt:FI K mg "_law_stepped" aBT) (hGo:FI K mg "_law_gone" aKJ) (hCe:FI K mg "_law_cells" aHt) (hWa:FI K mg "_law_wants" aHr) (hKp:FI K mg "_law_kept" aIC) (hBn:FI K mg "_law_bent" aLm) (hTo:FI K mg "_law_told" aKQ):
  ∃fd:AV,(∀ (s:BI) (v:BH),BindsTo s fd ⟨[v],[]⟩ [("_law_script",v)])/\∀base:BL,K.In base->base.Ns AQ mg->FnOk P w K mg base CX0 6 fa fd ["_law_script"] (spC K 1 aMO):=by
 have e:=hfa.symm.trans<|zQ X G aL;cases e;have zrange:=dW X G nrange;have ztuple:=dW X G ntuple;have zzip:=dW X G nzip;have zall:=dW X G nall;have zenumerate:=dW X G nenumerate;have zlist:=dW X G nlist;have zlen:=dW X G nlen;have zsorted:=dW X G nsorted;have zset:=dW X G nset;have zmax:=dW X G nmax;have zint:=dW X G nint;have xk:aMG K mg CN:=⟨xex,⟨zQ X G aCN,trivial⟩,xnx⟩;obtain⟨fC,dC,mC,FC⟩:=hC;obtain⟨fEa,dEa,mEa,FEa⟩:=hEa;obtain⟨fFi,dFi,mFi,FFi⟩:=hFi;obtain⟨fBw,dBw,mBw,FBw⟩:=hBw;obtain⟨fBt,dBt,mBt,FBt⟩:=hBt;obtain⟨fWb,dWb,mWb,FWb⟩:=hWb;obtain⟨fHw,dHw,mHw,FHw⟩:=hHw;obtain⟨fCh,dCh,mCh,FCh⟩:=hCh;obtain⟨fWf,dWf,mWf,FWf⟩:=hWf;obtain⟨fMs,dMs,mMs,FMs⟩:=hMs;obtain⟨fDo,dDo,mDo,FDo⟩:=hDo;obtain⟨fBc,dBc,mBc,FBc⟩:=hBc;obtain⟨fBv,dBv,mBv,FBv⟩:=hBv;obtain⟨fLc,dLc,mLc,FLc⟩:=hLc;obtain⟨fLo,dLo,mLo,FLo⟩:=hLo;obtain⟨fCa,dCa,mCa,FCa⟩:=hCa;obtain⟨fX,dX,mX,FX⟩:=hX;obtain⟨fZ,dZ,mZ,FZ⟩:=hZ;obtain⟨fT,dT,mT,FT⟩:=hT;obtain⟨fF,dF,mF,FF⟩:=hF;obtain⟨fSm,dSm,mSm,FSm⟩:=hSm;obtain⟨fQ,dQ,mQ,FQ⟩:=hQ;obtain⟨fK,dK,mK,FK⟩:=hK;obtain⟨fBi,dBi,mBi,FBi⟩:=hBi;obtain⟨fWo,dWo,mWo,FWo⟩:=hWo;obtain⟨fSt,dSt,mSt,FSt⟩:=hSt;obtain⟨fGo,dGo,mGo,FGo⟩:=hGo;obtain⟨fCe,dCe,mCe,FCe⟩:=hCe;obtain⟨fWa,dWa,mWa,FWa⟩:=hWa;obtain⟨fKp,dKp,mKp,FKp⟩:=hKp;obtain⟨fBn,dBn,mBn,FBn⟩:=hBn;obtain⟨fTo,dTo,mTo,FTo⟩:=hTo;have FL:=aHU (st:=tF) lL cL kL;refine⟨eQ "law" "law" (iS tF) (fV tF) (bJ tF) .none kVL dcL pmL anL cdL ctL,λs v=>.of_eq rfl,λbase _ _=> ?_⟩;have GC:=aGt (P:=P) (w:=w) (base:=base) FC zrange mC ;have GEa:=aJa (P:=P) (w:=w) (base:=base) FEa zrange mEa ;have GFi:=aJp (P:=P) (w:=w) (base:=base) FFi zrange mFi GC GEa;have GBw:=aJZ (P:=P) (w:=w) (base:=base) FBw xk mBw ;have GBt:=aFX (P:=P) (w:=w) (base:=base) FBt ztuple zzip mBt GBw;have GWb:=aGs (P:=P) (w:=w) (base:=base) FWb mWb GBt;have GHw:=aJG (P:=P) (w:=w) (base:=base) FHw zall zzip mHw ;have GCh:=aGr (P:=P) (w:=w) (base:=base) FCh zall mCh GFi GHw;have GWf:=aGd (P:=P) (w:=w) (base:=base) FWf mWf GWb GCh GFi;have GMs:=aEX (P:=P) (w:=w) (base:=base) FMs zenumerate mMs GFi;have GDo:=aJD (P:=P) (w:=w) (base:=base) FDo mDo GMs;have GBc:=aJu (P:=P) (w:=w) (base:=base) FBc zlist zlen zsorted zset xk mBc ;have GBv:=aFU (P:=P) (w:=w) (base:=base) FBv zrange zlen mBv GFi GBc;have GLc:=aNq (P:=P) (w:=w) (base:=base) FLc zlen zset mLc GFi;have GLo:=aNo (P:=P) (w:=w) (base:=base) FLo zall zzip mLo GLc;have GCa:=aEV (P:=P) (w:=w) (base:=base) FCa zlen mCa ;have GX:=aFa (P:=P) (w:=w) (base:=base) FX zrange mX ;have GZ:=aGY (P:=P) (w:=w) (base:=base) FZ mZ ;have GT:=aLG (P:=P) (w:=w) (base:=base) FT mT ;have GF:=aFs (P:=P) (w:=w) (base:=base) FF zrange mF GT;have GSm:=aGq (P:=P) (w:=w) (base:=base) FSm mSm GZ;have GQ:=aGI (P:=P) (w:=w) (base:=base) FQ mQ GT;have GK:=aFm (P:=P) (w:=w) (base:=base) FK zrange mK GX GQ;have GBi:=aGJ (P:=P) (w:=w) (base:=base) FBi zrange zmax mBi GT;have GWo:=aGX (P:=P) (w:=w) (base:=base) FWo zint mWo GT GBi;have GSt:=aCC (P:=P) (w:=w) (base:=base) FSt zlist ztuple mSt GWo;have GGo:=aFe (P:=P) (w:=w) (base:=base) FGo mGo GSt;have GCe:=aGp (P:=P) (w:=w) (base:=base) FCe mCe GX;have GWa:=aCO (P:=P) (w:=w) (base:=base) FWa zlen zrange zint ztuple mWa GCa GCe;have GKp:=aET (P:=P) (w:=w) (base:=base) FKp zzip mKp ;have GBn:=aEL (P:=P) (w:=w) (base:=base) FBn zlen zlist ztuple mBn ;have GTo:=aEZ (P:=P) (w:=w) (base:=base) FTo xk mTo GWf;exact aMv FL zlen zrange ztuple GCa GSm GF GK GX GGo GWa GWf GDo GBv GLo GTo GBn GKp
end K35
open PySem PySem.W PyProof.Rows
namespace PySem.W.Fast
theorem tw11768198818531445563:True:=trivial
theorem tw12016492437205413362:True:=trivial
theorem tw12144790616406417162:True:=trivial
theorem tw12378207992316970768:True:=trivial
theorem tw12545968939767754622:True:=trivial
theorem tw12673249469498890021:True:=trivial
theorem tw12727833527871018473:True:=trivial
theorem tw12769667033291091032:True:=trivial
theorem tw1278703156171052212:True:=trivial
theorem tw13360183468258896892:True:=trivial
theorem tw1344289732234376807:True:=trivial
theorem tw1378201496211498602:True:=trivial
theorem tw14124606132131704706:True:=trivial
theorem tw14690909446025903515:True:=trivial
theorem tw14705165418702631669:True:=trivial
theorem tw15431612833439026460:True:=trivial
theorem tw15454313359907951332:True:=trivial
theorem tw15748179538450291663:True:=trivial
theorem tw15950601396075559142:True:=trivial
theorem tw16181743626380972056:True:=trivial
theorem tw16368832783835151187:True:=trivial
theorem tw16602519636930008948:True:=trivial
theorem tw17036248189703141448:True:=trivial
theorem tw17111430901444249577:True:=trivial
theorem tw17125428613569451127:True:=trivial
theorem tw17633606007109836845:True:=trivial
theorem tw17652815309683643279:True:=trivial
theorem tw17859041406761892216:True:=trivial
theorem tw1788592411024457958:True:=trivial
theorem tw17897759804632146344:True:=trivial
theorem tw18355612355585401722:True:=trivial
theorem tw18431782125255154962:True:=trivial
theorem tw2311646647178326219:True:=trivial
theorem tw2443788280277770902:True:=trivial
theorem tw2847287511056703954:True:=trivial
theorem tw3642298049143678941:True:=trivial
theorem tw3775714215582043979:True:=trivial
theorem tw3808221166649895982:True:=trivial
theorem tw3856804399898134849:True:=trivial
theorem tw4816795048932227297:True:=trivial
theorem tw4907362751788141508:True:=trivial
theorem tw5059350916960135754:True:=trivial
theorem tw5414710901913425277:True:=trivial
theorem tw5652157935516499614:True:=trivial
theorem tw5653943450767558860:True:=trivial
theorem tw5808311948201318047:True:=trivial
theorem tw6383416806433489763:True:=trivial
theorem tw6633127596107363343:True:=trivial
theorem tw7161548344565162763:True:=trivial
theorem tw7535330852757005268:True:=trivial
theorem tw7753349926048824093:True:=trivial
theorem tw7944689048766206277:True:=trivial
theorem tw8487245270398165245:True:=trivial
theorem tw9218193319336158296:True:=trivial
theorem tw9243641681970439519:True:=trivial
end PySem.W.Fast
set_option maxRecDepth 100000 in
set_option maxHeartbeats 0 in
theorem PySem.Challenge.cw_leastrow_k35_whole_examples_and_tables_holds : PySem.Challenge.rw_leastrow_k35_whole_examples_and_tables.Holds := by
 w_on;o_law;k_head;(case hw=>w_witness2)
 k_fill
 refine DL.walkD (l:=PySem.Challenge.rw_leastrow_k35_whole_examples_and_tables) (k:=6) (x:="_law_script") rfl rfl ⟨rfl,by decide,by decide,rfl⟩ (λw h Y=>PySem.W.kIn_of Y) ?F
 case F=>
  intro w mg fa h KX G hmg;refine' K35.all_mk KX G hmg ?aL ?lL ?cL ?kL ?nrange ?ntuple ?nzip ?nall ?nenumerate ?nlist ?nlen ?nsorted ?nset ?nmax ?nint ?aCN ?xex ?xnx (DL.FI.mk KX G ?a0 ?l0 ?c0 ?k0) (DL.FI.mk KX G ?a1 ?l1 ?c1 ?k1) (DL.FI.mk KX G ?a2 ?l2 ?c2 ?k2) (DL.FI.mk KX G ?a3 ?l3 ?c3 ?k3) (DL.FI.mk KX G ?a4 ?l4 ?c4 ?k4) (DL.FI.mk KX G ?a5 ?l5 ?c5 ?k5) (DL.FI.mk KX G ?a6 ?l6 ?c6 ?k6) (DL.FI.mk KX G ?a7 ?l7 ?c7 ?k7) (DL.FI.mk KX G ?a8 ?l8 ?c8 ?k8) (DL.FI.mk KX G ?a9 ?l9 ?c9 ?k9) (DL.FI.mk KX G ?a10 ?l10 ?c10 ?k10) (DL.FI.mk KX G ?a11 ?l11 ?c11 ?k11) (DL.FI.mk KX G ?a12 ?l12 ?c12 ?k12) (DL.FI.mk KX G ?a13 ?l13 ?c13 ?k13) (DL.FI.mk KX G ?a14 ?l14 ?c14 ?k14) (DL.FI.mk KX G ?a15 ?l15 ?c15 ?k15) (DL.FI.mk KX G ?a16 ?l16 ?c16 ?k16) (DL.FI.mk KX G ?a17 ?l17 ?c17 ?k17) (DL.FI.mk KX G ?a18 ?l18 ?c18 ?k18) (DL.FI.mk KX G ?a19 ?l19 ?c19 ?k19) (DL.FI.mk KX G ?a20 ?l20 ?c20 ?k20) (DL.FI.mk KX G ?a21 ?l21 ?c21 ?k21) (DL.FI.mk KX G ?a22 ?l22 ?c22 ?k22) (DL.FI.mk KX G ?a23 ?l23 ?c23 ?k23) (DL.FI.mk KX G ?a24 ?l24 ?c24 ?k24) (DL.FI.mk KX G ?a25 ?l25 ?c25 ?k25) (DL.FI.mk KX G ?a26 ?l26 ?c26 ?k26) (DL.FI.mk KX G ?a27 ?l27 ?c27 ?k27) (DL.FI.mk KX G ?a28 ?l28 ?c28 ?k28) (DL.FI.mk KX G ?a29 ?l29 ?c29 ?k29) (DL.FI.mk KX G ?a30 ?l30 ?c30 ?k30) (DL.FI.mk KX G ?a31 ?l31 ?c31 ?k31)
  (case aL=>k_is);(case lL=>k_is);(case cL=>k_is);(case kL=>k_is);(case nrange=>k_is);(case ntuple=>k_is);(case nzip=>k_is);(case nall=>k_is);(case nenumerate=>k_is);(case nlist=>k_is);(case nlen=>k_is);(case nsorted=>k_is);(case nset=>k_is);(case nmax=>k_is);(case nint=>k_is);(case aCN=>k_is);(case xex=>k_exc);(case xnx=>kts_exm);(case a0=>k_is);(case l0=>k_is);(case c0=>k_is);(case k0=>k_is);(case a1=>k_is);(case l1=>k_is);(case c1=>k_is);(case k1=>k_is);(case a2=>k_is);(case l2=>k_is);(case c2=>k_is);(case k2=>k_is);(case a3=>k_is);(case l3=>k_is);(case c3=>k_is);(case k3=>k_is);(case a4=>k_is);(case l4=>k_is);(case c4=>k_is);(case k4=>k_is);(case a5=>k_is);(case l5=>k_is);(case c5=>k_is);(case k5=>k_is);(case a6=>k_is);(case l6=>k_is);(case c6=>k_is);(case k6=>k_is);(case a7=>k_is);(case l7=>k_is);(case c7=>k_is);(case k7=>k_is);(case a8=>k_is);(case l8=>k_is);(case c8=>k_is);(case k8=>k_is);(case a9=>k_is);(case l9=>k_is);(case c9=>k_is);(case k9=>k_is);(case a10=>k_is);(case l10=>k_is);(case c10=>k_is);(case k10=>k_is);(case a11=>k_is);(case l11=>k_is);(case c11=>k_is);(case k11=>k_is);(case a12=>k_is);(case l12=>k_is);(case c12=>k_is);(case k12=>k_is);(case a13=>k_is);(case l13=>k_is);(case c13=>k_is);(case k13=>k_is);(case a14=>k_is);(case l14=>k_is);(case c14=>k_is);(case k14=>k_is);(case a15=>k_is);(case l15=>k_is);(case c15=>k_is);(case k15=>k_is);(case a16=>k_is);(case l16=>k_is);(case c16=>k_is);(case k16=>k_is);(case a17=>k_is);(case l17=>k_is);(case c17=>k_is);(case k17=>k_is);(case a18=>k_is);(case l18=>k_is);(case c18=>k_is);(case k18=>k_is);(case a19=>k_is);(case l19=>k_is);(case c19=>k_is);(case k19=>k_is);(case a20=>k_is);(case l20=>k_is);(case c20=>k_is);(case k20=>k_is);(case a21=>k_is);(case l21=>k_is);(case c21=>k_is);(case k21=>k_is);(case a22=>k_is);(case l22=>k_is);(case c22=>k_is);(case k22=>k_is);(case a23=>k_is);(case l23=>k_is);(case c23=>k_is);(case k23=>k_is);(case a24=>k_is);(case l24=>k_is);(case c24=>k_is);(case k24=>k_is);(case a25=>k_is);(case l25=>k_is);(case c25=>k_is);(case k25=>k_is);(case a26=>k_is);(case l26=>k_is);(case c26=>k_is);(case k26=>k_is);(case a27=>k_is);(case l27=>k_is);(case c27=>k_is);(case k27=>k_is);(case a28=>k_is);(case l28=>k_is);(case c28=>k_is);(case k28=>k_is);(case a29=>k_is);(case l29=>k_is);(case c29=>k_is);(case k29=>k_is);(case a30=>k_is);(case l30=>k_is);(case c30=>k_is);(case k30=>k_is);(case a31=>k_is);(case l31=>k_is);(case c31=>k_is);(case k31=>k_is)
