import PyProof.Rows.All
import Wide.All
import OpenK.AllK
import Wide.FinOn
import Lean
import PyProof.EqAt
import PyProof.EqKinds
import PyProof.TupleCall
import PySem.Challenge.RW_leastrow_k44_whole_what_holds_is_the_boo
set_option Elab.async false
set_option linter.all false
set_option maxRecDepth 100000
open PySem renaming wpAny_bind→AA,wpAny_pure→AB,Program→AD,starEach→AG,model→AH,wpAny→AK,sizeLine→AL,World→AM,cLine→AO,mainGlobals→AQ,tupleKind→AR,wpAny_newObj_type→AS,compareOp→AT,sysModules→AU,behindInMarks→AV,FuncData→AX,wpAny_call_entry→AY,wpAny_truthy_bool→AZ,wpAny_dictEntries→Aa,argBest→Ac,swapsWith→Ad,wpAny_callSpecial?_slot→Ae,wpAny_holding→Af,wpAny_mono→Ag,wpAny_typeNameOfWhole_itemiter→Aj,binaryOp→Ak,sliceBounds→Al,wpAny_typeNameOfWhole_keyiter→Am,bootBuiltins→An,sizeLine_eq→Ao,wpAny_Call_Name_kw→Ap,tupleKind_room_in1→Aq,wpAny_notOrdered_dict→Ar,wpAny_passesOwn→As,backTo→Au,call_meetsIn→Av,wpAny_rule→Aw,wpAny_setField_rec→Ax,size_of_entries→Az,wpAny_dictEpoch→BA,wpAny_pyIter_list→BB,assignEach→BC,wpAny_forIn_list→BE,attributeBase→BF,wpAny_specialOf→BG,wpAny_ite_split→BH,codeAny_builtin→BI
open PyProof.Rows renaming pendingOf→AC,wpS_bind→AE,Keyed→AF,wpS_pure→AI,arrOf→AJ,wpS_forRange→AW,wpS_mono→Ab,envOfC→Ah,seqObj→Ai,SortKind→At,wpS_modify→Ay,setPending→BD
open Inhabited renaming default→AN
open PySem.W renaming Frag→aA,mg_none_of→dE,nsIn→eC,keepIn→eM,kia_one→fU,kitOne→fY,fnOf→gK,codeIn→kX,findIn→mL,mg_of→qN,methodObj→sY,instObj→uU,lookIn→xT
open List renaming length_map→aB,getElem?_eq_some_iff→aE,mem_cons_of_mem→aF,mem_singleton→aG,mem_cons_self→aH,mem_map→aN,mem_of_getElem?→aO,length_append→aP,getElem?_map→aQ,size_toArray→aS,mem_append_right→aV,map_append→aW,mem_cons→aX,mem_append→aY,map_map→bA,map_cons→bC,nodup_append→bF,nodup_cons→bG,range→bP,length_cons→bS,mem_append_left→bW,length_take→bX,map_congr_left→bZ,getD→cA,mem_singleton_self→cG,mem_range→cM,filter_eq_self→cQ,getElem?_append_left→cT,extract_eq_take_drop→cU,getElem_of_mem→cV,getElem?_of_mem→cW,all_eq_true→cX,getElem_map→cY,take_length→cZ,append_nil→dD,eq_nil_of_length_eq_zero→dJ,mem_flatMap→dO,pairwise_map→dQ,eraseIdx_eq_take_drop_succ→dU,getElem?_append_right→dX,zip_cons_cons→eG,getElem?_eq_getElem→eW,map_nil→eY,take_add_one→eZ,append_assoc→fD,nodup_nil→fH,lookup_cons→fO,getElem_inj→fV,drop_eq_getElem_cons→gH,getElem?_eq_none→gI,eraseIdx_sublist→gJ,any_eq_true→gL,replicate→gS,length_nil→gW,filterMap_cons→gZ,length_pos_iff→hG,take_of_length_le→hW,perm_append_comm→iD,take_append_drop→iE,find?_cons→iK,mem_of_mem_take→iM,map_take→iO,length_drop→iS,getElem_mem→iT,not_mem_nil→iU,perm_middle→iV,getElem?_set_self→jG,pairwise_cons→jH,mem_filter→jM,dropLast_concat_getLast→jN,length_zip→jO,length_range→jT,foldl_append→jU,getElem?_zip_eq_some→kK,mem_of_mem_eraseIdx→kQ,pairwise_singleton→kW,take_zero→lE,ext_getElem→lK,map_drop→lN,getElem?_set_ne→lQ,length_eraseIdx→lR,drop_zero→mW,getElem_range→mX,map_id→nY,any_cons→oC,sum_append→pP,length_filter_lt_length_iff_exists→qG,length→qJ,pairwise_append→qK,sum_cons→sW,filter_append→sZ,set_eq_take_append_cons_drop→uC,ext_getElem?→uJ,cons→vK,mem_eraseIdx_iff_getElem?→vL,of_mem_zip→xU,nil_append→xV,countP_eq_length_filter→xW
open PySem.Heap renaming get?_push_of_some→aI,lt_size→aU,get?_push_size→bD,get?_update_other→dR,get?_update_self→jQ,size_update→pA,size_push→qM
open Nat renaming le_of_ble_eq_true→aK,le_refl→aM,lt_of_lt_of_le→aZ,ne_of_lt→bO,zero_le→bY,lt_of_le_of_lt→cD,le_trans→cK,le_of_lt→eJ,lt_irrefl→fJ,ne_of_gt→iA,le_succ→kG,lt_succ_self→lO,min_self→mM,lt_succ_of_lt→oD,lt_trans→pQ,mul_le_mul_right→rE,pow_le_pow_right→rG,sub_self→uQ,zero_add→uR
open Bool renaming and_eq_true→bH,false_ne_true→bN,false_eq_true→cB,eq_iff_iff→iL,eq_false_iff→nZ,false_and→qL,not_eq_true'→uK,or_eq_true→xX
open Array renaming length_toList→cC,toList_append→dL,getElem?_toList→dW,toList_extract→eA,perm_iff_toList_perm→iB,getElem?_eq_getElem→kH,size_extract→kS,toList_push→lA,toList_reverse→lP,toList_inj→oV,getElem?_eq_none→pC,forIn_toList→sX,toList_map→uT
open Int renaming emod_lt_of_pos→cE,emod_nonneg→dG,toNat_natCast→fE,natCast_nonneg→iF,le_refl→kY,ne_of_gt→mO,toNat→rH,zero_add→uS
open Option renaming some→cF,map_eq_some_iff→eE
open PySem.F renaming plainAttrs_dict→gT,plainAttrs_list→iR,slot_dict_setdefault→jD,slot_dict_get→jJ,args_tuple_add_2→nC,slot_list_append→nD,type_list_append→nE,entry_tuple_add→oA,args_dict_get_3→oB,slot_tuple_add→oW,entry_dict_get→oX,slot_dict_itemiterator_iter→qO,args_dict_setdefault_3→uD,entry_dict_setdefault→uL,type_dict_setdefault→uV,slot_dict_items→zN,plain_list_iadd→zO
open PySem.SetTable renaming leap→mY,bits→qH
open List renaming getElem?_eq_none_iff→aAg,pairwise_iff_getElem→aAh,getElem?_take_of_lt→aAP,length_eq_zero_iff→aBO,drop_eq_nil_of_le→aCB,set_getElem_self→aCC,length_filter_le→aCD,reverse_reverse→aFq,mem_of_mem_drop→aFr,take_succ_cons→aFy,getElem?_range→aFz,reverse_append→aFA,flatMap_append→aFB,mem_filterMap→aHo,getElem?_drop→aHp,filter_filter→aHq,any_eq_false→aIw,take_sublist→aIx,getElem_take→aIy,filter_congr→aIz,cons_append→aKF,nodup_range→aKG,map_reverse→aKH,zip_append→aKM,range_succ→aKN,drop_drop→aNf,all_cons→aNr
open Int renaming fdiv_eq_ediv_of_nonneg→aAi,le_of_eq→aFu,ediv_one→aPf,ne_of_lt→aPg,mul_comm→aPh
open PySem.W renaming cellsFrom_some→aAj,specialIn→aFv,kitx_list→aFw,kitx_dict→aFx,plainGet→aFD,isFn→aKP
open PySem.F renaming type_dict_get→aAQ,slot_dict_pop→aAR
open Nat renaming not_lt→aBP,le_of_eq→aFs,succ_mul→aFt,lt_of_succ_lt→aKI,le_add_right→aKO,succ→aOA,add_assoc→aOB,pow_succ→aPe
open Bool renaming false_or→aBQ,true_and→aBR,beq_eq_decide_eq→aCE,true_or→aOC
open Option renaming isSome_map→aFC,getD_none→aHr,getD_some→aHs,none→aNs
open PySem.SetTable renaming runEnd→aFE
open PySem.Heap renaming get?_push_ne→aIA
open Array renaming toList→aNt
open PySem renaming Value→BJ,Shared→BK,Addr→BL,Around→BM,Heap→BN,Obj→BO,Stmt→BP,SetTable→BR
open PyProof.Rows renaming SortSt→BQ
namespace L2
open PySem PySem.Spec PyProof.Rows
noncomputable abbrev Key:=Sum Int Str
noncomputable def zK:Key->BJ->Bool
 |.inl k,v=>Value.isInt k v
 |.inr x,v=>Value.isStrOf x v
noncomputable def keyH(w:AM):Key->Int
 |.inl k=>hashInt k
 |.inr x=>hashStr w x
theorem iI:∀ {k:Key}{v:BJ},zK k v=true->(∃i t,k=Sum.inl i/\v=Value.int i t)\/(∃x t,k=Sum.inr x/\v=Value.str x t)
 |.inl i,v,h=>by obtain⟨t,e⟩:=Value.isInt_shape (k:=i) (v:=v) h;exact .inl ⟨i,t,rfl,e⟩
 |.inr x,v,h=>by obtain⟨t,e⟩:=Value.isStrOf_shape (x:=x) (v:=v) h;exact .inr ⟨x,t,rfl,e⟩
theorem aFf(i:Int)(t:Tok):zK (.inl i) (.int i t)=true:=by simp[zK,Value.isInt]
theorem aEC(x:Str)(t:Tok):zK (.inr x) (.str x t)=true:=by simp[zK,Value.isStrOf]
theorem aMq(a b:Int):decide ((Sum.inl a:Key)=Sum.inl b)=(a==b):=by
 by_cases e:a=b
 ·subst e;simp
 ·have h:¬ (Sum.inl a:Key)=Sum.inl b:=λq=>e (Sum.inl.inj q)
  rw[decide_eq_false h];exact(beq_eq_false_iff_ne.mpr e).symm
theorem aLF(a b:Str):decide ((Sum.inr a:Key)=Sum.inr b)=decide (a=b):=by
 by_cases e:a=b
 ·subst e;simp
 ·have h:¬ (Sum.inr a:Key)=Sum.inr b:=λq=>e (Sum.inr.inj q)
  rw[decide_eq_false h,decide_eq_false e]
theorem aLJ(a:Int)(b:Str):decide ((Sum.inl a:Key)=Sum.inr b)=false:=decide_eq_false (λq=>nomatch q)
theorem aMb(a:Str)(b:Int):decide ((Sum.inr a:Key)=Sum.inl b)=false:=decide_eq_false (λq=>nomatch q)
noncomputable def eO(prog:AD)(w:AM):PySem.KeyKind prog w Key where
 is:=zK
 hash:=keyH w
 inj:=λv a b ha hb=>by
  rcases iI ha with⟨i,t,rfl,rfl⟩|⟨x,t,rfl,rfl⟩
  ·rcases iI hb with⟨j,u,rfl,e⟩|⟨y,u,rfl,e⟩
   ·injection e with e1 _;rw[e1]
   ·exact nomatch e
  ·rcases iI hb with⟨j,u,rfl,e⟩|⟨y,u,rfl,e⟩
   ·exact nomatch e
   ·injection e with e1 _;rw[e1]
 byValue:=λk v h=>by rcases iI h with⟨i,t,rfl,rfl⟩|⟨x,t,rfl,rfl⟩<;>rfl
 pyHash:=λhv h=>by
  rcases iI hv with⟨i,t,rfl,rfl⟩|⟨x,t,rfl,rfl⟩
  ·exact wpAny_pyHash_int h
  ·exact wpAny_pyHash_str h
 eqBool:=λhu hv h=>by
  rcases iI hu with⟨i,t,rfl,rfl⟩|⟨x,t,rfl,rfl⟩
  ·rcases iI hv with⟨j,u,rfl,rfl⟩|⟨y,u,rfl,rfl⟩
   ·rw[aMq] at h;exact wpAny_eqBool_int h
   ·rw[aLJ] at h;exact SeqAt.EqAt.int_str i t y u _ _ _ _ h
  ·rcases iI hv with⟨j,u,rfl,rfl⟩|⟨y,u,rfl,rfl⟩
   ·rw[aMb] at h;exact SeqAt.EqAt.str_int x t j u _ _ _ _ h
   ·rw[aLF] at h;exact wpAny_eqBool_str h
 «strs»:=λk x t v h=>by
  rcases iI h with⟨i,u,rfl,e⟩|⟨y,u,rfl,e⟩
  ·exact nomatch e
  ·injection e with e1 _
   subst e1;cases v<;>rfl
theorem aAN(prog:AD)(w:AM)(i:Int)(t:Tok):(eO prog w).is (.inl i) (.int i t)=true:=aFf i t
theorem aAO(prog:AD)(w:AM)(x:Str)(t:Tok):(eO prog w).is (.inr x) (.str x t)=true:=aEC x t
inductive V where
 |non|bl (b:Bool)|int (i:Int)|str (x:Str)|byt (b:Array UInt8)|flt (b:UInt64)|ref (a:BL)|ty (n:String)
 deriving DecidableEq
noncomputable def RelV:V->BJ->Prop
 |.non,u=>u=Value.none
 |.bl b,u=>u=Value.bool b
 |.int i,u=>∃t,u=Value.int i t
 |.str x,u=>∃t,u=Value.str x t
 |.byt b,u=>∃t,u=Value.bytes b t
 |.flt b,u=>∃t,u=Value.float b t
 |.ref a,u=>u=Value.ref a
 |.ty n,u=>u=Value.type n
abbrev Vals:List V->List BJ->Prop:=Paired RelV
theorem Vals.length{xs:List V}{us:List BJ}(r:Vals xs us):xs.length=us.length:=Paired.length r
theorem Vals.get:∀ {xs:List V}{us:List BJ}{i:Nat}{x:V},Vals xs us->xs[i]? =some x->∃u,us[i]? =some u/\RelV x u
 |_,_,_,_,.nil,e=>by simp at e
 |_,_,0,_,.cons r _,e=>by simp at e;subst e;exact⟨_,rfl,r⟩
 |_,_,i+1,x,.cons _ t,e=>by obtain⟨u,h1,h2⟩:=Vals.get (i:=i) (x:=x) t (by simpa using e);exact⟨u,by simpa using h1,h2⟩
theorem Vals.append:∀ {xs ys:List V}{us ws:List BJ},Vals xs us->Vals ys ws->Vals (xs++ys) (us++ws)
 |_,_,_,_,.nil,s=>s
 |_,_,_,_,.cons r t,s=>.cons r (Vals.append t s)
theorem Vals.take:∀ {xs:List V}{us:List BJ} (n:Nat),Vals xs us->Vals (xs.take n) (us.take n)
 |_,_,0,_=>.nil
 |_,_,_+1,.nil=>.nil
 |_,_,n+1,.cons r t=>.cons r (Vals.take n t)
theorem Vals.drop:∀ {xs:List V}{us:List BJ} (n:Nat),Vals xs us->Vals (xs.drop n) (us.drop n)
 |_,_,0,r=>r
 |_,_,_+1,.nil=>.nil
 |_,_,n+1,.cons _ t=>Vals.drop n t
noncomputable def RelO:Option V->Option BJ->Prop
 |some v,some u=>RelV v u
 |none,none=>True
 |_,_=>False
def KV{κ:Type}:List (κ×V)->List (κ×BJ)->Prop:=Paired λ(p:κ×V) (q:κ×BJ)=>p.1=q.1/\RelV p.2 q.2
noncomputable def kV:Key->V
 |.inl i=>.int i
 |.inr x=>.str x
inductive HO where
 /-- a list -/
 |lst (xs:List V)
 /-- a tuple (never changes) -/
 |tup (xs:List V)
 /-- a dict whose keys are ints and texts;one whose keys are tuples of ints and texts (the empty one is both) -/
 |dK (kvs:List (Key×V))|dT (kvs:List (List Key×V))
 /-- a set of ints:its members,its size -/
 |set (S:Int->Bool) (n:Nat)
 /-- an instance of the class at C,its dict at dx,its attributes -/
 |ins (C dx:BL) (fs:List (Str×V))
 /-- the dict of the instance at x -/
 |own (x:BL)
 /-- the dict of an exception -/
 |xd (fs:List (Str×V))
 /-- a bound method,f of x -/
 |met (f x:BL)
 /-- a range object lo,lo+1, .. below hi -/
 |rng (lo hi:Int)
 /-- a thing that is known to the object (the script;a dict while a loop walks it):read,never written while it is so -/
 |frz (o:BO) (u:HO)
 /-- a code object's table -/
 |tbl (ps:Array BJ)
 /-- any other thing,by what is true of its one object (a def of one's own:SetO a S n:=HO.ext λh=> ..) -/
 |ext (φ:BN->Prop)
noncomputable abbrev Hp:=BL->Option HO
noncomputable def upd(H:Hp)(a:BL)(o:HO):Hp:=λb=>if b=a then some o else H b
theorem bV{H:Hp}{a:BL}{o:HO}:upd H a o a=some o:=by unfold upd;rw[if_pos rfl]
theorem bK{H:Hp}{a b:BL}{o:HO}(h:b≠a):upd H a o b=H b:=by unfold upd;rw[if_neg h]
theorem aOp{H:Hp}{a b:BL}{o u:HO}(h:H a=some o)(h':H b=some u)(d:o≠u):a≠b:=by intro e;subst e;rw[h] at h';exact d (cF.inj h')
theorem cI{H:Hp}{a b:BL}{o:HO}(h:H a=some o)(h':H b=none):a≠b:=by intro e;subst e;rw[h] at h';cases h'
def IsTupD(h:BN)(a:BL)(items:Array BJ):Prop:=∃o,h.get? a=some o/\o.cls=.type "tuple"/\(∃n,o.data=.seq items n)/\o.dict=none
theorem IsTupD.tup{h:BN}{a:BL}{items:Array BJ}(x:IsTupD h a items):IsTup h a items:=let ⟨o,e,c,d,_⟩:=x;⟨o,e,c,d⟩
theorem IsTupD.new(h:BN)(items:Array BJ):IsTupD (h.push {cls:=.type "tuple",data:=.seq items}) h.objs.size items:=⟨_,bD _ rfl,rfl,⟨_,rfl⟩,rfl⟩
section
variable (P:AD)(w:AM)
noncomputable def ObjOk(H:Hp)(h:BN)(a:BL):HO->Prop
 |.lst xs=>xs.length<=AL/\∃ (its:List BJ) (n:Nat),Vals xs its/\h.get? a=some {cls:=.type "list",data:=.seq its.toArray n}
 |.tup xs=>xs.length<=AL/\∃its:List BJ,Vals xs its/\IsTupD h a its.toArray
 |.dK kvs=>kvs.length<=AL/\(a==AU)=false/\∃vs,KV kvs vs/\h.DictOf (eO P w) a vs
 |.dT kvs=>kvs.length<=AL/\(a==AU)=false/\∃xs:List (List Key×BL×BJ),
   Paired (λ(p:List Key×V) (q:List Key×BL×BJ)=>p.1=q.1/\H q.2.1=some (.tup (p.1.map kV))/\RelV p.2 q.2.2) kvs xs/\
   ∃o es ep,h.get? a=some o/\o.ExactDict/\o.data=.dict es ep/\es.toList=xs.map (entryOfKey (AR (eO P w)))/\(xs.map (·.1)).Nodup
 |.set S n=>h.SetOf (intKind P w) a S n
 |.ins C dx fs=>H dx=some (.own a)/\fs.length<=1000/\dx≠a/\h.get? a=some (uU C dx)/\
   ∃mA,h.Ns1 dx mA/\(∀f,RelO (fs.lookup f) (mA f))/\PySem.Within mA (fs.map (·.1))
 |.own _=>∃o,h.get? a=some o
 |.xd fs=>∃mA,h.Ns1 a mA/\∀f,RelO (fs.lookup f) (mA f)
 |.rng lo hi=>∃t u v,h.get? a=some {cls:=.type "range",data:=.fields #[.int lo t,.int hi u,.int 1 v]}
 |.frz o u=>h.get? a=some o/\ObjOk H h a u
 |.tbl ps=>h.get? a=some {cls:=.none,data:=.fields ps}
 |.met f x=>h.get? a=some (sY (.ref f) (.ref x))
 |.ext φ=>φ h/\(∃o,h.get? a=some o)/\∀h1 h2:BN,φ h1->(∀o,h1.get? a=some o->h2.get? a=some o)->φ h2
def HOk(H:Hp)(h:BN):Prop:=∀a o,H a=some o->ObjOk P w H h a o
end
section
variable {P:AD}{w:AM}{H H':Hp}{h h':BN}{a:BL}{o:HO}
theorem ObjOk.lt(x:ObjOk P w H h a o):a<h.objs.size:=by
 cases o with
 |lst xs=>obtain⟨_,_,_,_,e⟩:=x;exact aU e
 |tup xs=>obtain⟨_,_,_,p⟩:=x;exact p.tup.lt
 |dK kvs=>obtain⟨_,_,_,_,o,_,_,e,_⟩:=x;exact aU e
 |dT kvs=>obtain⟨_,_,_,_,o,_,_,e,_⟩:=x;exact aU e
 |set S n=>obtain⟨o,_,_,_,e,_⟩:=x;exact aU e
 |ins C dx fs=>obtain⟨_,_,_,e,_⟩:=x;exact aU e
 |own y=>obtain⟨_,e⟩:=x;exact aU e
 |xd fs=>obtain⟨_,⟨_,_,_,e,_⟩,_⟩:=x;exact aU e
 |rng lo hi=>obtain⟨_,_,_,e⟩:=x;exact aU e
 |frz ob u=>obtain⟨e,_⟩:=x;exact aU e
 |tbl ps=>exact aU (show h.get? a=some _ from x)
 |met f y=>exact aU (show h.get? a=some _ from x)
 |ext φ=>obtain⟨_,⟨_,e⟩,_⟩:=x;exact aU e
theorem Paired.mapP{α β:Type}{F G:α->β->Prop}:∀ {l₁:List α}{l₂:List β},Paired F l₁ l₂->(∀a b,F a b->G a b)->Paired G l₁ l₂
 |_,_,.nil,_=>.nil
 |_,_,.cons r t,f=>.cons (f _ _ r) (Paired.mapP t f)
theorem ObjOk.stay(x:ObjOk P w H h a o)(k:∀b u,(b=a\/H b=some (.own a))->h.get? b=some u->h'.get? b=some u)
  (ho:∀b,H b=some (.own a)->H' b=some (.own a)) (ht:∀b xs,H b=some (.tup xs)->H' b=some (.tup xs)):ObjOk P w H' h' a o:=by
 induction o with
 |lst xs=>obtain⟨z,its,n,r,e⟩:=x;exact⟨z,its,n,r,k _ _ (.inl rfl) e⟩
 |tup xs=>obtain⟨z,its,r,ob,e,c⟩:=x;exact⟨z,its,r,ob,k _ _ (.inl rfl) e,c⟩
 |dK kvs=>obtain⟨z,y,vs,r,ob,es,ep,e,c⟩:=x;exact⟨z,y,vs,r,ob,es,ep,k _ _ (.inl rfl) e,c⟩
 |dT kvs=>obtain⟨z,y,xs,r,ob,es,ep,e,c⟩:=x;exact⟨z,y,xs,Paired.mapP r λp q z=>⟨z.1,ht _ _ z.2.1,z.2.2⟩,ob,es,ep,k _ _ (.inl rfl) e,c⟩
 |set S n=>obtain⟨ob,es,ep,t,e,c⟩:=x;exact⟨ob,es,ep,t,k _ _ (.inl rfl) e,c⟩
 |ins C dx fs=>obtain⟨d,z,ne,e,mA,⟨od,es,ep,e2,c⟩,r⟩:=x;exact⟨ho _ d,z,ne,k _ _ (.inl rfl) e,mA,⟨od,es,ep,k _ _ (.inr d) e2,c⟩,r⟩
 |own y=>obtain⟨ob,e⟩:=x;exact⟨ob,k _ _ (.inl rfl) e⟩
 |xd fs=>obtain⟨mA,⟨od,es,ep,e,c⟩,r⟩:=x;exact⟨mA,⟨od,es,ep,k _ _ (.inl rfl) e,c⟩,r⟩
 |rng lo hi=>obtain⟨t,u,v,e⟩:=x;exact⟨t,u,v,k _ _ (.inl rfl) e⟩
 |frz ob u ih=>obtain⟨e,q⟩:=x;exact⟨k _ _ (.inl rfl) e,ih q⟩
 |tbl ps=>have e:h.get? a=some {cls:=.none,data:=.fields ps}:=x;show h'.get? a=some {cls:=.none,data:=.fields ps};exact k a _ (.inl rfl) e
 |met f y=>have e:h.get? a=some (sY (.ref f) (.ref y)):=x;show h'.get? a=some (sY (.ref f) (.ref y));exact k a _ (.inl rfl) e
 |ext φ=>obtain⟨p,⟨o,e⟩,st⟩:=x;exact⟨st _ _ p λo q=>k _ _ (.inl rfl) q,⟨o,k _ _ (.inl rfl) e⟩,st⟩
theorem HOk.lt(x:HOk P w H h)(e:H a=some o):a<h.objs.size:=(x a o e).lt
theorem HOk.fresh(x:HOk P w H h)(e:h.objs.size<=a):H a=none:=by
 cases q:H a with
 |none=>rfl
 |some u=>exact absurd (aZ (x.lt q) e) (fJ _)
theorem HOk.kept(x:HOk P w H h)(k:∀b u,h.get? b=some u->h'.get? b=some u):HOk P w H h':=λa o e=>(x a o e).stay (λb u _ q=>k b u q) (λ_ q=>q) λ_ _ q=>q
theorem HOk.laid(x:HOk P w H h)(k:∀b u,h.get? b=some u->h'.get? b=some u)(hp:h.objs.size<=a)(new:ObjOk P w (upd H a o) h' a o):HOk P w (upd H a o) h':=λb u e=>by
 have hn:=x.fresh hp
 by_cases hb:b=a
 ·subst hb;rw[bV] at e;cases e;exact new
 ·rw[bK hb] at e;exact(x b u e).stay (λc v _ q=>k c v q) (λc q=>by rw[bK (cI q hn)];exact q) λc xs q=>by rw[bK (cI q hn)];exact q
end
def Rd(H:Hp)(a:BL)(u:HO):Prop:=H a=some u\/∃o,H a=some (.frz o u)
theorem Rd.of{H:Hp}{a:BL}{u:HO}(h:H a=some u):Rd H a u:=.inl h
theorem Rd.ok{P:AD}{w:AM}{H:Hp}{h:BN}{a:BL}{u:HO}(r:Rd H a u)(x:HOk P w H h):ObjOk P w H h a u:=by
 rcases r with r|⟨o,r⟩
 ·exact x a u r
 ·obtain⟨_,q⟩:=x a _ r;exact q
noncomputable def Mut:Option HO->Prop
 |some (.lst _)=>True
 |some (.dK _)=>True
 |some (.dT _)=>True
 |some (.set _ _)=>True
 |some (.ins _ _ _)=>True
 |some (.ext _)=>True
 |_=>False
section
variable {P:AD}{w:AM}{H:Hp}{h h':BN}{x e:BL}{o':HO}
theorem HOk.write(ok:HOk P w H h)(mu:Mut (H x))(he:e=x\/H e=some (.own x))(k:∀b u,b≠e->h.get? b=some u->h'.get? b=some u)(heo:∃u,h'.get? e=some u)
  (new:ObjOk P w (upd H x o') h' x o'):HOk P w (upd H x o') h':=λb u q=>by
 have nown:∀c y,H c=some (.own y)->c≠x:=λc y r z=>by subst z;rw[r] at mu;exact mu
 have ntup:∀c xs,H c=some (.tup xs)->c≠x:=λc xs r z=>by subst z;rw[r] at mu;exact mu
 by_cases hb:b=x
 ·subst hb;rw[bV] at q;cases q;exact new
 ·rw[bK hb] at q
  by_cases hbe:b=e
  ·have q':H b=some (.own x):=by
    rcases he with z|z
    ·exact absurd (hbe.trans z) hb
    ·rw[hbe];exact z
   rw[q] at q';cases q';obtain⟨v,hv⟩:=heo;exact⟨v,by rw[hbe];exact hv⟩
  ·refine(ok b u q).stay (λc v hc r=>k c v ?_ r) (λc r=>by rw[bK (nown c b r)];exact r) λc xs r=>by rw[bK (ntup c xs r)];exact r
   rcases hc with rfl|hc
   ·exact hbe
   ·rintro rfl
    rcases he with z|z
    ·exact nown c b hc z
    ·rw[hc] at z;cases z;exact hb rfl
end
structure Un(fs ex:List BL)(H H':Hp)(h h':BN):Prop where
 keep:∀b o,h.get? b=some o->H b=none->b∉fs->b∉ex->h'.get? b=some o
 slot:∀b o,h.get? b=some o->H b=none->b∈fs->b∉ex->∃sl,h'.get? b=some {o with slots:=sl}
 free:∀b o,h.get? b=some o->H b=none->b∉ex->H' b=none
 there:∀b o,h.get? b=some o->b∉ex->∃o',h'.get? b=some o'
 tups:∀b xs,H b=some (.tup xs)->H' b=some (.tup xs)
 frzs:∀b o u,H b=some (.frz o u)->H' b=some (.frz o u)
 tbls:∀b ps,H b=some (.tbl ps)->∃more,H' b=some (.tbl (ps++more))
section
variable {fs fs' ex ex':List BL}{H H1 H2:Hp}{h h1 h2 h':BN}{a x e:BL}{o:HO}
theorem Un.any(u:Un fs ex H H1 h h1){b:BL}{ob:BO}(q:h.get? b=some ob)(n:H b=none)(hx:b∉ex):∃sl,h1.get? b=some {ob with slots:=sl}:=by
 by_cases hb:b∈fs
 ·exact u.slot b ob q n hb hx
 ·exact⟨ob.slots,u.keep b ob q n hb hx⟩
theorem Un.kept(k:∀b u,h.get? b=some u->h'.get? b=some u):Un fs ex H H h h':=
 ⟨λb ob q _ _ _=>k b ob q,λb ob q _ _ _=>⟨ob.slots,k b ob q⟩,λ_ _ _ n _=>n,λb ob q _=>⟨ob,k b ob q⟩,λ_ _ q=>q,λ_ _ _ q=>q,λ_ ps q=>⟨#[],by rw[q];simp⟩⟩
theorem Un.refl:Un fs ex H H h h:=Un.kept λ_ _ q=>q
theorem Un.laid(k:∀b u,h.get? b=some u->h'.get? b=some u)(hp:h.objs.size<=a)(hn:H a=none):Un fs ex H (upd H a o) h h' where
 keep:=λb u q _ _ _=>k b u q
 slot:=λb u q _ _ _=>⟨u.slots,k b u q⟩
 free:=λb u q n _=>by rw[bK (bO (aZ (aU q) hp))];exact n
 there:=λb u q _=>⟨u,k b u q⟩
 tups:=λb xs q=>by rw[bK (cI q hn)];exact q
 frzs:=λb u xs q=>by rw[bK (cI q hn)];exact q
 tbls:=λb ps q=>⟨#[],by rw[bK (cI q hn),q];simp⟩
theorem Un.write(mu:Mut (H x))(he:e=x\/H e=some (.own x))(k:∀b u,b≠e->h.get? b=some u->h'.get? b=some u)(heo:∃u,h'.get? e=some u):Un fs ex H (upd H x o) h h':=by
 have hx:∀b,H b=none->b≠x:=λb n z=>by subst z;rw[n] at mu;exact mu
 have hb:∀b,H b=none->b≠e:=λb n z=>by
  subst z
  rcases he with r|r
  ·exact hx b n r
  ·rw[n] at r;cases r
 have hm:∀b u,H b=some u->¬ Mut (some u)->b≠x:=λb u q nm z=>by subst z;rw[q] at mu;exact nm mu
 refine ⟨fun b u q n _ _=>k b u (hb b n) q,fun b u q n _ _=>⟨u.slots,k b u (hb b n) q⟩,fun b u q n _=>by rw [bK (hx b n)]; exact n,fun b u q _=> ?_,
  λb xs q=>by rw[bK (hm b _ q λz=>z)];exact q,λb u xs q=>by rw[bK (hm b _ q λz=>z)];exact q,λb ps q=>⟨#[],by rw[bK (hm b _ q λz=>z),q];simp⟩⟩
 by_cases hbe:b=e
 ·subst hbe;exact heo
 ·exact⟨u,k b u hbe q⟩
end
noncomputable def trk(h:BN)(H:Hp):List BL:=(bP h.objs.size).filter λa=>(H a).isSome
noncomputable def zP(h:BN)(H:Hp):BN:=PySem.W.hideAll h (trk h H)
theorem aEu(h:BN)(H:Hp):(zP h H).objs.size=h.objs.size:=PySem.W.hideAll_size _ _
theorem aGx{h:BN}{H:Hp}{b:BL}{o:BO}(e:h.get? b=some o)(n:H b=none):(zP h H).get? b=some o:=
 PySem.W.hideAll_get _ e λhm=>by have q:(H b).isSome=true:=(jM.mp hm).2;rw[n] at q;simp at q
theorem aKv{h:BN}{H:Hp}{b:BL}{o:BO}(e:(zP h H).get? b=some o):h.get? b=some o/\H b=none:=by
 have e':h.get? b=some o:=PySem.W.of_hideAll (trk h H) e;refine⟨e', ?_⟩;cases q:H b with
 |none=>rfl
 |some x=>have hm:b∈trk h H:=jM.mpr ⟨cM.mpr (aU e'),by simp[q]⟩;have z:(zP h H).get? b=none:=PySem.W.hideAll_none (trk h H) hm;rw[z] at e;cases e
noncomputable def aJT(g h:BN)(L:BL):List (BL×BO):=(bP h.objs.size).filterMap λa=>if a=L\/(g.get? a).isSome=true then none else(h.get? a).map λo=>(a,o)
noncomputable def rest(g h:BN)(L d:BL):List (BL×BO):=(aJT g h L).filter λp=>decide (p.1≠d)
structure Mod(K:aA)(mg:Str->Option BJ)(base:BN):Prop where
 kin:K.In base
 glob:base.Ns AQ mg
 blt:∃mb,base.Ns builtinsNs mb/\∀x:Str,x≠"__name__"->mb x=An x
 nolimit:base.NoLimit
noncomputable def aFL:HO->Prop
 |.lst _=>False
 |.ext _=>False
 |_=>True
structure Cx where
 prog:AD
 w:AM
 K:aA
 mg:Str->Option BJ
 base:BN
 A:BM
 N:List Str
 s₀:BK
 H₀:Hp
 env:Env
 outer:List Env
 stack:List Env
 ex:List BL
 fn:Str->Bool
 calm:Bool
 pn:List (BL×BO)
 xe:BJ->BK->Prop
 B₀:Hp:=H₀
 hB:∀b o,H₀ b=some o->aFL o->B₀ b=some o:=by intro b o e _;exact e
noncomputable def frs(l:List Env):List BL:=l.filterMap (·.frame)
noncomputable abbrev Cx.fs(X:Cx):List BL:=frs X.outer
def Vis(sc:Scope)(x:Str):Prop:=sc.names.lookup x=some .local\/sc.names.lookup x=some .cell\/sc.names.lookup x=some .free
def Loc(sc:Scope)(x:Str):Prop:=sc.names.lookup x=some .local\/sc.names.lookup x=some .cell
def Look(env:Env)(h:BN)(m:Str->Option BJ)(x:Str)(u:BJ):Prop:=
 (env.kindOf x=some .local/\m x=some u)\/((env.kindOf x=some .cell\/env.kindOf x=some .free)/\∃c,env.cells.lookup x=some c/\h.IsCell c (some u))
structure Cx.Ok(X:Cx):Prop where
 mod:Mod X.K X.mg X.base
 kind:X.env.scope.kind=.function
 glob:X.env.globals=AQ
 blt:X.env.builtins=builtinsNs
 above:X.s₀.heap.objs.size<=X.env.locals
 inj:∀x y c,X.env.cells.lookup x=some c->X.env.cells.lookup y=some c->x=y
 has:∀x,(X.env.kindOf x=some .cell\/X.env.kindOf x=some .free)->∃c,X.env.cells.lookup x=some c
 cab:∀x c,X.fn x=true->X.env.cells.lookup x=some c->X.s₀.heap.objs.size<=c
 hd:X.calm=true->X.A.handled=none
 frames:X.A.frames=some X.stack
 stk:X.stack=X.outer\/(X.stack=X.env::X.outer/\X.env.frame=some X.env.locals)
 exf:∀b∈X.ex,b≠X.env.locals/\∀x c,X.env.cells.lookup x=some c->c≠b
 bs:∀b o,X.base.get? b=some o->X.s₀.heap.get? b=some o/\X.H₀ b=none
 bsz:X.base.objs.size<=X.s₀.heap.objs.size
 noex:∀b o,X.base.get? b=some o->b∉X.ex
 exfs:∀b∈X.ex,b∉X.fs
 funs:X.s₀.heap.FunFrames X.base X.outer
 frf:∀b∈X.fs,X.H₀ b=none
structure Inv(X:Cx)(pins:List (BL×BO))(σ:List (Option V))(H:Hp)(s:BK):Prop where
 ok:X.Ok
 os:s.os=X.s₀.os
 bare:AllBare s.gens
 base:Un X.fs X.ex X.H₀ H X.s₀.heap s.heap
 loc:∃m,s.heap.Ns X.env.locals m/\∀ (i:Nat) (x:Str) (v:V),X.N[i]? =some x->σ[i]? =some (some v)->Vis X.env.scope x->∃u,RelV v u/\Look X.env s.heap m x u
 cell:∀x c,X.env.cells.lookup x=some c->∃v,s.heap.IsCell c v
 free:H X.env.locals=none
 freeC:∀x c,X.env.cells.lookup x=some c->H c=none
 pin:∀p∈X.pn++pins,s.heap.get? p.1=some p.2/\H p.1=none/\p.1≠X.env.locals/\p.1∉X.fs/\∀v,p.2.data≠ .cell v
 hok:HOk X.prog X.w H s.heap
 len:σ.length=X.N.length
section
variable {X:Cx}{pins:List (BL×BO)}{σ:List (Option V)}{H H':Hp}{s:BK}{h':BN}
theorem Cx.Ok.nofr(ok:X.Ok){b:BL}{o:BO}(e:X.base.get? b=some o):b∉X.fs:=λhb=>by have:=(ok.funs.mem hb).1;rw[e] at this;cases this
theorem Inv.bs(I:Inv X pins σ H s):∀b o,X.base.get? b=some o->s.heap.get? b=some o/\H b=none:=λb o e=>⟨I.base.keep b o (I.ok.bs b o e).1 (I.ok.bs b o e).2 (I.ok.nofr e) (I.ok.noex b o e),I.base.free b o (I.ok.bs b o e).1 (I.ok.bs b o e).2 (I.ok.noex b o e)⟩
theorem Inv.bk(I:Inv X pins σ H s):∀b o,X.base.get? b=some o->s.heap.get? b=some o:=λb o e=>(I.bs b o e).1
theorem Inv.mod(I:Inv X pins σ H s):Mod X.K X.mg X.base:=I.ok.mod
theorem Inv.kIn(I:Inv X pins σ H s):X.K.In s.heap:=I.ok.mod.kin.keeps I.bk
theorem Inv.lt(I:Inv X pins σ H s):X.env.locals<s.heap.objs.size:=let ⟨_,hn,_⟩:=I.loc;hn.lt
theorem Inv.sz(I:Inv X pins σ H s):X.s₀.heap.objs.size<=s.heap.objs.size:=cK I.ok.above (eJ I.lt)
theorem Inv.nofs(I:Inv X pins σ H s){a:BL}(h:s.heap.objs.size<=a):a∉X.fs:=λhb=>by obtain⟨_,o,ho,_⟩:=I.ok.funs.mem hb;exact absurd (aZ (aU ho) (cK I.sz h)) (fJ _)
theorem Inv.cne(I:Inv X pins σ H s):∀x c,X.env.cells.lookup x=some c->c≠X.env.locals:=λx c e z=>by obtain⟨v,o,ho,hd⟩:=I.cell x c e;obtain⟨m,⟨o',es,ep,ho',hd',_⟩,_⟩:=I.loc;rw[z,ho'] at ho;cases ho;rw[hd'] at hd;cases hd
theorem Inv.funs(I:Inv X pins σ H s):s.heap.FunFrames X.base X.outer:=by
 have all:∀ (l:List Env),(∀b∈frs l,b∈X.fs)->X.s₀.heap.FunFrames X.base l->s.heap.FunFrames X.base l:=by
  intro l
  induction l with
  |nil=>intro _ _;trivial
  |cons env r ih=>
   intro hs hl;obtain⟨hk,⟨L,o,hf,hn,ho,hd⟩,hr⟩:=hl;have hL:L∈X.fs:=hs L (by unfold frs;rw[gZ,hf];exact aH);obtain⟨sl,e⟩:=I.base.slot L o ho (I.ok.frf L hL) hL λz=>I.ok.exfs L z hL
   exact⟨hk,⟨L,_,hf,hn,e,hd⟩,ih (λb hb=>hs b (by unfold frs;rw[gZ,hf];exact aF _ hb)) hr⟩
 exact all X.outer (λ_ hb=>hb) I.ok.funs
theorem Inv.stack(I:Inv X pins σ H s):s.heap.FunFrames X.base X.stack:=by
 rcases I.ok.stk with e|⟨e,hf⟩
 ·rw[e];exact I.funs
 ·rw[e];obtain⟨m,hn,_⟩:=I.loc;refine .cons (by rw[I.ok.kind];decide) hf hn ?_ I.funs;exact Heap.get?_none_of_le (cK I.ok.bsz I.ok.above)
theorem Inv.stkSub(I:Inv X pins σ H s):∀b∈frs X.stack,b∈X.env.locals::X.fs:=λb hb=>by
 rcases I.ok.stk with e|⟨e,hf⟩
 ·rw[e] at hb;exact aF _ hb
 ·rw[e] at hb;unfold frs at hb;rw[gZ,hf] at hb;exact hb
theorem Inv.stkFree(I:Inv X pins σ H s):∀b∈frs X.stack,H b=none:=λb hb=>by
 rcases aX.mp (I.stkSub b hb) with e|hb
 ·rw[e];exact I.free
 ·obtain⟨_,o,ho,_⟩:=I.ok.funs.mem hb;exact I.base.free b o ho (I.ok.frf b hb) λz=>I.ok.exfs b z hb
theorem Inv.step{g':Array GenState}{t':Nat}{d':Drawn}{ch:List BL}(I:Inv X pins σ H s)
  (hch:∀b∈ch,(b∈X.ex\/X.s₀.heap.objs.size<=b)/\b≠X.env.locals/\(∀x c,X.env.cells.lookup x=some c->c≠b)/\∀p∈X.pn++pins,p.1≠b)
  (keep:∀b o,b≠X.env.locals->b∉X.fs->b∉ch->s.heap.get? b=some o->H b=none->h'.get? b=some o)
  (slot:∀b o,b≠X.env.locals->b∈X.fs->b∉ch->s.heap.get? b=some o->H b=none->∃sl,h'.get? b=some {o with slots:=sl}) (free:∀b o,b∉ch->s.heap.get? b=some o->H b=none->H' b=none)
  (there:∀b o,b∉ch->s.heap.get? b=some o->∃o',h'.get? b=some o')
  (tups:∀b xs,H b=some (.tup xs)->H' b=some (.tup xs)) (frzs:∀b o u,H b=some (.frz o u)->H' b=some (.frz o u)) (tbls:∀b ps,H b=some (.tbl ps)->∃more,H' b=some (.tbl (ps++more)))
  (ns:∀m,s.heap.Ns X.env.locals m->h'.Ns X.env.locals m) (hok:HOk X.prog X.w H' h') (hg:AllBare g'):
  Inv X pins σ H' {s with heap:=h',gens:=g',drawn:=d',toks:=t'}:=by
 have neL:∀b o,X.s₀.heap.get? b=some o->b≠X.env.locals:=λb o e=>bO (aZ (aU e) I.ok.above)
 have neC:∀b o,X.s₀.heap.get? b=some o->b∉X.ex->b∉ch:=λb o e hx hb=>by
  rcases(hch b hb).1 with z|z
  ·exact hx z
  ·exact absurd (aZ (aU e) z) (fJ _)
 have cellK:∀x c,X.env.cells.lookup x=some c->∀v,s.heap.IsCell c v->h'.IsCell c v:=λx c e v ⟨o,ho,hd⟩=>by
  have nch:c∉ch:=λz=>(hch c z).2.2.1 x c e rfl
  by_cases hc:c∈X.fs
  ·obtain⟨sl,q⟩:=slot c o (I.cne x c e) hc nch ho (I.freeC x c e);exact⟨_,q,hd⟩
  ·exact⟨o,keep c o (I.cne x c e) hc nch ho (I.freeC x c e),hd⟩
 refine⟨I.ok,I.os,hg,⟨λb o e n hb hx=> ?_,λb o e n hb hx=> ?_,λb o e n hx=> ?_,λb o e hx=> ?_,λb xs e=>tups b xs (I.base.tups b xs e),λb o xs e=>frzs b o xs (I.base.frzs b o xs e),λb ps e=> ?_⟩, ?_,λx c e=> ?_, ?_,λx c e=> ?_,λp hp=> ?_,hok,I.len⟩
 ·exact keep b o (neL b o e) hb (neC b o e hx) (I.base.keep b o e n hb hx) (I.base.free b o e n hx)
 ·obtain⟨sl,e1⟩:=I.base.slot b o e n hb hx;obtain⟨sl',e2⟩:=slot b _ (neL b o e) hb (neC b o e hx) e1 (I.base.free b o e n hx);exact⟨sl',e2⟩
 ·obtain⟨o',e1⟩:=I.base.there b o e hx;exact free b o' (neC b o e hx) e1 (I.base.free b o e n hx)
 ·obtain⟨o',e1⟩:=I.base.there b o e hx;exact there b o' (neC b o e hx) e1
 ·obtain⟨m1,e1⟩:=I.base.tbls b ps e;obtain⟨m2,e2⟩:=tbls b _ e1;exact⟨m1++m2,by rw[e2,Array.append_assoc]⟩
 ·obtain⟨m,hn,hl⟩:=I.loc;refine⟨m,ns m hn,λi x v e1 e2 e3=> ?_⟩;obtain⟨u,r,l⟩:=hl i x v e1 e2 e3;refine⟨u,r, ?_⟩
  rcases l with l|⟨k,c,e,z⟩
  ·exact .inl l
  ·exact .inr ⟨k,c,e,cellK x c e _ z⟩
 ·obtain⟨v,z⟩:=I.cell x c e;exact⟨v,cellK x c e v z⟩
 ·obtain⟨m,⟨o,_,_,ho,_⟩,_⟩:=I.loc;exact free _ o (λz=>(hch _ z).2.1 rfl) ho I.free
 ·obtain⟨v,o,ho,hd⟩:=I.cell x c e;exact free c o (λz=>(hch c z).2.2.1 x c e rfl) ho (I.freeC x c e)
 ·obtain⟨e,n,ne,nf,d⟩:=I.pin p hp;have nch:p.1∉ch:=λz=>(hch p.1 z).2.2.2 p hp rfl
  exact⟨keep p.1 p.2 ne nf nch e n,free p.1 p.2 nch e n,ne,nf,d⟩
theorem Inv.un{t':Nat}(I:Inv X pins σ H s)(u:Un X.fs [] H H' s.heap h')(hok:HOk X.prog X.w H' h'):Inv X pins σ H' {s with heap:=h',toks:=t'}:=by
 obtain⟨m,⟨o,es,ep,ho,r⟩,_⟩:=id I.loc;obtain⟨sl,hL⟩:=u.any ho I.free (by simp)
 exact I.step (g':=s.gens) (d':=s.drawn) (ch:=[]) (fun _ z=>nomatch z) (fun b o _ hb _ e n=>u.keep b o e n hb (by simp)) (fun b o _ hb _ e n=>u.slot b o e n hb (by simp)) (fun b o _ e n=>u.free b o e n (by simp)) (fun b o _ e=>u.there b o e (by simp)) u.tups u.frzs u.tbls (fun m' hm=>by
  obtain⟨o',es',ep',ho',r'⟩:=hm;rw[ho] at ho';cases ho'
  exact⟨_,es',ep',hL,r'⟩) hok I.bare
theorem Inv.call{g':Array GenState}{t':Nat}{d':Drawn}{ch:List BL}(I:Inv X pins σ H s)(u:Un (frs X.stack) ch H H' s.heap h')(hok:HOk X.prog X.w H' h')(hg:AllBare g')
  (hch:∀b∈ch,(b∈X.ex\/X.s₀.heap.objs.size<=b)/\b≠X.env.locals/\(∀x c,X.env.cells.lookup x=some c->c≠b)/\∀p∈X.pn++pins,p.1≠b):
  Inv X pins σ H' {s with heap:=h',gens:=g',drawn:=d',toks:=t'}:=by
 obtain⟨m,⟨o,es,ep,ho,r⟩,_⟩:=id I.loc;obtain⟨sl,hL⟩:=u.any ho I.free λz=>(hch _ z).2.1 rfl
 exact I.step (ch:=ch) hch (fun b o hL hb hc e n=>u.keep b o e n (fun z=>(aX.mp (I.stkSub b z)).elim hL hb) hc) (fun b o _ _ hc e n=>u.any e n hc) (fun b o hc e n=>u.free b o e n hc) (fun b o hc e=>u.there b o e hc) u.tups u.frzs u.tbls (fun m' hm=>by
  obtain⟨o',es',ep',ho',r'⟩:=hm;rw[ho] at ho';cases ho'
  exact⟨_,es',ep',hL,r'⟩) hok hg
theorem Inv.turned{t':Nat}{it:BL}(I:Inv X pins σ H s)(k:∀b o,b≠it->s.heap.get? b=some o->h'.get? b=some o)(hn:H it=none)(hL:it≠X.env.locals)
  (h1:it∈X.ex\/X.s₀.heap.objs.size<=it) (h2:∀x c,X.env.cells.lookup x=some c->c≠it) (h3:∀p∈X.pn++pins,p.1≠it):Inv X pins σ H {s with heap:=h',toks:=t'}:=by
 have nit:∀b u,H b=some u->b≠it:=λb u e z=>by rw[z,hn] at e;cases e
 refine I.step (g':=s.gens) (d':=s.drawn) (ch:=[it]) (λb hb=> ?_) (λb o _ _ hc e _=>k b o (λz=>hc (by simp[z])) e) (λb o _ _ hc e _=>⟨o.slots,k b o (λz=>hc (by simp[z])) e⟩) (λ_ _ _ _ n=>n)
  (λb o hc e=>⟨o,k b o (λz=>hc (by simp[z])) e⟩) (λ_ _ e=>e) (λ_ _ _ e=>e) (λb ps e=>⟨#[],by rw[e];simp⟩) (λm hm=> ?_) (λb u e=> ?_) I.bare
 ·have e:b=it:=by simpa using hb
  subst e;exact⟨h1,hL,h2,h3⟩
 ·obtain⟨o,es,ep,ho,r⟩:=hm;exact⟨o,es,ep,k _ o (Ne.symm hL) ho,r⟩
 ·refine(I.hok b u e).stay (λc v hc q=>k c v ?_ q) (λ_ q=>q) λ_ _ q=>q
  rcases hc with z|z
  ·rw[z];exact nit b u e
  ·exact nit c _ z
theorem Inv.tok(I:Inv X pins σ H s)(t:Nat):Inv X pins σ H {s with toks:=t}:=I.un (h':=s.heap) (t':=t) Un.refl I.hok
theorem Inv.kept{t':Nat}(I:Inv X pins σ H s)(k:∀b u,s.heap.get? b=some u->h'.get? b=some u):Inv X pins σ H {s with heap:=h',toks:=t'}:=I.un (Un.kept k) (I.hok.kept k)
theorem Inv.laid{a:BL}{o:HO}{t':Nat}(I:Inv X pins σ H s)(k:∀b u,s.heap.get? b=some u->h'.get? b=some u)(hp:s.heap.objs.size<=a)(new:ObjOk X.prog X.w (upd H a o) h' a o):
  Inv X pins σ (upd H a o) {s with heap:=h',toks:=t'}:=I.un (Un.laid k hp (I.hok.fresh hp)) (I.hok.laid k hp new)
theorem Inv.write{x e:BL}{o:HO}{t':Nat}(I:Inv X pins σ H s)(mu:Mut (H x))(he:e=x\/H e=some (.own x))(k:∀b u,b≠e->s.heap.get? b=some u->h'.get? b=some u)(heo:∃u,h'.get? e=some u)
  (new:ObjOk X.prog X.w (upd H x o) h' x o):Inv X pins σ (upd H x o) {s with heap:=h',toks:=t'}:=I.un (Un.write mu he k heo) (I.hok.write mu he k heo new)
theorem Inv.pins_of{pins':List (BL×BO)}(I:Inv X pins σ H s)(h:∀p∈pins',s.heap.get? p.1=some p.2/\H p.1=none/\p.1≠X.env.locals/\p.1∉X.fs/\∀v,p.2.data≠ .cell v):Inv X pins' σ H s:=
 ⟨I.ok,I.os,I.bare,I.base,I.loc,I.cell,I.free,I.freeC,λp hp=>(aY.mp hp).elim (λz=>I.pin p (bW _ z)) (h p),I.hok,I.len⟩
theorem aBG{N:List Str}(hN:N.Nodup){i j:Nat}{x:Str}(a:N[i]? =some x)(b:N[j]? =some x):i=j:=by obtain⟨h1,e1⟩:=aE.mp a;obtain⟨h2,e2⟩:=aE.mp b;exact(fV hN).mp (e1.trans e2.symm)
theorem aFn{M:Model}{A:BM}{E:BJ->BK->Prop}{i:Nat}{x:Str}{v:V}{u:BJ}{Q:Unit->BK->Prop}(I:Inv X pins σ H s)(hN:X.N.Nodup)(hi:X.N[i]? =some x)(hx:Loc X.env.scope x)(r:RelV v u)
  (h:∀s',Inv X pins (σ.set i (some v)) H s'->(∃a,Heap.SameBut a s.heap s'.heap/\(a=X.env.locals\/X.env.cells.lookup x=some a))->Q () s') (hf:X.fn x=true\/X.env.scope.names.lookup x=some .local:=by first|exact .inl rfl|exact .inr rfl|assumption):AK M A (storeName X.env x u) Q E s:=by
 obtain⟨m,hn,hl⟩:=id I.loc;have hcls:(X.env.scope.kind==.class||(X.env.scope.kind==.module&&X.env.locals !=X.env.globals))=false:=by rw[I.ok.kind];rfl
 have hiσ:i<σ.length:=by rw[I.len];exact(aE.mp hi).1
 have cne:=I.cne
 have tracked:∀ {a:BL}{h':BN},(∃o,s.heap.get? a=some o/\H a=none)->Heap.SameBut a s.heap h'->HOk X.prog X.w H h':=λ{a h'} ha hs b ob e=>by
  obtain⟨_,_,hfree⟩:=ha;refine(I.hok b ob e).stay (λc w' hc q=>(hs.2 c ?_).trans q) (λ_ q=>q) λ_ _ q=>q
  rintro rfl
  rcases hc with rfl|hc
  ·rw[hfree] at e;cases e
  ·rw[hfree] at hc;cases hc
 rcases hx with hk|hk
 ·refine wpAny_storeName_local hk hn (λh' hn' hs=> ?_) hcls;obtain⟨oL,_,_,hoL,_⟩:=id hn;refine h _ ⟨I.ok,I.os,I.bare,⟨λb o e n hb hx=> ?_,λb o e n hb hx=> ?_,I.base.free,λb o e hx=> ?_,I.base.tups,I.base.frzs,I.base.tbls⟩,⟨_,hn',λj y v' e1 e2 e3=> ?_⟩,λy c e=> ?_,I.free,I.freeC,λp hp=> ?_,tracked ⟨oL,hoL,I.free⟩ hs,by simpa using I.len⟩ ⟨_,hs,.inl rfl⟩
  ·exact(hs.2 b (bO (aZ (aU e) I.ok.above))).trans (I.base.keep b o e n hb hx)
  ·obtain⟨sl,e1⟩:=I.base.slot b o e n hb hx;exact⟨sl,(hs.2 b (bO (aZ (aU e) I.ok.above))).trans e1⟩
  ·obtain⟨o',e1⟩:=I.base.there b o e hx;exact⟨o',(hs.2 b (bO (aZ (aU e) I.ok.above))).trans e1⟩
  ·by_cases hj:j=i
   ·subst hj;rw[hi] at e1;cases e1;rw[jG hiσ] at e2;cases e2;exact⟨u,r,.inl ⟨hk,by simp⟩⟩
   ·rw[lQ (Ne.symm hj)] at e2;obtain⟨u',r',q⟩:=hl j y v' e1 e2 e3;refine⟨u',r', ?_⟩
    rcases q with⟨k,e⟩|⟨k,c,e,z⟩
    ·refine .inl ⟨k, ?_⟩;have:y≠x:=λe=>hj (aBG hN e1 (e▸hi))
     simp[this,e]
    ·exact .inr ⟨k,c,e,z.sameBut hs (cne y c e)⟩
  ·obtain⟨w',z⟩:=I.cell y c e;exact⟨w',z.sameBut hs (cne y c e)⟩
  ·obtain⟨e,n,ne,nf,d⟩:=I.pin p hp;exact⟨(hs.2 p.1 ne).trans e,n,ne,nf,d⟩
 ·have hfn:X.fn x=true:=by
   rcases hf with z|z
   ·exact z
   ·rw[z] at hk;cases hk
  obtain⟨c,hc⟩:=I.ok.has x (.inl hk);obtain⟨w',z⟩:=I.cell x c hc;refine wpAny_storeName_cell I.ok.kind hk hc z (λh' hc' hs=> ?_);obtain⟨oc,hoc,hocd⟩:=id z;refine h {s with heap:=h'} ⟨I.ok,I.os,I.bare,⟨λb o e n hb hx=> ?_,λb o e n hb hx=> ?_,I.base.free,λb o e hx=> ?_,I.base.tups,I.base.frzs,I.base.tbls⟩,⟨m,hn.sameBut hs (Ne.symm (cne x c hc)),λj y v' e1 e2 e3=> ?_⟩,λy c' e=> ?_,I.free,I.freeC,λp hp=> ?_,tracked ⟨oc,hoc,I.freeC x c hc⟩ hs,by simpa using I.len⟩ ⟨c,hs,.inr hc⟩
  ·exact(hs.2 b (bO (aZ (aU e) (I.ok.cab x c hfn hc)))).trans (I.base.keep b o e n hb hx)
  ·obtain⟨sl,e1⟩:=I.base.slot b o e n hb hx;exact⟨sl,(hs.2 b (bO (aZ (aU e) (I.ok.cab x c hfn hc)))).trans e1⟩
  ·obtain⟨o',e1⟩:=I.base.there b o e hx;exact⟨o',(hs.2 b (bO (aZ (aU e) (I.ok.cab x c hfn hc)))).trans e1⟩
  ·by_cases hj:j=i
   ·subst hj;rw[hi] at e1;cases e1;rw[jG hiσ] at e2;cases e2;exact⟨u,r,.inr ⟨.inl hk,c,hc,hc'⟩⟩
   ·rw[lQ (Ne.symm hj)] at e2;obtain⟨u',r',q⟩:=hl j y v' e1 e2 e3;refine⟨u',r', ?_⟩
    rcases q with q|⟨k,c',e,z'⟩
    ·exact .inl q
    ·refine .inr ⟨k,c',e,z'.sameBut hs ?_⟩;rintro rfl;exact hj (aBG hN e1 (I.ok.inj _ _ _ e hc▸hi))
  ·by_cases hcc:c'=c
   ·subst hcc;exact⟨_,hc'⟩
   ·obtain⟨w2,z2⟩:=I.cell y c' e;exact⟨w2,z2.sameBut hs hcc⟩
  ·obtain⟨e,n,ne,nf,d⟩:=I.pin p hp;refine⟨(hs.2 p.1 ?_).trans e,n,ne,nf,d⟩;intro q;rw[q,hoc] at e;have q':oc=p.2:=cF.inj e;exact d w' (by rw[<-q'];exact hocd)
theorem aBM{M:Model}{A:BM}{E:BJ->BK->Prop}{i:Nat}{x:Str}{v:V}{u:BJ}{Q:Unit->BK->Prop}(I:Inv X pins σ H s)(hN:X.N.Nodup)(hi:X.N[i]? =some x)(hx:Loc X.env.scope x)(r:RelV v u)
  (h:∀s',Inv X pins (σ.set i (some v)) H s'->Q () s') (hf:X.fn x=true\/X.env.scope.names.lookup x=some .local:=by first|exact .inl rfl|exact .inr rfl|assumption):AK M A (storeName X.env x u) Q E s:=
 aFn I hN hi hx r (λs' I' _=>h s' I') hf
theorem Inv.call'{s':BK}{ch:List BL}(I:Inv X pins σ H s)(ho:s'.os=s.os)(u:Un (frs X.stack) ch H H' s.heap s'.heap)(hok:HOk X.prog X.w H' s'.heap)(hg:AllBare s'.gens)
  (hch:∀b∈ch,(b∈X.ex\/X.s₀.heap.objs.size<=b)/\b≠X.env.locals/\(∀x c,X.env.cells.lookup x=some c->c≠b)/\∀p∈X.pn++pins,p.1≠b):Inv X pins σ H' s':=by
 obtain⟨h',g',d',t',o'⟩:=s';have e:o'=s.os:=ho;subst e;exact I.call (g':=g') (t':=t') (d':=d') u hok hg hch
end
noncomputable abbrev XK:=BJ->Option BL->Hp->Prop
noncomputable abbrev St:=List (Option V)
noncomputable abbrev VK:=V->Hp->Prop
noncomputable abbrev TE:=St->Hp->VK->Prop
noncomputable abbrev TT:=St->Hp->(Bool->Hp->Prop)->Prop
noncomputable abbrev TA:=St->Hp->(List V->Hp->Prop)->Prop
structure uO where
 nx:St->Hp->Prop
 rt:VK
 bk:St->Hp->Prop:=λ_ _=>False
 ct:St->Hp->Prop:=λ_ _=>False
noncomputable abbrev TS:=uO->St->Hp->Prop
def EP(X:Cx)(pins:List (BL×BO))(σ:St)(Q:VK)(u:BJ)(s':BK):Prop:=∃v H',Inv X pins σ H' s'/\RelV v u/\Q v H'
def TP(X:Cx)(pins:List (BL×BO))(σ:St)(Q:Bool->Hp->Prop)(b:Bool)(s':BK):Prop:=∃H',Inv X pins σ H' s'/\Q b H'
def AP(X:Cx)(pins:List (BL×BO))(σ:St)(Q:List V->Hp->Prop)(us:List BJ)(s':BK):Prop:=∃vs H',Inv X pins σ H' s'/\Vals vs us/\Q vs H'
def SP(X:Cx)(pins:List (BL×BO))(D:uO)(f:Flow)(s':BK):Prop:=
 match f with
 |.next=>∃σ' H',Inv X pins σ' H' s'/\D.nx σ' H'
 |.brk=>∃σ' H',Inv X pins σ' H' s'/\D.bk σ' H'
 |.cont=>∃σ' H',Inv X pins σ' H' s'/\D.ct σ' H'
 |.ret u=>∃v σ' H',Inv X pins σ' H' s'/\RelV v u/\D.rt v H'
def PE(X:Cx)(e:Expr)(t:TE):Prop:=
 ∀ (pins:List (BL×BO)) (s:BK) (σ:St) (H:Hp) (Q:VK),Inv X pins σ H s->t σ H Q->AK (AH X.prog X.w) X.A (eval e X.env) (EP X pins σ Q) X.xe s
def PT(X:Cx)(e:Expr)(t:TT):Prop:=
 ∀ (pins:List (BL×BO)) (s:BK) (σ:St) (H:Hp) (Q:Bool->Hp->Prop),Inv X pins σ H s->t σ H Q->AK (AH X.prog X.w) X.A (isTrue e X.env (eval e X.env)) (TP X pins σ Q) X.xe s
def PW(X:Cx)(e:Expr)(t:TT):Prop:=
 ∀ (whole:Sem BJ) (pins:List (BL×BO)) (s:BK) (σ:St) (H:Hp) (Q:Bool->Hp->Prop),Inv X pins σ H s->t σ H Q->AK (AH X.prog X.w) X.A (isTrue e X.env whole) (TP X pins σ Q) X.xe s
theorem PW.pt{X:Cx}{e:Expr}{t:TT}(h:PW X e t):PT X e t:=h _
def PA(X:Cx)(es:List Expr)(t:TA):Prop:=
 ∀ (pos:Pos) (pins:List (BL×BO)) (s:BK) (σ:St) (H:Hp) (Q:List V->Hp->Prop),Inv X pins σ H s->t σ H Q->AK (AH X.prog X.w) X.A (spliced (Au pos (AG es X.env))) (AP X pins σ Q) X.xe s
def PS(X:Cx)(st:BP)(t:TS):Prop:=
 ∀ (pins:List (BL×BO)) (s:BK) (σ:St) (H:Hp) (D:uO),Inv X pins σ H s->t D σ H->AK (AH X.prog X.w) X.A (exec st X.env) (SP X pins D) X.xe s
def PSs(X:Cx)(st:List BP)(t:TS):Prop:=
 ∀ (pins:List (BL×BO)) (s:BK) (σ:St) (H:Hp) (D:uO),Inv X pins σ H s->t D σ H->AK (AH X.prog X.w) X.A (execs st X.env) (SP X pins D) X.xe s
theorem thn{α:Type}{t:Sem α}{Q Q':α->BK->Prop}{M:Model}{A:BM}{E:BJ->BK->Prop}{s:BK}(h:AK M A t Q E s)(hQ:∀a s,Q a s->Q' a s):AK M A t Q' E s:=Ag h hQ λ_ _ x=>x
section
variable {X:Cx}
noncomputable def lG(i:Nat):TE:=λσ H Q=>∃v,σ[i]? =some (some v)/\Q v H
noncomputable def tC(v:V):TE:=λ_ H Q=>Q v H
theorem aLR{i:Nat}{x:Str}{pos:Pos}(hN:X.N[i]? =some x)(hv:Vis X.env.scope x)(hd:(x==("__debug__":Str))=false:=by decide)(hcd:(x==("__classdict__":Str))=false:=by decide):PE X (.Name x pos) (lG i):=by
 intro pins s σ H Q I h;obtain⟨v,e,h⟩:=h;obtain⟨m,hn,hl⟩:=I.loc;obtain⟨u,r,l⟩:=hl i x v hN e hv;have fin:EP X pins σ Q u s:=⟨v,H,I,r,h⟩
 rcases l with⟨hk,hm⟩|⟨hk,c,hc,hcell⟩
 ·exact wpAny_Name (wpAny_loadName_local I.ok.kind hk hn hm fin) hd
 ·rcases hk with hk|hk
  ·exact wpAny_Name (wpAny_loadName_cell I.ok.kind hk hc hcell fin) hd
  ·exact wpAny_Name (wpAny_loadName_free I.ok.kind hk hc hcell fin hcd) hd
theorem pe_int{i j pos}:PE X (.Constant (.int i) j pos) (tC (.int i)):=λ_ _ _ H _ I h=>wpAny_Constant_int ⟨.int i,H,I.tok _,⟨_,rfl⟩,h⟩
theorem pe_bl{b j pos}:PE X (.Constant (.bool b) j pos) (tC (.bl b)):=λ_ _ _ H _ I h=>Constant_bool ⟨.bl b,H,I,rfl,h⟩
theorem pe_non{j pos}:PE X (.Constant .none j pos) (tC .non):=λ_ _ _ H _ I h=>Constant_none ⟨.non,H,I,rfl,h⟩
theorem pe_str{x j pos}:PE X (.Constant (.str x) j pos) (tC (.str x)):=λ_ _ _ H _ I h=>Calls.Constant_str ⟨.str x,H,I.tok _,⟨_,rfl⟩,h⟩
def Gl(X:Cx)(x:Str):Prop:=X.env.kindOf x=some .globalImplicit
theorem aDr{E:BJ->BK->Prop}{pins:List (BL×BO)}{s:BK}{σ:St}{H:Hp}{x:Str}{u:BJ}{pos:Pos}{Q:BJ->BK->Prop}(I:Inv X pins σ H s)(hg:Gl X x)(hm:X.mg x=some u)(h:Q u s)
  (hd:(x==("__debug__":Str))=false:=by decide):AK (AH X.prog X.w) X.A (eval (.Name x pos) X.env) Q E s:=
 Calls.Name_function_global I.ok.kind hg (Calls.loadGlobal_global (by rw[I.ok.glob];exact I.mod.glob.keeps I.bk) hm h) hd
theorem pK{E:BJ->BK->Prop}{pins:List (BL×BO)}{s:BK}{σ:St}{H:Hp}{x:Str}{u:BJ}{pos:Pos}{Q:BJ->BK->Prop}(I:Inv X pins σ H s)(hg:Gl X x)(hm:X.mg x=none)(hv:An x=some u)(h:Q u s)
  (hn:x≠"__name__":=by decide) (hd:(x==("__debug__":Str))=false:=by decide):AK (AH X.prog X.w) X.A (eval (.Name x pos) X.env) Q E s:=by
 obtain⟨mb,h1,h2⟩:=I.mod.blt;exact Calls.Name_function_global I.ok.kind hg (Calls.loadGlobal_builtin (by rw[I.ok.glob];exact I.mod.glob.keeps I.bk) hm (by rw[I.ok.blt];exact h1.keeps I.bk) ((h2 x hn).trans hv) h) hd
theorem aDE{x:Str}{v:V}{u:BJ}{pos:Pos}(hg:Gl X x)(hm:X.mg x=some u)(r:RelV v u)(hd:(x==("__debug__":Str))=false:=by decide):PE X (.Name x pos) (tC v):=
 λ_ _ _ H _ I h=>aDr I hg hm ⟨v,H,I,r,h⟩ hd
theorem aKo{x:Str}{v:V}{u:BJ}{pos:Pos}(hg:Gl X x)(hm:X.mg x=none)(hv:An x=some u)(r:RelV v u)(hn:x≠"__name__":=by decide)(hd:(x==("__debug__":Str))=false:=by decide):PE X (.Name x pos) (tC v):=
 λ_ _ _ H _ I h=>pK I hg hm hv ⟨v,H,I,r,h⟩ hn hd
def t2I(ta tb:TE)(k:Int->Int->Hp->Prop):St->Hp->Prop:=λσ H=>ta σ H λx H1=>tb σ H1 λy H2=>∃i j,x=.int i/\y=.int j/\k i j H2
variable {a b:Expr}{ta tb:TE}{pos:Pos}
noncomputable def aKJ(p:Int->Int->Bool)(ta tb:TE):TE:=λσ H Q=>t2I ta tb (λi j H2=>Q (.bl (p i j)) H2) σ H
noncomputable abbrev tLt:TE->TE->TE:=aKJ λi j=>decide (i<j)
noncomputable abbrev tLe:TE->TE->TE:=aKJ λi j=>decide (i<=j)
noncomputable abbrev tGt:TE->TE->TE:=aKJ λi j=>decide (j<i)
noncomputable abbrev tGe:TE->TE->TE:=aKJ λi j=>decide (j<=i)
noncomputable abbrev tEqI:TE->TE->TE:=aKJ λi j=>decide (i=j)
noncomputable abbrev tNeI:TE->TE->TE:=aKJ λi j=> !decide (i=j)
noncomputable def tB(t:TE):TT:=λσ H Q=>t σ H λx H1=>∃c,x=.bl c/\Q c H1
theorem aMy{e:Expr}{t:TE}(h:PE X e t)(he:∀whole,isTrue e X.env whole=(do let v <-whole;standAt e.pos;holding [v] (truthy v)):=by intro _;rfl):PT X e (tB t):=by intro pins s σ H Q I hw;refine isTrue_plain (thn (h pins s σ H _ I hw) λv s1 ⟨x,H1,I1,r1,q1⟩=> ?_) (he _);obtain⟨d,rfl,q⟩:=q1;cases r1;exact AZ ⟨H1,I1,q⟩
variable {tA tB':TT}{rest:List Expr}
noncomputable def tAnd(t u:TT):TT:=λσ H Q=>t σ H λc H1=>if c=true then u σ H1 Q else Q false H1
noncomputable def tOr(t u:TT):TT:=λσ H Q=>t σ H λc H1=>if c=true then Q true H1 else u σ H1 Q
noncomputable def tNot(t:TT):TT:=λσ H Q=>t σ H λc H1=>Q (!c) H1
theorem aKt(ha:PT X a tA):PW X (.BoolOp .And [a] pos) tA:=by
 intro wh pins s σ H Q I h;refine isTrue_and (thn (ha pins s σ H Q I h) λc s1 e=> ?_);cases c with
 |true=>exact isTrue_and_nil e
 |false=>exact e
theorem aMl(ha:PT X a tA):PW X (.BoolOp .Or [a] pos) tA:=by
 intro wh pins s σ H Q I h;refine isTrue_or (thn (ha pins s σ H Q I h) λc s1 e=> ?_);cases c with
 |false=>exact isTrue_or_nil e
 |true=>exact e
theorem aNc(ha:PT X a tA)(hb:PW X (.BoolOp .And (b::rest) pos) tB'):PW X (.BoolOp .And (a::b::rest) pos) (tAnd tA tB'):=by
 intro wh pins s σ H Q I h;refine isTrue_and (thn (ha pins s σ H _ I h) λc s1 ⟨H1,I1,q1⟩=> ?_);cases c with
 |true=>exact hb wh pins s1 σ H1 Q I1 q1
 |false=>exact⟨H1,I1,q1⟩
theorem aOd(ha:PT X a tA)(hb:PW X (.BoolOp .Or (b::rest) pos) tB'):PW X (.BoolOp .Or (a::b::rest) pos) (tOr tA tB'):=by
 intro wh pins s σ H Q I h;refine isTrue_or (thn (ha pins s σ H _ I h) λc s1 ⟨H1,I1,q1⟩=> ?_);cases c with
 |true=>exact⟨H1,I1,q1⟩
 |false=>exact hb wh pins s1 σ H1 Q I1 q1
theorem aMo(ha:PT X a tA):PT X (.UnaryOp .Not a pos) (tNot tA):=by intro pins s σ H Q I h;exact isTrue_not (ha pins s σ H (λc H1=>Q (!c) H1) I h)
noncomputable def aNU(ta tb:TE):TE:=λσ H Q=>ta σ H λx H1=>∃c,x=.bl c/\if c=true then tb σ H1 Q else Q (.bl false) H1
noncomputable def tOrV(ta tb:TE):TE:=λσ H Q=>ta σ H λx H1=>∃c,x=.bl c/\if c=true then Q (.bl true) H1 else tb σ H1 Q
noncomputable def aOn(ta:TE):TE:=λσ H Q=>ta σ H λx H1=>∃c,x=.bl c/\Q (.bl (!c)) H1
theorem aLX{op}{t:TE}(h:PE X a t):PE X (.BoolOp op [a] pos) t:=λpins s σ H Q I hw=>BoolOp_one (h pins s σ H Q I hw)
theorem aMC(ha:PE X a ta)(hb:PE X (.BoolOp .And (b::rest) pos) tb):PE X (.BoolOp .And (a::b::rest) pos) (aNU ta tb):=by
 intro pins s σ H Q I h;refine BoolOp_and (thn (ha pins s σ H _ I h) λv s1 ⟨x,H1,I1,r1,q1⟩=> ?_);obtain⟨c,rfl,q1⟩:=q1;cases r1;refine AZ ?_;cases c with
 |true=>exact hb pins s1 σ H1 Q I1 q1
 |false=>exact⟨.bl false,H1,I1,rfl,q1⟩
theorem aOr(ha:PE X a ta)(hb:PE X (.BoolOp .Or (b::rest) pos) tb):PE X (.BoolOp .Or (a::b::rest) pos) (tOrV ta tb):=by
 intro pins s σ H Q I h;refine BoolOp_or (thn (ha pins s σ H _ I h) λv s1 ⟨x,H1,I1,r1,q1⟩=> ?_);obtain⟨c,rfl,q1⟩:=q1;cases r1;refine AZ ?_;cases c with
 |false=>exact hb pins s1 σ H1 Q I1 q1
 |true=>exact⟨.bl true,H1,I1,rfl,q1⟩
theorem aMf(ha:PE X a ta):PE X (.UnaryOp .Not a pos) (aOn ta):=by intro pins s σ H Q I h;refine UnaryOp_ (thn (ha pins s σ H _ I h) λv s1 ⟨x,H1,I1,r1,q1⟩=> ?_);obtain⟨c,rfl,q1⟩:=q1;cases r1;exact not_of (AZ ⟨.bl (!c),H1,I1,rfl,q1⟩)
end
def SqL(K:aA)(H:Hp)(a:BL)(xs:List V):Prop:=
 Rd H a (.lst xs)\/
  ∃ (o:BO) (its:Array BJ) (n:Nat),K.lookup a=some o/\o.cls=.type "list"/\o.dict=none/\o.data=.seq its n/\its.size<=AL/\Vals xs its.toList
def SqT(K:aA)(H:Hp)(a:BL)(xs:List V):Prop:=
 Rd H a (.tup xs)\/
  ∃ (o:BO) (its:Array BJ) (n:Nat),K.lookup a=some o/\o.cls=.type "tuple"/\o.data=.seq its n/\its.size<=AL/\Vals xs its.toList
noncomputable def absV:BJ->Option V
 |.none=>some .non
 |.bool b=>some (.bl b)
 |.int i _=>some (.int i)
 |.str x _=>some (.str x)
 |.bytes b _=>some (.byt b)
 |.float b _=>some (.flt b)
 |.ref a=>some (.ref a)
 |.type n=>some (.ty n)
 |_=>none
theorem RelV.abs{x:V}{u:BJ}(r:RelV x u):absV u=some x:=by
 cases x with
 |non=>cases r;rfl
 |bl _=>cases r;rfl
 |int _=>obtain⟨t,rfl⟩:=r;rfl
 |str _=>obtain⟨t,rfl⟩:=r;rfl
 |byt _=>obtain⟨t,rfl⟩:=r;rfl
 |flt _=>obtain⟨t,rfl⟩:=r;rfl
 |ref _=>cases r;rfl
 |ty _=>cases r;rfl
theorem RelV.inj{x y:V}{u:BJ}(r:RelV x u)(q:RelV y u):x=y:=cF.inj (r.abs.symm.trans q.abs)
theorem Vals.inj:∀ {xs ys:List V}{us:List BJ},Vals xs us->Vals ys us->xs=ys
 |_,_,_,.nil,.nil=>rfl
 |_,_,_,.cons r t,.cons r' t'=>by rw[r.inj r',Vals.inj t t']
section
variable {X:Cx}{pins:List (BL×BO)}{σ:St}{H:Hp}{s:BK}{a:BL}{xs ys:List V}
theorem SqL.of{K:aA}(h:H a=some (.lst xs)):SqL K H a xs:=.inl (.inl h)
theorem SqT.of{K:aA}(h:H a=some (.tup xs)):SqT K H a xs:=.inl (.inl h)
theorem Inv.list(I:Inv X pins σ H s)(h:SqL X.K H a xs):∃its:List BJ,Vals xs its/\PlainL s.heap a its.toArray/\xs.length<=AL:=by
 rcases h with h|⟨o,its,n,hk,hc,hd,hs,hz,r⟩
 ·obtain⟨z,its,n,r,e⟩:=h.ok I.hok;exact⟨its,r,⟨_,n,e,rfl,rfl,rfl⟩,z⟩
 ·refine⟨its.toList,r,⟨o,n,I.kIn a o hk,hc,hd,by simpa using hs⟩, ?_⟩;have e:=r.length;simp only[cC] at e;omega
theorem Inv.tuple(I:Inv X pins σ H s)(h:SqT X.K H a xs):∃its:List BJ,Vals xs its/\IsTup s.heap a its.toArray/\xs.length<=AL:=by
 rcases h with h|⟨o,its,n,hk,hc,hs,hz,r⟩
 ·obtain⟨z,its,r,p⟩:=h.ok I.hok;exact⟨its,r,p.tup,z⟩
 ·refine⟨its.toList,r,⟨o,I.kIn a o hk,hc,n,by simpa using hs⟩, ?_⟩;have e:=r.length;simp only[cC] at e;omega
theorem Inv.list_inj(I:Inv X pins σ H s)(h:SqL X.K H a xs)(h':SqL X.K H a ys):xs=ys:=by
 obtain⟨its,r,⟨o,n,e,_,_,d⟩,_⟩:=I.list h;obtain⟨its',r',⟨o',n',e',_,_,d'⟩,_⟩:=I.list h';rw[e] at e';cases e';rw[d] at d';injection d' with d1 _
 have:its=its':=by simpa using congrArg aNt d1
 subst this;exact r.inj r'
theorem Inv.tuple_inj(I:Inv X pins σ H s)(h:SqT X.K H a xs)(h':SqT X.K H a ys):xs=ys:=by
 obtain⟨its,r,⟨o,e,_,n,d⟩,_⟩:=I.tuple h;obtain⟨its',r',⟨o',e',_,n',d'⟩,_⟩:=I.tuple h';rw[e] at e';cases e';rw[d] at d';injection d' with d1 _
 have:its=its':=by simpa using congrArg aNt d1
 subst this;exact r.inj r'
end
noncomputable abbrev Cx.wish(X:Cx)(E:BJ->BK->Prop):Cx:={X with xe:=E}
noncomputable abbrev Cx.nox(X:Cx):Cx:=X.wish λ_ _=>False
theorem Cx.Ok.wish{X:Cx}(ok:X.Ok)(E:BJ->BK->Prop):(X.wish E).Ok:=
 ⟨ok.mod,ok.kind,ok.glob,ok.blt,ok.above,ok.inj,ok.has,ok.cab,ok.hd,ok.frames,ok.stk,ok.exf,ok.bs,ok.bsz,ok.noex,ok.exfs,ok.funs,ok.frf⟩
theorem Cx.Ok.unwish{X:Cx}{E:BJ->BK->Prop}(ok:(X.wish E).Ok):X.Ok:=
 ⟨ok.mod,ok.kind,ok.glob,ok.blt,ok.above,ok.inj,ok.has,ok.cab,ok.hd,ok.frames,ok.stk,ok.exf,ok.bs,ok.bsz,ok.noex,ok.exfs,ok.funs,ok.frf⟩
section
variable {X:Cx}{pins:List (BL×BO)}{σ:St}{H:Hp}{s:BK}{E:BJ->BK->Prop}
theorem Inv.wish(I:Inv X pins σ H s)(E:BJ->BK->Prop):Inv (X.wish E) pins σ H s:=⟨I.ok.wish E,I.os,I.bare,I.base,I.loc,I.cell,I.free,I.freeC,I.pin,I.hok,I.len⟩
theorem Inv.unwish(I:Inv (X.wish E) pins σ H s):Inv X pins σ H s:=⟨I.ok.unwish,I.os,I.bare,I.base,I.loc,I.cell,I.free,I.freeC,I.pin,I.hok,I.len⟩
theorem SP.unwish{D:uO}{f:Flow}{s':BK}(h:SP (X.wish E) pins D f s'):SP X pins D f s':=by
 cases f with
 |next=>obtain⟨σ',H',I,q⟩:=h;exact⟨σ',H',I.unwish,q⟩
 |brk=>obtain⟨σ',H',I,q⟩:=h;exact⟨σ',H',I.unwish,q⟩
 |cont=>obtain⟨σ',H',I,q⟩:=h;exact⟨σ',H',I.unwish,q⟩
 |ret u=>obtain⟨v,σ',H',I,r,q⟩:=h;exact⟨v,σ',H',I.unwish,r,q⟩
theorem PSs.nox{st:List BP}{t:TS}(h:PSs X.nox st t):PSs X st t:=λpins s σ H D I hw=>Ag (h pins s σ H D (I.wish _) hw) (λ_ _ q=>q.unwish) λ_ _ z=>False.elim z
end
section
variable {X:Cx}{st:BP}{rest:List BP}{t u:TS}{e:Expr}{te:TE}{pos:Pos}
noncomputable def aOo:TS:=λD σ H=>D.nx σ H
noncomputable def tSeq(t u:TS):TS:=λD σ H=>t {D with nx:=u D} σ H
theorem pss_nil:PSs X [] aOo:=λ_ _ σ H _ I h=>wpAny_execs_nil ⟨σ,H,I,h⟩
theorem aGW(h1:PS X st t)(h2:PSs X rest u):PSs X (st::rest) (tSeq t u):=by
 intro pins s σ H D I h;refine wpAny_execs_cons (thn (h1 pins s σ H {D with nx:=u D} I h) λf s1 q=> ?_);cases f with
 |next=>obtain⟨σ',H',I',q⟩:=q;exact h2 pins s1 σ' H' D I' q
 |ret v=>exact q
 |brk=>exact q
 |cont=>exact q
theorem aJy(h1:PS X st t):PSs X [st] t:=by
 intro pins s σ H D I h;refine wpAny_execs_cons (thn (h1 pins s σ H D I h) λf s1 q=> ?_);cases f with
 |next=>exact wpAny_execs_nil q
 |ret v=>exact q
 |brk=>exact q
 |cont=>exact q
theorem Inv.quiet{pins:List (BL×BO)}{σ:St}{H:Hp}{s:BK}(I:Inv X pins σ H s):interactive X.env=false:=by simp[interactive,I.ok.kind]
noncomputable def aNX(te:TE):TS:=λD σ H=>te σ H λ_ H1=>D.nx σ H1
theorem pW(he:PE X e te)(hs:Ad e none pos.line X.env=pure false:=by rfl):PS X (.Expr e pos) (aNX te):=by intro pins s σ H D I h;exact wpAny_Expr_any (thn (he pins s σ H _ I h) λv s1 ⟨x,H1,I1,r1,q1⟩=>⟨σ,H1,I1,q1⟩) I.quiet hs
noncomputable def tRet(te:TE):TS:=λD σ H=>te σ H D.rt
theorem aHw(he:PE X e te):PS X (.Return (some e) pos) (tRet te):=by intro pins s σ H D I h;exact wpAny_Return_some (thn (he pins s σ H _ I h) λv s1 ⟨x,H1,I1,r1,q1⟩=>⟨x,σ,H1,I1,r1,q1⟩)
noncomputable def tIfS(c:TT)(t u:TS):TS:=λD σ H=>c σ H λb H1=>if b=true then t D σ H1 else u D σ H1
theorem aOf{c:Expr}{a b:List BP}{tc:TT}(hc:PT X c tc)(ha:PSs X a t)(hb:PSs X b u):PS X (.If c a b pos) (tIfS tc t u):=by
 intro pins s σ H D I h;refine wpAny_If (thn (hc pins s σ H _ I h) λd s1 ⟨H1,I1,q1⟩=> ?_);cases d with
 |true=>exact ha pins s1 σ H1 D I1 q1
 |false=>exact hb pins s1 σ H1 D I1 q1
end
noncomputable abbrev TG:=V->St->Hp->(St->Hp->Prop)->Prop
noncomputable abbrev TGs:=List V->St->Hp->(St->Hp->Prop)->Prop
def PG(X:Cx)(target:Expr)(t:TG):Prop:=
 ∀ (pins:List (BL×BO)) (s:BK) (σ:St) (H:Hp) (v:V) (u:BJ) (Q:St->Hp->Prop),Inv X pins σ H s->RelV v u->t v σ H Q->
  AK (AH X.prog X.w) X.A (assign target X.env u) (λ_ s'=>∃σ' H',Inv X pins σ' H' s'/\Q σ' H') X.xe s
def PGs(X:Cx)(ts:List Expr)(t:TGs):Prop:=
 ∀ (pins:List (BL×BO)) (s:BK) (σ:St) (H:Hp) (vs:List V) (us:List BJ) (Q:St->Hp->Prop),Inv X pins σ H s->Vals vs us->t vs σ H Q->
  AK (AH X.prog X.w) X.A (assignInOrder ((BC ts X.env).map (·.2)) us) (λ_ s'=>∃σ' H',Inv X pins σ' H' s'/\Q σ' H') X.xe s
noncomputable abbrev TSet:=V->V->V->Hp->(Hp->Prop)->Prop
noncomputable abbrev TIp:=V->V->Hp->VK->Prop
section
variable {X:Cx}{pos:Pos}
noncomputable def aFV(i:Nat):TG:=λv σ H Q=>Q (σ.set i (some v)) H
theorem bR{i:Nat}{x:Str}(hN:X.N.Nodup)(hi:X.N[i]? =some x)(hx:Loc X.env.scope x)(hf:X.fn x=true\/X.env.scope.names.lookup x=some .local:=by first|exact .inl rfl|exact .inr rfl|assumption):PG X (.Name x pos) (aFV i):=by intro pins s σ H v u Q I r h;exact wpAny_assign_Name (aBM I hN hi hx r (λs' I'=>⟨_,H,I',h⟩) hf)
noncomputable def aON:TGs:=λvs σ H Q=>vs=[]/\Q σ H
noncomputable def aLy(t:TG)(u:TGs):TGs:=λvs σ H Q=>∃v r,vs=v::r/\t v σ H λσ' H'=>u r σ' H' Q
theorem iW:PGs X [] aON:=by intro pins s σ H vs us Q I r h;obtain⟨e,h⟩:=h;subst e;cases r;exact assignInOrder_nil ⟨σ,H,I,h⟩
theorem cN{e:Expr}{es:List Expr}{t:TG}{u:TGs}(h1:PG X e t)(h2:PGs X es u)
  (hs:(BC (e::es) X.env).map (·.2)=assign e X.env::(BC es X.env).map (·.2):=by rfl):PGs X (e::es) (aLy t u):=by
 intro pins s σ H vs us Q I r h;obtain⟨v,vr,e1,h⟩:=h;subst e1;cases r with
 |cons r rr=>rw[hs];refine assignInOrder_cons (thn (h1 pins s σ H _ _ _ I r h) λ_ s1 ⟨σ1,H1,I1,q1⟩=> ?_);exact h2 pins s1 σ1 H1 _ _ Q I1 rr q1
noncomputable def gTup(K:aA)(n:Nat)(t:TGs):TG:=λv σ H Q=>∃a xs,v=.ref a/\SqT K H a xs/\xs.length=n/\t xs σ H Q
theorem aMk{es:List Expr}{k:Nat}{t:TGs}{n:Nat}(hc:X.calm=true)(h:PGs X es t)
  (hn:(BC es X.env).length=n:=by rfl) (hst:(BC es X.env).findIdx? (·.1)=none:=by rfl):PG X (.Tuple es k pos) (gTup X.K n t):=by
 intro pins s σ H v u Q I r hw;obtain⟨a,xs,e1,hq,hl,hw⟩:=hw;subst e1;cases r;obtain⟨its,rv,ht,hz⟩:=I.tuple hq;refine assign_Tuple_tuple (I.ok.hd hc) ht (by simp[hn,<-hl,rv.length]) hst λh' hx=> ?_
 have I1:Inv X pins σ H {s with heap:=h'}:=I.kept (t':=s.toks) λb o e=>hx b o (bO (aU e)) e
 exact h pins _ σ H xs _ Q I1 (by simpa using rv) hw
noncomputable def aOG(te:TE)(g:TG):TS:=λD σ H=>te σ H λx H1=>g x σ H1 D.nx
theorem aMU{tg e:Expr}{te:TE}{g:TG}(he:PE X e te)(hg:PG X tg g)(hs:swapsWithSole [tg] e pos.line X.env=pure false:=by rfl)(hw:swappedStores [tg] e X.env=pure none:=by rfl)
  (h1:(BC [tg] X.env).map (·.2)=[assign tg X.env]:=by rfl):PS X (.Assign [tg] e pos) (aOG te g):=by
 intro pins s σ H D I h;refine wpAny_Assign_stores (thn (he pins s σ H _ I h) λv s1 ⟨x,H1,I1,r1,q1⟩=> ?_) hs hw;rw[h1];exact thn (hg pins s1 σ H1 x v _ I1 r1 q1) λ_ s2 q=>q
theorem qR{i:Nat}{x:Str}{e:Expr}{te:TE}{pos':Pos}(hN:X.N.Nodup)(hi:X.N[i]? =some x)(hx:Loc X.env.scope x)(he:PE X e te)(hs:Ad e (some (.Name x pos')) pos.line X.env=pure false:=by rfl)(hf:X.fn x=true\/X.env.scope.names.lookup x=some .local:=by first|exact .inl rfl|exact .inr rfl|assumption):
  PS X (.Assign [.Name x pos'] e pos) (aOG te (aFV i)):=by
 intro pins s σ H D I h;refine wpAny_Assign_Name (thn (he pins s σ H _ I h) λv s1 ⟨y,H1,I1,r1,q1⟩=> ?_) hs;exact aBM I1 hN hi hx r1 (λs2 I2=>⟨_,H1,I2,q1⟩) hf
noncomputable def aME(c:TT)(tb:TS):TS:=λD σ H=>∃W:Nat->St->Hp->Prop,(∃m,W m σ H)/\∀m σ H,W m σ H->
 c σ H λb H1=>if b=true then ∃N:St->Hp->Prop,(∀σ' H',N σ' H'->∃m',m'<m/\W m' σ' H')/\tb {D with nx:=N,ct:=N,bk:=D.nx} σ H1 else D.nx σ H1
theorem aGj{c:Expr}{body:List BP}{tc:TT}{tb:TS}(hp:PassesOwn (AH X.prog X.w) X.A X.env X.xe)(hc:PT X c tc)(hb:PSs X body tb):PS X (.While c body [] pos) (aME tc tb):=by
 intro pins s σ H D I h;obtain⟨W,⟨m0,w0⟩,turn⟩:=h;refine wpAny_While (codeAny_whileLoop (λn s'=>∃σ' H',Inv X pins σ' H' s'/\W n σ' H') ?_ m0 ⟨σ,H,I,w0⟩);rintro n s1 ⟨σ1,H1,I1,w1⟩;refine As hp (thn (hc pins s1 σ1 H1 _ I1 (turn n σ1 H1 w1)) λb s2 ⟨H2,I2,q2⟩=> ?_);cases b with
 |true=>
  obtain⟨N,hN,q2⟩:=q2;rw[if_pos rfl];refine As hp (thn (hb pins s2 σ1 H2 _ I2 q2) λf s3 q3=> ?_);cases f with
  |next=>obtain⟨σ3,H3,I3,n3⟩:=q3;obtain⟨m',hm,w3⟩:=hN σ3 H3 n3;exact⟨m',hm,σ3,H3,I3,w3⟩
  |cont=>obtain⟨σ3,H3,I3,n3⟩:=q3;obtain⟨m',hm,w3⟩:=hN σ3 H3 n3;exact⟨m',hm,σ3,H3,I3,w3⟩
  |brk=>exact q3
  |ret v=>exact q3
 |false=>rw[if_neg bN];exact wpAny_execs_nil ⟨σ1,H2,I2,q2⟩
end
structure It where
 go:Nat->Hp->Prop
 yld:Nat->Hp->V->Hp->Prop
 stop:Nat->Hp->Prop
def wC(X:Cx)(pins:List (BL×BO))(H:Hp)(b:BL):Prop:=
 H b=none/\b≠X.env.locals/\b∉X.fs/\(b∈X.ex\/X.s₀.heap.objs.size<=b)/\(∀x c,X.env.cells.lookup x=some c->c≠b)/\∀p∈X.pn++pins,p.1≠b
theorem Inv.fpOk{X:Cx}{pins:List (BL×BO)}{σ:St}{H H':Hp}{s:BK}{b:BL}(I:Inv X pins σ H s)(hb:s.heap.objs.size<=b)(hn:H' b=none):wC X pins H' b:=by
 refine⟨hn,iA (aZ I.lt hb),I.nofs hb,.inr (cK I.sz hb),λx c e z=> ?_,λp hp z=> ?_⟩
 ·obtain⟨v,q⟩:=I.cell x c e;exact absurd (aZ q.lt (by rw[z];exact hb)) (fJ _)
 ·exact absurd (aZ (aU (I.pin p hp).1) (by rw[z];exact hb)) (fJ _)
structure aFG(P:AD)(w:AM)(K:aA)(tg:Expr)(J:It)(fp:List BL)(it:BL)(tn:Nat->BN->Prop):Prop where
 mem:it∈fp
 obj:∀i h,tn i h->∀b∈fp,∃o,h.get? b=some o/\∀v,o.data≠ .cell v
 keep:∀i h h',tn i h->(∀b∈fp,∀o,h.get? b=some o->h'.get? b=some o)->tn i h'
 item:∀ (X:Cx),X.prog=P->X.w=w->X.K=K->X.calm=true->∀ (i:Nat) (pins:List (BL×BO)) (s:BK) (σ:St) (H:Hp) (E:BJ->BK->Prop),Inv X pins σ H s->(∀b∈fp,wC X pins H b)->tn i s.heap->J.go i H->
  AK (AH P w) X.A (pyNext (.ref it)) (fun r s1=>∃u,r=some u∧
   AK (AH P w) X.A (letOwnedTupleGo tg (.ref it) u) (λ_ s2=>∃x H',Inv X pins σ H' s2/\RelV x u/\J.yld i H x H'/\tn (i+1) s2.heap/\∀b∈fp,H' b=none) E s1) E s
 done:∀ (X:Cx),X.prog=P->X.w=w->X.K=K->X.calm=true->∀ (i:Nat) (pins:List (BL×BO)) (s:BK) (σ:St) (H:Hp) (E:BJ->BK->Prop),Inv X pins σ H s->(∀b∈fp,wC X pins H b)->tn i s.heap->J.stop i H->
  AK (AH P w) X.A (pyNext (.ref it)) (λr s1=>r=none/\Inv X pins σ H s1) E s
 self:∀ (A:BM) (i:Nat) (s:BK) (Q:BJ->BK->Prop) (E:BJ->BK->Prop),tn i s.heap->Q (.ref it) s->AK (AH P w) A (pyIter (.ref it)) Q E s
noncomputable abbrev TI:=St->Hp->(It->Hp->Prop)->Prop
def PIE(X:Cx)(pins:List (BL×BO))(σ:St)(tg:Expr)(R:It->Hp->Prop)(itv:BJ)(s2:BK):Prop:=
 ∃ (it:BL) (fp:List BL) (tn:Nat->BN->Prop) (J:It) (H':Hp),itv=.ref it/\Inv X pins σ H' s2/\aFG X.prog X.w X.K tg J fp it tn/\tn 0 s2.heap/\(∀b∈fp,wC X pins H' b)/\R J H'
def PI(X:Cx)(tg iter:Expr)(wi:TI):Prop:=
 ∀ (pins:List (BL×BO)) (s:BK) (σ:St) (H:Hp) (R:It->Hp->Prop),Inv X pins σ H s->wi σ H R->
  AK (AH X.prog X.w) X.A (eval iter X.env) (λv s1=>AK (AH X.prog X.w) X.A (pyIter v) (PIE X pins σ tg R) X.xe s1) X.xe s
theorem aFP{M:Model}{A:BM}{E:BJ->BK->Prop}{s:BK}{tg:Expr}{it:BL}{u:BJ}{o:BO}{n:String}{vs:Array BJ}{Q:Unit->BK->Prop}(ho:s.heap.get? it=some o)(hc:o.cls=.type n)(hd:o.data=.fields vs)
  (hn:["enumerate","zip","dict_itemiterator","dict_reverseitemiterator","odict_iterator","itertools.zip_longest","itertools.pairwise"].contains n=false) (hQ:Q () s):AK M A (letOwnedTupleGo tg (.ref it) u) Q E s:=by
 unfold letOwnedTupleGo
 cases tg<;>first
  |exact AB hQ
  | (cases u<;>first
    |exact AB hQ
    | (refine AA (wpAny_load ho ?_)
       rw[hc,hd];show AK M A (if(["enumerate","zip","dict_itemiterator","dict_reverseitemiterator","odict_iterator","itertools.zip_longest","itertools.pairwise"].contains n&&vs[0]? ==some (rawInt _))=true then _ else _) Q E s;rw[if_neg (by intro h;rw[hn,qL] at h;cases h)]
       exact AB hQ))
noncomputable def Itl(K:aA)(a:BL):It:=
 ⟨λi H=>∃xs x,SqL K H a xs/\xs[i]? =some x,λi H x H'=>H'=H/\∀xs,SqL K H a xs->xs[i]? =some x,λi H=>∃xs,SqL K H a xs/\xs.length<=i⟩
noncomputable def Itt(K:aA)(a:BL):It:=
 ⟨λi H=>∃xs x,SqT K H a xs/\xs[i]? =some x,λi H x H'=>H'=H/\∀xs,SqT K H a xs->xs[i]? =some x,λi H=>∃xs,SqT K H a xs/\xs.length<=i⟩
noncomputable def Itr(lo:Int)(n:Nat):It:=⟨λi _=>i<n,λi H x H'=>H'=H/\x=.int (lo+i),λi _=>n<=i⟩
theorem aFm{P:AD}{w:AM}{K:aA}{tg:Expr}(a it:BL):aFG P w K tg (Itl K a) [it] it (λi h=>h.IsListIter it a i) where
 mem:=by simp
 obj:=λi h st b hb=>by
  have e:b=it:=by simpa using hb
  subst e;obtain⟨o,e,c,d⟩:=st;exact⟨o,e,λv z=>by rw[d] at z;cases z⟩
 keep:=λi h h' st k=>st.at λo e=>k it (by simp) o e
 item:=by
  intro X hP hw hK hc i pins s σ H E I hf st hg;subst hP hw hK;obtain⟨xs,x,hq,hx⟩:=hg;obtain⟨its,rv,p,hz⟩:=I.list hq;obtain⟨u,hu,ru⟩:=rv.get hx;obtain⟨f0,f1,f2,f3,f4,f5⟩:=hf it (by simp);refine wpAny_pyNext_list_item st p.isList (x:=u) (by simpa using hu) λh' st' sb=> ?_
  have I1:Inv X pins σ H {s with heap:=h'}:=I.turned (t':=s.toks) (λb o hb e=>(sb.2 b hb).trans e) f0 f1 f3 f4 f5;obtain⟨o,e,c,d⟩:=id st';exact⟨u,rfl,aFP (s:={s with heap:=h'}) e c d (by decide) ⟨x,H,I1,ru,⟨rfl,λys hy=>by rw[I.list_inj hy hq];exact hx⟩,st',λb hb=>(hf b hb).1⟩⟩
 done:=by intro X hP hw hK hc i pins s σ H E I hf st hg;subst hP hw hK;obtain⟨xs,hq,hx⟩:=hg;obtain⟨its,rv,p,hz⟩:=I.list hq;obtain⟨f0,f1,f2,f3,f4,f5⟩:=hf it (by simp);have hl:=rv.length;exact wpAny_pyNext_list_end (I.ok.hd hc) st p.isList (by simp;omega) λh' eb=>⟨rfl,I.turned (t':=s.toks) (λb o hb e=>eb b o hb e) f0 f1 f3 f4 f5⟩
 self:=λ_ _ _ _ _ st h=>wpAny_pyIter_listiter st h
theorem aCu{P:AD}{w:AM}{K:aA}{tg:Expr}(a it:BL):aFG P w K tg (Itt K a) [it] it (λi h=>h.IsTupleIter it a i) where
 mem:=by simp
 obj:=λi h st b hb=>by
  have e:b=it:=by simpa using hb
  subst e;obtain⟨o,e,c,d⟩:=st;exact⟨o,e,λv z=>by rw[d] at z;cases z⟩
 keep:=λi h h' st k=>st.at λo e=>k it (by simp) o e
 item:=by
  intro X hP hw hK hc i pins s σ H E I hf st hg;subst hP hw hK;obtain⟨xs,x,hq,hx⟩:=hg;obtain⟨its,rv,p,hz⟩:=I.tuple hq;obtain⟨u,hu,ru⟩:=rv.get hx;obtain⟨f0,f1,f2,f3,f4,f5⟩:=hf it (by simp);refine wpAny_pyNext_tuple_item st (show s.heap.IsTuple a its.toArray from p) (x:=u) (by simpa using hu) λh' st' sb=> ?_
  have I1:Inv X pins σ H {s with heap:=h'}:=I.turned (t':=s.toks) (λb o hb e=>(sb.2 b hb).trans e) f0 f1 f3 f4 f5;obtain⟨o,e,c,d⟩:=id st';exact⟨u,rfl,aFP (s:={s with heap:=h'}) e c d (by decide) ⟨x,H,I1,ru,⟨rfl,λys hy=>by rw[I.tuple_inj hy hq];exact hx⟩,st',λb hb=>(hf b hb).1⟩⟩
 done:=by intro X hP hw hK hc i pins s σ H E I hf st hg;subst hP hw hK;obtain⟨xs,hq,hx⟩:=hg;obtain⟨its,rv,p,hz⟩:=I.tuple hq;obtain⟨f0,f1,f2,f3,f4,f5⟩:=hf it (by simp);have hl:=rv.length;exact wpAny_pyNext_tuple_end (I.ok.hd hc) st (show s.heap.IsTuple a its.toArray from p) (by simp;omega) λh' eb=>⟨rfl,I.turned (t':=s.toks) (λb o hb e=>eb b o hb e) f0 f1 f3 f4 f5⟩
 self:=λ_ _ _ _ _ st h=>wpAny_pyIter_tupleiter st h
theorem aCl{P:AD}{w:AM}{K:aA}{tg:Expr}(it:BL)(lo:Int)(n:Nat):aFG P w K tg (Itr lo n) [it] it (λi h=>IsRangeIter h it (lo+(i:Nat)*1) ((n:Int)-(i:Nat)) 1) where
 mem:=by simp
 obj:=λi h st b hb=>by
  have e:b=it:=by simpa using hb
  subst e
  exact ⟨_,st,fun v z=>by
   have z':Data.fields _=Data.cell v:=z
   cases z'⟩
 keep:=λi h h' st k=>k it (by simp) _ st
 item:=by
  intro X hP hw hK hc i pins s σ H E I hf st hg;subst hP hw hK;obtain⟨f0,f1,f2,f3,f4,f5⟩:=hf it (by simp);have W:=Walks.range (prog:=X.prog) (w:=X.w) (I.ok.hd hc) it lo 1 n;refine W.item i s _ _ hg st λv h' tk hv st' kk=> ?_
  obtain⟨t,rfl⟩:=hv;have I1:Inv X pins σ H {s with heap:=h',toks:=tk}:=I.turned (λb o hb e=>kk b o (by simpa using hb) e) f0 f1 f3 f4 f5;refine⟨_,rfl,aFP (s:={s with heap:=h',toks:=tk}) (n:="range_iterator") st' rfl rfl (by decide) ⟨.int (lo+i),H,I1,⟨t, ?_⟩,⟨rfl,rfl⟩,st',λb hb=>(hf b hb).1⟩⟩;rw[Int.mul_one]
 done:=by intro X hP hw hK hc i pins s σ H E I hf st hg;subst hP hw hK;obtain⟨f0,f1,f2,f3,f4,f5⟩:=hf it (by simp);exact wpAny_pyNext_range_end (I.ok.hd hc) st (by have:n<=i:=hg;omega) λh' eb=>⟨rfl,I.turned (t':=s.toks) (λb o hb e=>eb b o hb e) f0 f1 f3 f4 f5⟩
 self:=λ_ _ _ _ _ st h=>wpAny_pyIter_rangeiter st h
section
variable {X:Cx}{tg:Expr}
noncomputable def aOg(K:aA)(tl:TE):TI:=λσ H R=>tl σ H λx H1=>∃a,x=.ref a/\(∃xs,SqL K H1 a xs)/\R (Itl K a) H1
noncomputable def iTup(K:aA)(tl:TE):TI:=λσ H R=>tl σ H λx H1=>∃a,x=.ref a/\(∃xs,SqT K H1 a xs)/\R (Itt K a) H1
theorem aJR{l:Expr}{tl:TE}(hl:PE X l tl):PI X tg l (aOg X.K tl):=by
 intro pins s σ H R I h;refine thn (hl pins s σ H _ I h) λv s1 ⟨x,H1,I1,r1,q1⟩=> ?_
 obtain⟨a,e,⟨xs,hq⟩,q⟩:=q1;subst e;cases r1;obtain⟨its,rv,p,hz⟩:=I1.list hq;refine BB p.isList ?_;refine⟨s1.heap.objs.size,[s1.heap.objs.size],_,_,H1,rfl,I1.kept (t':=s1.toks) λb o e=>aI _ e,aFm a _,⟨_,bD _ rfl,rfl,rfl⟩,λb hb=> ?_,q⟩;have e:b=s1.heap.objs.size:=by simpa using hb
 subst e;exact I1.fpOk (aM _) (I1.hok.fresh (aM _))
theorem aLN{l:Expr}{tl:TE}(hl:PE X l tl):PI X tg l (iTup X.K tl):=by
 intro pins s σ H R I h;refine thn (hl pins s σ H _ I h) λv s1 ⟨x,H1,I1,r1,q1⟩=> ?_
 obtain⟨a,e,⟨xs,hq⟩,q⟩:=q1;subst e;cases r1;obtain⟨its,rv,p,hz⟩:=I1.tuple hq;refine wpAny_pyIter_tuple (show s1.heap.IsTuple a its.toArray from p) ?_;refine⟨s1.heap.objs.size,[s1.heap.objs.size],_,_,H1,rfl,I1.kept (t':=s1.toks) λb o e=>aI _ e,aCu a _,⟨_,bD _ rfl,rfl,rfl⟩,λb hb=> ?_,q⟩;have e:b=s1.heap.objs.size:=by simpa using hb
 subst e;exact I1.fpOk (aM _) (I1.hok.fresh (aM _))
theorem aGf{pins:List (BL×BO)}{σ:St}{H:Hp}{s:BK}{R:It->Hp->Prop}{E:BJ->BK->Prop}{lo hi:Int}{t u v:Tok}{tk:Nat}(I:Inv X pins σ H s)(h1: -(2^62)<=lo)(h2:lo<2^62)(h3: -(2^62)<=hi)(h4:hi<2^62)
  (q:R (Itr lo (hi-lo).toNat) H):AK (AH X.prog X.w) X.A (pyIter (.ref s.heap.objs.size)) (PIE X pins σ tg R) E {s with heap:=s.heap.push {cls:=.type "range",data:=.fields #[.int lo t,.int hi u,.int 1 v]},toks:=tk}:=by
 refine wpAny_pyIter_range (IsRange.new ..) (small_one h1 h2 h3 h4) ?_;have I1:Inv X pins σ H {s with heap:=s.heap.push {cls:=.type "range",data:=.fields #[.int lo t,.int hi u,.int 1 v]},toks:=tk}:=I.kept λb o e=>aI _ e
 refine ⟨(s.heap.push {cls:= .type "range",data:= .fields #[.int lo t, .int hi u, .int 1 v]}).objs.size,[(s.heap.push {cls:= .type "range",data:= .fields #[.int lo t, .int hi u, .int 1 v]}).objs.size],_,_,H,rfl,
  I1.kept (t':=tk) λb o e=>aI _ e,aCl _ lo (hi-lo).toNat, ?_,λb hb=> ?_,q⟩
 ·have e1:lo+((0:Nat):Int)*1=lo:=by simp
  have e2:(((hi-lo).toNat:Nat):Int)-((0:Nat):Int)=Builtin.Range.rangeSize lo hi 1:=by rw[rangeSize_one];split<;>omega
  show IsRangeIter _ _ (lo+((0:Nat):Int)*1) ((((hi-lo).toNat:Nat):Int)-((0:Nat):Int)) 1;rw[e1,e2];exact bD _ rfl
 ·have e:b=(s.heap.push {cls:=.type "range",data:=.fields #[.int lo t,.int hi u,.int 1 v]}).objs.size:=by simpa using hb
  subst e;exact I1.fpOk (aM _) (I1.hok.fresh (aM _))
noncomputable def aOq(ta:TA):TI:=λσ H R=>ta σ H λvs H1=>∃j:Int,vs=[.int j]/\ -(2^62)<=j/\j<2^62/\R (Itr 0 j.toNat) H1
theorem aEt{a:Expr}{ta:TA}{p pos:Pos}(hg:Gl X "range")(hm:X.mg "range"=none)(ha:PA X [a] ta)(hs:AG [a] X.env=[(false,eval a X.env)]:=by rfl):PI X tg (.Call (.Name "range" p) [a] [] pos) (aOq ta):=by
 intro pins s σ H R I h;refine Call_ (pK I hg hm boot_range (PyProof.Rows.callWith_type1 (thn (ha pos pins s σ H _ I h) λus s1 ⟨vs,H1,I1,r1,q1⟩=> ?_) hs rfl));obtain⟨j,e,q1,q2,q⟩:=q1;subst e;cases r1 with
 |cons r rr=>cases rr;obtain⟨t,rfl⟩:=r;exact call_range_1 (aGf I1 (by omega) (by omega) q1 q2 (by simpa using q))
noncomputable def tFor(wi:TI)(g:TG)(tb:TS):TS:=λD σ H=>wi σ H λJ H1=>∃W:Nat->Nat->St->Hp->Prop,(∃m,W 0 m σ H1)/\∀i m σ H,W i m σ H->
 (J.stop i H/\D.nx σ H)\/(J.go i H/\∃N:St->Hp->Prop,(∀σ' H',N σ' H'->∃m',m'<m/\W (i+1) m' σ' H')/\∀x H',J.yld i H x H'->g x σ H' λσ2 H2=>tb {D with nx:=N,ct:=N,bk:=D.nx} σ2 H2)
noncomputable def oR(fp:List BL)(h:BN):List (BL×BO):=fp.filterMap λb=>(h.get? b).map λo=>(b,o)
theorem kM{fp:List BL}{h:BN}{b:BL}{o:BO}(hb:b∈fp)(e:h.get? b=some o):(b,o)∈oR fp h:=aHo.mpr ⟨b,hb,by rw[e];rfl⟩
theorem tJ{fp:List BL}{h:BN}{p:BL×BO}(hp:p∈oR fp h):p.1∈fp/\h.get? p.1=some p.2:=by
 obtain⟨b,hb,e⟩:=aHo.mp hp;cases q:h.get? b with
 |none=>rw[q] at e;cases e
 |some o=>rw[q] at e;have e':(b,o)=p:=cF.inj e;subst e';exact⟨hb,q⟩
theorem Inv.pinned{pins:List (BL×BO)}{σ:St}{H:Hp}{s:BK}{fp:List BL}(I:Inv X pins σ H s)(hf:∀b∈fp,wC X pins H b)(ho:∀b∈fp,∃o,s.heap.get? b=some o/\∀v,o.data≠ .cell v):Inv X (pins++oR fp s.heap) σ H s:=
 I.pins_of λp hp=>(aY.mp hp).elim (λz=>I.pin p (aV _ z)) λz=>by obtain⟨hb,e⟩:=tJ z;obtain⟨f0,f1,f2,_⟩:=hf p.1 hb;obtain⟨o,e',d⟩:=ho p.1 hb;rw[e] at e';cases e';exact⟨e,f0,f1,f2,d⟩
theorem Inv.unpinned{pins pl:List (BL×BO)}{σ:St}{H:Hp}{s:BK}(I:Inv X (pins++pl) σ H s):Inv X pins σ H s:=I.pins_of λp hp=>I.pin p (aV _ (bW _ hp))
theorem aHQ{iter:Expr}{body:List BP}{wi:TI}{g:TG}{tb:TS}{pos:Pos}(hp:PassesOwn (AH X.prog X.w) X.A X.env X.xe)(hc:X.calm=true)(hi:PI X tg iter wi)(hg:PG X tg g)(hb:PSs X body tb)
  (hs:∀x,foldedSetIterable iter X.env x=pure x:=by intro _;rfl):PS X (.For tg iter body [] pos) (tFor wi g tb):=by
 intro pins s σ H D I h;refine wpAny_For (thn (hi pins s σ H _ I h) λv s1 h1=>thn h1 λitv s2 h2=> ?_) hs;obtain⟨it,fp,tn,J,H2,e,I2,T,st2,f2,W,⟨m0,w0⟩,turn⟩:=h2;subst e
 have stat:∀ {H':Hp},(∀b∈fp,H' b=none)->∀b∈fp,wC X pins H' b:=λhn b hb=>⟨hn b hb,(f2 b hb).2⟩
 refine codeAny_forLoop_any (λn s'=>∃i σ' H',Inv X pins σ' H' s'/\tn i s'.heap/\(∀b∈fp,H' b=none)/\W i n σ' H') ?_ m0 ⟨0,σ,H2,I2,st2,λb hb=>(f2 b hb).1,w0⟩;rintro n s3 ⟨i,σ3,H3,I3,st3,fr3,w3⟩
 rcases turn i n σ3 H3 w3 with⟨stop,qn⟩|⟨go,N,hN,step⟩
 ·refine As hp (thn (T.done X rfl rfl rfl hc i pins s3 σ3 H3 X.xe I3 (stat fr3) st3 stop) λr s4 ⟨hr,I4⟩=> ?_);subst hr;exact wpAny_execs_nil ⟨σ3,H3,I4,qn⟩
 ·refine As hp (thn (T.item X rfl rfl rfl hc i pins s3 σ3 H3 X.xe I3 (stat fr3) st3 go) λr s4 ⟨u,hr,h4⟩=> ?_);subst hr;refine As hp (thn h4 λ_ s5 ⟨x,H5,I5,r5,y5,st5,fr5⟩=> ?_);have I5':=I5.pinned (stat fr5) (T.obj _ _ st5);refine As hp (thn (hg _ s5 σ3 H5 x u _ I5' r5 (step x H5 y5)) λ_ s6 ⟨σ6,H6,I6,q6⟩=> ?_);refine As hp (thn (hb _ s6 σ6 H6 _ I6 q6) λf s7 q7=> ?_)
  have again:∀ {σ7:St}{H7:Hp},Inv X (pins++oR fp s5.heap) σ7 H7 s7->N σ7 H7->∃m,m<n/\∃i σ' H',Inv X pins σ' H' s7/\tn i s7.heap/\(∀b∈fp,H' b=none)/\W i m σ' H':=λ{σ7 H7} I7 n7=>by obtain⟨m',hm,w7⟩:=hN σ7 H7 n7;refine⟨m',hm,i+1,σ7,H7,I7.unpinned,T.keep _ _ _ st5 λb hb o e=>(I7.pin (b,o) (aV _ (aV _ (kM hb e)))).1,λb hb=> ?_,w7⟩;obtain⟨o,e,d⟩:=T.obj _ _ st5 b hb;exact(I7.pin (b,o) (aV _ (aV _ (kM hb e)))).2.1
  cases f with
  |next=>obtain⟨σ7,H7,I7,n7⟩:=q7;exact again I7 n7
  |cont=>obtain⟨σ7,H7,I7,n7⟩:=q7;exact again I7 n7
  |brk=>obtain⟨σ7,H7,I7,q7⟩:=q7;exact⟨σ7,H7,I7.unpinned,q7⟩
  |ret v=>obtain⟨x7,σ7,H7,I7,r7,q7⟩:=q7;exact⟨x7,σ7,H7,I7.unpinned,r7,q7⟩
end
noncomputable abbrev R2:=V->V->Hp->VK->Prop
def OpR(X:Cx)(f:BJ->BJ->Sem BJ)(r:R2):Prop:=
 ∀ (pins:List (BL×BO)) (s:BK) (σ:St) (H:Hp) (x y:V) (v u:BJ) (Q:VK),Inv X pins σ H s->RelV x v->RelV y u->r x y H Q->
  AK (AH X.prog X.w) X.A (f v u) (EP X pins σ Q) X.xe s
def UnR(X:Cx)(f:BJ->Sem BJ)(r:V->Hp->VK->Prop):Prop:=
 ∀ (pins:List (BL×BO)) (s:BK) (σ:St) (H:Hp) (x:V) (v:BJ) (Q:VK),Inv X pins σ H s->RelV x v->r x H Q->
  AK (AH X.prog X.w) X.A (f v) (EP X pins σ Q) X.xe s
def lY(X:Cx)(f:BJ)(r:List V->Hp->VK->Prop):Prop:=
 ∀ (pins:List (BL×BO)) (s:BK) (σ:St) (H:Hp) (xs:List V) (us:List BJ) (Q:VK),Inv X pins σ H s->Vals xs us->r xs H Q->
  AK (AH X.prog X.w) X.A (call f us) (EP X pins σ Q) X.xe s
noncomputable def tOp(r:R2)(ta tb:TE):TE:=λσ H Q=>ta σ H λx H1=>tb σ H1 λy H2=>r x y H2 Q
noncomputable def tUn(r:V->Hp->VK->Prop)(ta:TE):TE:=λσ H Q=>ta σ H λx H1=>r x H1 Q
noncomputable def rI(C:Int->Int->Prop)(g:Int->Int->V):R2:=λx y H Q=>∃i j,x=.int i/\y=.int j/\C i j/\Q (g i j) H
noncomputable def rI0(g:Int->Int->V):R2:=λx y H Q=>∃i j,x=.int i/\y=.int j/\Q (g i j) H
def rU(g:Int->V):V->Hp->VK->Prop:=λx H Q=>∃i,x=.int i/\Q (g i) H
section
variable {X:Cx}{a b c:Expr}{ta tb tc:TE}{pos:Pos}
theorem aNM(ha:PE X a ta)(hb:PE X b tb){pins:List (BL×BO)}{s:BK}{σ:St}{H:Hp}{R:V->V->Hp->Prop}(I:Inv X pins σ H s)
  (h:ta σ H λx H1=>tb σ H1 λy H2=>R x y H2) {Q:BJ->BK->Prop}{f:BJ->BJ->Sem BJ}
  (hf:∀v u s2 x y H2,Inv X pins σ H2 s2->RelV x v->RelV y u->R x y H2->AK (AH X.prog X.w) X.A (f v u) Q X.xe s2):
  AK (AH X.prog X.w) X.A (eval a X.env) (λv s₁=>AK (AH X.prog X.w) X.A (eval b X.env) (λu s₂=>AK (AH X.prog X.w) X.A (f v u) Q X.xe s₂) X.xe s₁) X.xe s:=by
 refine thn (ha pins s σ H _ I h) λv s1 ⟨x,H1,I1,r1,q1⟩=> ?_
 refine thn (hb pins s1 σ H1 _ I1 q1) λu s2 ⟨y,H2,I2,r2,q2⟩=> ?_
 exact hf v u s2 x y H2 I2 r1 r2 q2
theorem aOb{op:Operator}{r:R2}(ho:OpR X (Ak op) r)(ha:PE X a ta)(hb:PE X b tb):PE X (.BinOp a op b pos) (tOp r ta tb):=by intro pins s σ H Q I h;exact wpAny_BinOp (aNM ha hb I h λv u s2 x y H2 I2 rx ry q=>ho pins s2 σ H2 x y v u Q I2 rx ry q)
theorem aNQ{op:UnaryOp}{r:V->Hp->VK->Prop}(ho:UnR X (unaryOp op) r)(ha:PE X a ta):PE X (.UnaryOp op a pos) (tUn r ta):=by intro pins s σ H Q I h;exact UnaryOp_ (thn (ha pins s σ H _ I h) λv s1 ⟨x,H1,I1,r1,q1⟩=>ho pins s1 σ H1 x v Q I1 r1 q1)
theorem opI{f:BJ->BJ->Sem BJ}{C:Int->Int->Prop}{g:Int->Int->Int}
  (rule:∀ (i j:Int) (t u:Tok) (s:BK) (Q:BJ->BK->Prop) (E:BJ->BK->Prop),C i j->Q (.int (g i j) s.toks) {s with toks:=s.toks+1}->AK (AH X.prog X.w) X.A (f (.int i t) (.int j u)) Q E s):
  OpR X f (rI C λi j=>.int (g i j)):=by
 intro pins s σ H x y v u Q I rx ry h;obtain⟨i,j,rfl,rfl,hc,q⟩:=h;obtain⟨t,rfl⟩:=rx;obtain⟨t',rfl⟩:=ry;exact rule i j t t' s _ _ hc ⟨.int (g i j),H,I.tok _,⟨_,rfl⟩,q⟩
theorem aKS{f:BJ->BJ->Sem BJ}{g:Int->Int->Int}
  (rule:∀ (i j:Int) (t u:Tok) (s:BK) (Q:BJ->BK->Prop) (E:BJ->BK->Prop),Q (.int (g i j) s.toks) {s with toks:=s.toks+1}->AK (AH X.prog X.w) X.A (f (.int i t) (.int j u)) Q E s):
  OpR X f (rI0 λi j=>.int (g i j)):=by
 intro pins s σ H x y v u Q I rx ry h;obtain⟨i,j,rfl,rfl,q⟩:=h;obtain⟨t,rfl⟩:=rx;obtain⟨t',rfl⟩:=ry;exact rule i j t t' s _ _ ⟨.int (g i j),H,I.tok _,⟨_,rfl⟩,q⟩
theorem aNj{f:BJ->BJ->Sem BJ}{g:Int->Int->Bool}
  (rule:∀ (i j:Int) (t u:Tok) (s:BK) (Q:BJ->BK->Prop) (E:BJ->BK->Prop),Q (.bool (g i j)) s->AK (AH X.prog X.w) X.A (f (.int i t) (.int j u)) Q E s):
  OpR X f (rI0 λi j=>.bl (g i j)):=by
 intro pins s σ H x y v u Q I rx ry h;obtain⟨i,j,rfl,rfl,q⟩:=h;obtain⟨t,rfl⟩:=rx;obtain⟨t',rfl⟩:=ry;exact rule i j t t' s _ _ ⟨.bl (g i j),H,I,rfl,q⟩
def CDiv(i j:Int):Prop:=0<j/\j<1073741824
def CPow(i j:Int):Prop:=0<=j/\j<=1000000/\i.natAbs<2^64
def CMul(i j:Int):Prop:=(-(2^64)<i/\i<2^64)\/(-(2^64)<j/\j<2^64)
theorem CMul.ok{i j:Int}(h:CMul i j):IntMulOk i j:=by
 rcases h with⟨h1,h2⟩|⟨h1,h2⟩
 ·exact .of_left (intBits_le_64 h1 h2)
 ·exact .of_right (intBits_le_64 h1 h2)
theorem gY:OpR X (Ak .Add) (rI0 λi j=>.int (i+j)):=aKS λ_ _ _ _ _ _ _ q=>add_int q
theorem qU:OpR X (Ak .Sub) (rI0 λi j=>.int (i-j)):=aKS λ_ _ _ _ _ _ _ q=>sub_int q
theorem aMh:OpR X (Ak .Mult) (rI CMul λi j=>.int (i*j)):=opI λ_ _ _ _ _ _ _ hc q=>mul_int q hc.ok
theorem aKc:OpR X (Ak .FloorDiv) (rI CDiv λi j=>.int (i / j)):=opI λi j _ _ _ _ _ hc q=>by have h1:(0:Int)<j:=hc.1;have h2:j<1073741824:=hc.2;exact floordiv_int (by omega) (by rw[aAi i (by omega)];exact q) (.inl (PyProof.noPylong_small (by omega)))
theorem gP:OpR X (Ak .Mod) (rI (λ_ j=>0<j) λi j=>.int (i%j)):=opI λi j _ _ _ _ _ hc q=>by have h1:(0:Int)<j:=hc;exact mod_int' (by omega) (by rw[Int.fmod_eq_emod_of_nonneg i (by omega)];exact q)
theorem aIm:OpR X (Ak .LShift) (rI CPow λi j=>.int (i*2^j.toNat)):=opI λ_ _ _ _ _ _ _ hc q=>lshift_int_small hc.1 hc.2.1 hc.2.2 q
theorem aHE:OpR X (Ak .BitAnd) (rI0 λi j=>.int (Builtin.bitAnd i j)):=aKS λ_ _ _ _ _ _ _ q=>and_int q
theorem aKW:OpR X (Ak .BitOr) (rI0 λi j=>.int (Builtin.bitOr i j)):=aKS λ_ _ _ _ _ _ _ q=>or_int q
theorem aIi:OpR X (Ak .BitXor) (rI0 λi j=>.int (Builtin.bitXor i j)):=aKS λ_ _ _ _ _ _ _ q=>xor_int q
theorem unI{f:BJ->Sem BJ}{g:Int->Int}
  (rule:∀ (i:Int) (t:Tok) (s:BK) (Q:BJ->BK->Prop) (E:BJ->BK->Prop),Q (.int (g i) s.toks) {s with toks:=s.toks+1}->AK (AH X.prog X.w) X.A (f (.int i t)) Q E s):
  UnR X f (rU λi=>.int (g i)):=by
 intro pins s σ H x v Q I rx h;obtain⟨i,rfl,q⟩:=h;obtain⟨t,rfl⟩:=rx;exact rule i t s _ _ ⟨.int (g i),H,I.tok _,⟨_,rfl⟩,q⟩
theorem aMS:UnR X (unaryOp .USub) (rU λi=>.int (-i)):=unI λ_ _ _ _ _ q=>neg_int q
end
noncomputable def aOP:V->V->Bool
 |.non,.non=>true | .non,.int _=>true | .int _,.non=>true | .non,.bl _=>true | .bl _,.non=>true | .non,.str _=>true | .str _,.non=>true
 |.int _,.int _=>true | .bl _,.bl _=>true | .str _,.str _=>true | .byt _,.byt _=>true
 |.int _,.str _=>true | .str _,.int _=>true | .bl _,.str _=>true | .str _,.bl _=>true
 |_,_=>false
noncomputable def rEq:R2:=λx y H Q=>aOP x y=true/\Q (.bl (decide (x=y))) H
theorem aAy{i j:Int}:decide (V.int i=V.int j)=(i==j):=by rw[iL];simp
theorem aLT{i j:Bool}:decide (V.bl i=V.bl j)=(i==j):=by rw[iL];simp
theorem aJG{i j:Str}:decide (V.str i=V.str j)=(i==j):=by rw[iL];simp
theorem aKi{i j:Array UInt8}:decide (V.byt i=V.byt j)=(i.toList==j.toList):=by rw[iL];cases i;cases j;simp
section
variable {X:Cx}{a b c:Expr}{ta tb tc:TE}{pos:Pos}
theorem kB{pins:List (BL×BO)}{σ:St}{H:Hp}{s:BK}{Q:VK}{k k':Bool}(I:Inv X pins σ H s)(q:Q (.bl k) H)(e:k=k'):EP X pins σ Q (.bool k') s:=by subst e;exact⟨.bl k,H,I,rfl,q⟩
theorem aLd:OpR X (AT .Eq) rEq:=by
 intro pins s σ H x y v u Q I rx ry h;obtain⟨hs,q⟩:=h;cases x with
 |non=>
  cases rx;cases y with
  |non=>cases ry;exact PySem.EqNone.eq_none_none (kB I q (by simp))
  |bl j=>cases ry;exact PySem.EqNone.eq_none_bool (kB I q (by simp))
  |int j=>obtain⟨t',rfl⟩:=ry;exact PySem.EqNone.eq_none_int (kB I q (by simp))
  |str j=>obtain⟨t',rfl⟩:=ry;exact PySem.EqNone.eq_none_str (kB I q (by simp))
  |_=>exact absurd (show false=true from hs) bN
 |bl i=>
  cases rx;cases y with
  |non=>cases ry;exact PySem.EqNone.eq_bool_none (kB I q (by simp))
  |bl j=>cases ry;exact eq_bool (kB I q aLT)
  |str j=>obtain⟨t',rfl⟩:=ry;exact PySem.EqMixed.eq_bool_str (kB I q (by simp))
  |_=>exact absurd (show false=true from hs) bN
 |int i=>
  obtain⟨t,rfl⟩:=rx;cases y with
  |non=>cases ry;exact PySem.EqNone.eq_int_none (kB I q (by simp))
  |int j=>obtain⟨t',rfl⟩:=ry;exact eq_int (kB I q aAy)
  |str j=>obtain⟨t',rfl⟩:=ry;exact PySem.EqMixed.eq_int_str (kB I q (by simp))
  |_=>exact absurd (show false=true from hs) bN
 |str i=>
  obtain⟨t,rfl⟩:=rx;cases y with
  |non=>cases ry;exact PySem.EqNone.eq_str_none (kB I q (by simp))
  |bl j=>cases ry;exact PySem.EqMixed.eq_str_bool (kB I q (by simp))
  |int j=>obtain⟨t',rfl⟩:=ry;exact PySem.EqMixed.eq_str_int (kB I q (by simp))
  |str j=>obtain⟨t',rfl⟩:=ry;exact eq_str (kB I q aJG)
  |_=>exact absurd (show false=true from hs) bN
 |byt i=>
  obtain⟨t,rfl⟩:=rx;cases y with
  |byt j=>obtain⟨t',rfl⟩:=ry;exact PySem.W.eq_bytes (kB I q aKi)
  |_=>exact absurd (show false=true from hs) bN
 |_=>cases y<;>exact absurd (show false=true from hs) bN
theorem aIZ:OpR X (AT .Lt) (rI0 λi j=>.bl (decide (i<j))):=aNj λ_ _ _ _ _ _ _ q=>lt_int q
theorem yI:OpR X (AT .LtE) (rI0 λi j=>.bl (decide (i<=j))):=aNj λ_ _ _ _ _ _ _ q=>le_int q
theorem aFU:OpR X (AT .Gt) (rI0 λi j=>.bl (decide (j<i))):=aNj λ_ _ _ _ _ _ _ q=>gt_int q
theorem aNV:OpR X (AT .GtE) (rI0 λi j=>.bl (decide (j<=i))):=aNj λ_ _ _ _ _ _ _ q=>ge_int q
theorem aLO:OpR X (AT .Is) (λx y H Q=>y=.non/\Q (.bl (decide (x=.non))) H):=by
 intro pins s σ H x y v u Q I rx ry h;obtain⟨rfl,q⟩:=h;cases ry;refine is_none_gen (kB I q ?_)
 cases x<;>first
  |(cases rx;rfl)
  |(obtain⟨t,rfl⟩:=rx;rfl)
theorem OpR.or{f:BJ->BJ->Sem BJ}{r r':R2}(h:OpR X f r)(h':OpR X f r'):OpR X f (λx y H Q=>r x y H Q\/r' x y H Q):=by
 intro pins s σ H x y v u Q I rx ry q
 rcases q with q|q
 ·exact h pins s σ H x y v u Q I rx ry q
 ·exact h' pins s σ H x y v u Q I rx ry q
theorem jI(b:Expr){op:CmpOp}(h:op≠ .In:=by decide)(h2:op≠ .NotIn:=by decide):AV op b=false:=by
 have e1:(op==CmpOp.In)=false:=by cases op<;>first|rfl|exact absurd rfl h
 have e2:(op==CmpOp.NotIn)=false:=by cases op<;>first|rfl|exact absurd rfl h2
 cases b<;>simp[AV,e1,e2]
theorem aDq{op:CmpOp}{r:R2}(ho:OpR X (AT op) r)(ha:PE X a ta)(hb:PE X b tb)(hm:AV op b=false):PE X (.Compare a [op] [b] pos) (tOp r ta tb):=by intro pins s σ H Q I h;exact wpAny_Compare1 (aNM ha hb I h λv u s2 x y H2 I2 rx ry q=>ho pins s2 σ H2 x y v u Q I2 rx ry q) hm
noncomputable def aOa(t:TE):TT:=λσ H Q=>t σ H λx H'=>∃k,x=.bl k/\Q k H'
theorem vI{op:CmpOp}{r:R2}(ho:OpR X (AT op) r)(ha:PE X a ta)(hb:PE X b tb)(hm:AV op b=false):PT X (.Compare a [op] [b] pos) (aOa (tOp r ta tb)):=by
 intro pins s σ H Q I h
 refine wpAny_isTrue_Compare1 (thn (ha pins s σ H _ I h) λv s1 ⟨x,H1,I1,r1,q1⟩=>thn (hb pins s1 σ H1 _ I1 q1) λu s2 ⟨y,H2,I2,r2,q2⟩=>thn (ho pins s2 σ H2 x y v u _ I2 r1 r2 q2) λc s3 ⟨z,H3,I3,r3,k,e,q3⟩=> ?_) hm
 subst e;cases r3;exact AZ ⟨H3,I3,q3⟩
noncomputable def aMO(r r':R2)(ta tb tc:TE):TE:=λσ H Q=>ta σ H λx H1=>tb σ H1 λy H2=>r x y H2 λz H3=>∃k,z=.bl k/\
 (if k=true then tc σ H3 λw' H4=>r' y w' H4 Q else Q (.bl false) H3)
theorem aGq{op op':CmpOp}{r r':R2}(ho:OpR X (AT op) r)(ho':OpR X (AT op') r')(ha:PE X a ta)(hb:PE X b tb)(hc:PE X c tc)
  (hm:lastMarks [op,op'] [b,c]=false:=by with_unfolding_all rfl):PE X (.Compare a [op,op'] [b,c] pos) (aMO r r' ta tb tc):=by
 intro pins s σ H Q I h
 refine Compare_chain (thn (ha pins s σ H _ I h) λv s1 ⟨x,H1,I1,r1,q1⟩=>chain_link (thn (hb pins s1 σ H1 _ I1 q1) λu s2 ⟨y,H2,I2,r2,q2⟩=>thn (ho pins s2 σ H2 x y v u _ I2 r1 r2 q2) λd s3 ⟨z,H3,I3,r3,k,e,q3⟩=> ?_)) hm
 subst e;cases r3;refine AZ ?_;cases k with
 |false=>exact ite_ff ⟨.bl false,H3,I3,rfl,q3⟩
 |true=>exact ite_tt (chain_last (thn (hc pins s3 σ H3 _ I3 q3) λw' s4 ⟨z',H4,I4,r4,q4⟩=>ho' pins s4 σ H4 y z' u w' Q I4 r2 r4 q4))
theorem aCT:(AL:Nat)<2^63:=by rw[Ao];decide
theorem pO{x:V}{us:List BJ}(r:Vals [x] us):∃u,us=[u]/\RelV x u:=by
 cases r with
 |cons r1 r2=>cases r2;exact⟨_,rfl,r1⟩
theorem aOi{x y:V}{us:List BJ}(r:Vals [x,y] us):∃u w',us=[u,w']/\RelV x u/\RelV y w':=by
 cases r with
 |cons r1 r2=>
  cases r2 with
  |cons r3 r4=>cases r4;exact⟨_,_,rfl,r1,r3⟩
end
structure ObjM(h:BN)(x dx C:BL)(mA:Str->Option BJ):Prop where
 obj:h.get? x=some (uU C dx)
 ns:h.Ns1 dx mA
 ne:dx≠x
theorem aEr{h:BN}{dx:BL}{mA:Str->Option BJ}(n:h.Ns1 dx mA):∃od,h.get? dx=some od/\∀name,xT name od=some (mA name):=by
 obtain⟨o,es,ep,ho,hd,hk,_,hm⟩:=n;refine⟨o,ho,λname=> ?_⟩;have e:=hm name;unfold nsFind findBy at e;rw[<-Array.find?_toList] at e;unfold xT;rw[hd];dsimp only
 split
 ·rename_i y q;rw[q] at e;exact congrArg some e
 ·rename_i q;rw[q] at e
  have a:es.toList.any (·.refKey)=false:=by rw[aIw];intro y hy;obtain⟨z,t,hkey⟩:=hk y (Array.mem_toList_iff.mp hy);simp[DictEntry.refKey,hkey]
  have a':¬ es.toList.any (·.refKey)=true:=by rw[a];exact bN
  rw[if_neg a'];exact congrArg some e
theorem ObjM.look{h:BN}{x dx C:BL}{mA:Str->Option BJ}(I:ObjM h x dx C mA):∃od,PySem.W.InstAt h x (uU C dx) C (some od)/\∀name,xT name od=some (mA name):=
 let ⟨od,ho,hl⟩:=aEr I.ns
 ⟨od,⟨I.obj,rfl,rfl,ho⟩,hl⟩
theorem RelO.some_of{v:V}{o:Option BJ}(r:RelO (some v) o):∃u,o=some u/\RelV v u:=by
 cases o with
 |none=>exact(show False from r).elim
 |some u=>exact⟨u,rfl,r⟩
section
variable {P:AD}{w:AM}{H H':Hp}{h h':BN}{a C dx:BL}{fs fs':List (Str×V)}
theorem aJd(hok:HOk P w H h)(e:H a=some (.ins C dx fs)):∃mA,ObjM h a dx C mA/\(∀f,RelO (fs.lookup f) (mA f))/\PySem.Within mA (fs.map (·.1))/\fs.length<=1000/\H dx=some (.own a):=by obtain⟨d,z,ne,ob,mA,n,r,q⟩:=(show ObjOk P w H h a (.ins C dx fs) from hok a _ e);exact⟨mA,⟨ob,n,ne⟩,r,q,z,d⟩
end
structure Cls(K:aA)(C:BL):Prop where
 pg:aFD K C Str.empty=true
 hd:PySem.W.hasDictIn K C=true
 po:PySem.W.plainOver K C=true
 sa:mL K (.ref C) "__setattr__"=some (some (.builtin "object.__setattr__"))
theorem Cls.get{K:aA}{C:BL}(c:Cls K C)(f:Str):aFD K C f=true:=c.pg
structure Con(K:aA)(C:BL)(f:Str)(v:V)(u:BJ):Prop where
 at_:mL K (.ref C) f=some (some u)
 rel:RelV v u
 get:aFv K u "__get__"=some none
 cp:PySem.W.copiedNames.contains f=false
structure Meth(K:aA)(C:BL)(m:Str)(f:BL):Prop where
 at_:mL K (.ref C) m=some (some (.ref f))
 fn:aKP K (.ref f)=true
 kp:eM K (.ref f)=true
section
variable {X:Cx}{pins:List (BL×BO)}{σ:St}{H:Hp}{s:BK}{A:BM}{E:BJ->BK->Prop}{Q:BJ->BK->Prop}{c:BJ}{b:Bool}
inductive rR(K:aA)(H:Hp):V->BJ->Prop where
 |non:rR K H .non (.type "NoneType")
 |bl (x:Bool):rR K H (.bl x) (.type "bool")
 |int (i:Int):rR K H (.int i) (.type "int")
 |str (x:Str):rR K H (.str x) (.type "str")
 |flt (x:UInt64):rR K H (.flt x) (.type "float")
 |lst {a:BL}{xs:List V} (e:H a=some (.lst xs)):rR K H (.ref a) (.type "list")
 |frz {a:BL}{o:BO}{xs:List V} (e:H a=some (.frz o (.lst xs))):rR K H (.ref a) (.type "list")
 |tup {a:BL}{xs:List V} (e:H a=some (.tup xs)):rR K H (.ref a) (.type "tuple")
 |dK {a:BL}{kvs:List (Key×V)} (e:Rd H a (.dK kvs)):rR K H (.ref a) (.type "dict")
 |dT {a:BL}{kvs:List (List Key×V)} (e:H a=some (.dT kvs)):rR K H (.ref a) (.type "dict")
 |ins {a C dx:BL}{fs:List (Str×V)} (e:H a=some (.ins C dx fs)) (cl:Cls K C) (ha:mL K (.ref C) "__class__"=some (some (.builtin "object.__class__")))
   (hn:aFv K (.builtin "object.__class__") "__get__"=some (some (.builtin "getset_descriptor.__get__"))) (htk:PySem.W.takesIn K (.builtin "object.__class__")=some true)
   (hm:PySem.W.mroIn K C (.type "object")=some true):rR K H (.ref a) (.ref C)
theorem aEB{x:V}{u t:BJ}(I:Inv X pins σ H s)(rx:RelV x u)(ty:rR X.K H x t)(e:fY X.K t c=some b)(h:∀tk,Q (.bool b) {s with toks:=tk}):
  AK (AH X.prog X.w) A (call (.builtin "isinstance") [u,c]) Q E s:=by
 cases ty with
 |non=>cases(show u=Value.none from rx);exact fU PySem.W.kitx_none I.kIn True.intro e (λz=>nomatch z) h
 |bl y=>cases(show u=Value.bool y from rx);exact fU PySem.W.kitx_bool I.kIn True.intro e (λz=>nomatch z) h
 |int i=>obtain⟨t,q⟩:=(show ∃t,u=Value.int i t from rx);cases q;exact fU PySem.W.kitx_int I.kIn True.intro e (λz=>nomatch z) h
 |str y=>obtain⟨t,q⟩:=(show ∃t,u=Value.str y t from rx);cases q;exact fU PySem.W.kitx_str I.kIn True.intro e (λz=>nomatch z) h
 |flt y=>obtain⟨t,q⟩:=(show ∃t,u=Value.float y t from rx);cases q;exact fU PySem.W.kitx_float I.kIn True.intro e (λz=>nomatch z) h
 |@lst a xs ea=>cases(show u=Value.ref a from rx);obtain⟨_,_,n,_,h1⟩:=(show ObjOk X.prog X.w H s.heap a (.lst xs) from I.hok a _ ea);exact fU aFw I.kIn ⟨_,h1,rfl⟩ e (λz=>nomatch z) h
 |@frz a ob xs ea=>cases(show u=Value.ref a from rx);obtain⟨_,_,_,n,_,h1⟩:=(show ObjOk X.prog X.w H s.heap a (.frz ob (.lst xs)) from I.hok a _ ea);exact fU aFw I.kIn ⟨_,h1,rfl⟩ e (λz=>nomatch z) h
 |@tup a xs ea=>cases(show u=Value.ref a from rx);obtain⟨_,_,_,p⟩:=(show ObjOk X.prog X.w H s.heap a (.tup xs) from I.hok a _ ea);obtain⟨o,h1,h2,_⟩:=p;exact fU PySem.W.kitx_tuple I.kIn ⟨o,h1,h2⟩ e (λz=>nomatch z) h
 |@dK a kvs ea=>cases(show u=Value.ref a from rx);obtain⟨_,_,vs,_,p⟩:=(show ObjOk X.prog X.w H s.heap a (.dK kvs) from ea.ok I.hok);obtain⟨o,es,ep,h1,h2,_⟩:=p;exact fU aFx I.kIn ⟨o,h1,h2.1⟩ e (λz=>nomatch z) h
 |@dT a kvs ea=>cases(show u=Value.ref a from rx);obtain⟨_,_,xs,_,o,es,ep,h1,h2,_⟩:=(show ObjOk X.prog X.w H s.heap a (.dT kvs) from I.hok a _ ea);exact fU aFx I.kIn ⟨o,h1,h2.1⟩ e (λz=>nomatch z) h
 |@ins a C dx fs ea cl ha hn htk hm=>cases(show u=Value.ref a from rx);obtain⟨mA,O,_⟩:=aJd I.hok ea;obtain⟨od,J,_⟩:=O.look;exact fU (PySem.W.kitx_own (cl.get _) cl.hd ha hn htk hm) I.kIn J e (λz=>nomatch z) h
end
structure Room(k:Nat)(A:BM):Prop where
 hd:A.handled=none
 dp:A.depth+3*k+5<recursionLimit
 un:A.units+16*k+200<AO
 gd:A.guards=some []
theorem Room.mono{j k:Nat}{A:BM}(r:Room k A)(h:j<=k):Room j A:=⟨r.hd,by have:=r.dp;omega,by have:=r.un;omega,r.gd⟩
theorem Room.deeper{k:Nat}{A:BM}(r:Room (k+1) A)(env:Env):Room k (A.deeper env):=
 ⟨r.hd,by have:=r.dp;show A.depth+1+3*k+5<_;omega,by have:=r.un;show A.units+3+16*k+200<_;omega,r.gd⟩
theorem Room.depth{k:Nat}{A:BM}(r:Room k A):A.depth<recursionLimit:=by have:=r.dp;omega
noncomputable def uA:TA:=λ_ H Q=>Q [] H
noncomputable def lD(ta:TE)(tr:TA):TA:=λσ H Q=>ta σ H λx H1=>tr σ H1 λxs H2=>Q (x::xs) H2
section
variable {X:Cx}{e:Expr}{es:List Expr}{te:TE}{t:TA}{pos:Pos}
theorem pa_nil:PA X [] uA:=λ_ _ _ _ H Q I h=>Calls.spliced_nil ⟨[],H,I,.nil,h⟩
theorem fX(ha:PE X e te)(hr:PA X es t)(hs:AG (e::es) X.env=(false,eval e X.env)::AG es X.env:=by rfl):PA X (e::es) (lD te t):=by intro pos pins s σ H Q I h;rw[hs];show AK _ _ (spliced ((false,eval e X.env)::Au pos (AG es X.env))) _ _ s;refine Calls.spliced_cons (thn (ha pins s σ H _ I h) λu s1 ⟨x,H1,I1,r1,q1⟩=> ?_);exact thn (hr pos pins s1 σ H1 _ I1 q1) λus s2 ⟨xs,H2,I2,r2,q2⟩=>⟨x::xs,H2,I2,.cons r1 r2,q2⟩
noncomputable def aOO(t:TA):TE:=λσ H Q=>t σ H λxs H1=>xs.length<=AL/\∀p,H1 p=none->Q (.ref p) (upd H1 p (.tup xs))
noncomputable def tLst(t:TA):TE:=λσ H Q=>t σ H λxs H1=>xs.length<=AL/\∀p,H1 p=none->Q (.ref p) (upd H1 p (.lst xs))
theorem aHP{x1}(h:PA X es t):PE X (.Tuple es x1 pos) (aOO t):=by intro pins s σ H Q I hq;refine wpAny_Tuple_spliced (thn (h pos pins s σ H _ I hq) λus s1 ⟨xs,H1,I1,r,z,q⟩=>⟨by rw[<-r.length];exact z, ?_⟩);have hf:H1 s1.heap.objs.size=none:=I1.hok.fresh (aM _);refine⟨.ref s1.heap.objs.size,upd H1 s1.heap.objs.size (.tup xs),I1.laid (t':=s1.toks) (λb u e=>aI _ e) (aM _) ?_,rfl,q _ hf⟩;exact⟨z,us,r,IsTupD.new _ _⟩
theorem aMx(h:PA X es t):PE X (.List es pos) (tLst t):=by intro pins s σ H Q I hq;refine wpAny_List_spliced (thn (h pos pins s σ H _ I hq) λus s1 ⟨xs,H1,I1,r,z,q⟩=>⟨by rw[<-r.length];exact z, ?_⟩);have hf:H1 s1.heap.objs.size=none:=I1.hok.fresh (aM _);refine⟨.ref s1.heap.objs.size,upd H1 s1.heap.objs.size (.lst xs),I1.laid (t':=s1.toks) (λb u e=>aI _ e) (aM _) ?_,rfl,q _ hf⟩;exact⟨z,us,0,r,bD _ rfl⟩
end
noncomputable abbrev Sp:=List V->Hp->VK->XK->Prop
noncomputable abbrev CXT:=List Env->Hp->BK->XK->BJ->BK->Prop
structure aKK(P:AD)(w:AM)(K:aA)(mg:Str->Option BJ)(base:BN)(A:BM)(outer:List Env)(s:BK)(H:Hp):Prop where
 frames:A.frames=some outer
 mod:Mod K mg base
 bs:∀b o,base.get? b=some o->s.heap.get? b=some o/\H b=none
 bsz:base.objs.size<=s.heap.objs.size
 funs:s.heap.FunFrames base outer
 frf:∀b∈frs outer,H b=none
 hok:HOk P w H s.heap
 bare:AllBare s.gens
def CE(outer:List Env)(P:AD)(w:AM)(H:Hp)(s:BK)(Q:VK)(u:BJ)(s':BK):Prop:=
 ∃v H',s'.os=s.os/\AllBare s'.gens/\Un (frs outer) [] H H' s.heap s'.heap/\HOk P w H' s'.heap/\RelV v u/\Q v H'
def CR(CX:CXT)(outer:List Env)(P:AD)(w:AM)(H:Hp)(s:BK)(Q:VK)(E:XK)(r:Result)(s':BK):Prop:=
 match r with
 |.ok (.ret u)=>CE outer P w H s Q u s'
 |.ok _=>False
 |.error e=>CX outer H s E e s'
structure FnOk(P:AD)(w:AM)(K:aA)(mg:Str->Option BJ)(base:BN)(CX:CXT)(k:Nat)(f:BL)(fd:AX)(ps:List Str)(sp:Sp):Prop where
 len:∀vs H Q E,sp vs H Q E->vs.length=ps.length
 run:∀ (A:BM) (outer:List Env) (s:BK) (H:Hp) (args:Args) (us:List BJ) (vs:List V) (Q:VK) (E:XK),Room k A->aKK P w K mg base A outer s H->BindsTo s fd args (ps.zip us)->Vals vs us->sp vs H Q E->
  codeAny (AH P w) A (.call (.ref f) args) (CR CX outer P w H s Q E) s
section
variable {X:Cx}{pins:List (BL×BO)}{σ:St}{H:Hp}{s s':BK}
theorem Inv.env0(I:Inv X pins σ H s):aKK X.prog X.w X.K X.mg X.base X.A X.stack s H:=
 ⟨I.ok.frames,I.ok.mod,I.bs,cK I.ok.bsz I.sz,I.stack,I.stkFree,I.hok,I.bare⟩
theorem Inv.after{Q:VK}{u:BJ}(I:Inv X pins σ H s)(h:CE X.stack X.prog X.w H s Q u s'):EP X pins σ Q u s':=by obtain⟨v,H',os,bare,un,hok,r,q⟩:=h;obtain⟨hh,g,d,t,os'⟩:=s';obtain rfl:os'=s.os:=os;exact⟨v,H',I.call (h':=hh) (g':=g) (d':=d) (t':=t) (ch:=[]) un hok bare (λb z=>absurd z (by simp)),r,q⟩
end
noncomputable def aOu(sp:Sp)(dvs:List V)(E:XK)(t:TA):TE:=λσ H Q=>t σ H λvs H1=>sp (vs++dvs) H1 Q E
def Binds(K:aA)(fd:AX)(ps:List Str)(ds:List BJ):Prop:=
 ∀ (s:BK) (us:List BJ),K.In s.heap->(us++ds).length=ps.length->BindsTo s fd ⟨us,[]⟩ (ps.zip (us++ds))
theorem Binds.all{K:aA}{fd:AX}{ps:List Str}(h:∀us:List BJ,us.length=ps.length->bindArgs fd ⟨us,[]⟩=pure (ps.zip us)):Binds K fd ps []:=λs us _ hl=>by rw[dD] at hl ⊢;exact .of_eq (h us hl)
def aDc(CX:CXT)(X:Cx)(E:XK):Prop:=∀ (pins:List (BL×BO)) (σ:St) (H:Hp) (s:BK) (e:BJ) (s':BK),Inv X pins σ H s->CX X.stack H s E e s'->X.xe e s'
section
variable {X:Cx}{CX:CXT}{k:Nat}{f C:BL}{fd:AX}{ps:List Str}{sp:Sp}{dvs:List V}{ds:List BJ}{E:XK}{x m:Str}{p pos apos:Pos}{e o:Expr}{es:List Expr}{ta:TE}{t:TA}
theorem aMW{pins:List (BL×BO)}{σ:St}{H:Hp}{s:BK}{Q:VK}{us:List BJ}{vs:List V}(F:FnOk X.prog X.w X.K X.mg X.base CX k f fd ps sp)(hr:Room k X.A)(hb:Binds X.K fd ps ds)(hd:Vals dvs ds)(hx:aDc CX X E)
  (I:Inv X pins σ H s) (r:Vals vs us) (h:sp (vs++dvs) H Q E):AK (AH X.prog X.w) X.A (call (.ref f) us) (EP X pins σ Q) X.xe s:=by
 have r2:Vals (vs++dvs) (us++ds):=r.append hd;have hl:(us++ds).length=ps.length:=by rw[<-r2.length];exact F.len _ _ _ _ h
 refine wpAny_call (codeAny_mono (F.run X.A X.stack s H ⟨us,[]⟩ (us++ds) (vs++dvs) Q E hr I.env0 (hb s us I.kIn hl) r2 h) λr s' hq=> ?_);cases r with
 |error e=>exact hx pins σ H s e s' I hq
 |ok fl=>
  cases fl with
  |ret u=>exact I.after hq
  |next=>exact False.elim hq
  |brk=>exact False.elim hq
  |cont=>exact False.elim hq
theorem aDR(F:FnOk X.prog X.w X.K X.mg X.base CX k f fd ps sp)(hr:Room k X.A)(hg:Gl X x)(hm:X.mg x=some (.ref f))(hk:eM X.K (.ref f)=true)(hb:Binds X.K fd ps ds)(hd:Vals dvs ds)(hx:aDc CX X E)
  (ha:PA X (e::es) t) (hdb:(x==("__debug__":Str))=false:=by decide) (he:AG (e::es) X.env=(false,eval e X.env)::AG es X.env:=by rfl) (hpl:(Au pos (AG es X.env)).any (·.1)=false:=by rfl):
  PE X (.Call (.Name x p) (e::es) [] pos) (aOu sp dvs E t):=by
 intro pins s σ H Q I h;refine Ap (aDr I hg hm ?_ hdb);refine PySem.W.callWith_K (h₀:=X.base) I.ok.mod.kin hk (thn (ha pos pins s σ H _ I h) λus s1 ⟨vs,H1,I1,r,q⟩=>⟨I1.kIn, ?_⟩) he hpl;exact aMW F hr hb hd hx I1 r q
structure Mk(K:aA)(C f:BL):Prop where
 makes:PySem.W.makesIn K C=true
 init:mL K (.ref C) "__init__"=some (some (.ref f))
 fn:aKP K (.ref f)=true
 kp:eM K (.ref C)=true
end
section
variable {X:Cx}{CX:CXT}{k:Nat}{f C:BL}{fd:AX}{ps ks:List Str}{sp:Sp}{E:XK}{x m:Str}{p pos apos kpos:Pos}{e o:Expr}{es:List Expr}{kws:List Keyword}{te ta:TE}{t tk:TA}{nm:Option Str}
structure aPc(K:aA)(fd:AX)(ps ks:List Str)(g:List BJ->List BJ->List BJ)(gV:List V->List V->List V):Prop where
 to:∀ (s:BK) (us ws:List BJ),K.In s.heap->(g us ws).length=ps.length->BindsTo s fd ⟨us,ks.zip ws⟩ (ps.zip (g us ws))
 rel:∀ {vs:List V}{us:List BJ}{zs:List V}{ws:List BJ},Vals vs us->Vals zs ws->Vals (gV vs zs) (g us ws)
variable {g:List BJ->List BJ->List BJ}{gV:List V->List V->List V}
end
structure pY(N P:List Str)(sc:Scope):Prop where
 kind:sc.kind=.function
 co:sc.isCoroutine=false
 gen:sc.isGenerator=false
 nd:N.Nodup
 pre:N.take P.length=P
 par:∀x∈P,sc.names.lookup x=some .local\/sc.names.lookup x=some .cell
 nofree:∀y∈sc.names,y.2≠ .free
theorem yF{kindOf:Str->Option NameKind}{x:Str}:∀ {binds:List (Str×BJ)}{m:Str->Option BJ},(∀v,(x,v)∉binds)->bindL kindOf binds m x=m x
 |[],_,_=>rfl
 |(n,v)::r,m,h=>by
  unfold bindL;rw[yF λw hw=>h w (aF _ hw)]
  split
  ·have:x≠n:=by rintro rfl;exact h v aH
   simp[this]
  ·rfl
theorem yR{kindOf:Str->Option NameKind}{x:Str}:∀ {binds:List (Str×BJ)}{m:Str->Option BJ},(∀v,(x,v)∉binds)->bindC kindOf binds m x=m x
 |[],_,_=>rfl
 |(n,v)::r,m,h=>by
  unfold bindC;rw[yR λw hw=>h w (aF _ hw)]
  split
  ·rfl
  ·have:x≠n:=by rintro rfl;exact h v aH
   simp[this]
theorem yY{kindOf:Str->Option NameKind}{x:Str}{v:BJ}:∀ {P:List Str}{vs:List BJ}{i:Nat}{m:Str->Option BJ},P.Nodup->P[i]? =some x->vs[i]? =some v->kindOf x=some .local->
  bindL kindOf (P.zip vs) m x=some v
 |[],_,_,_,_,h,_,_=>by simp at h
 |_::_,[],_,_,_,_,h,_=>by simp at h
 |p::P,w::vs,0,m,nd,h1,h2,hk=>by simp at h1 h2;subst h1;subst h2;show bindL kindOf ((p,w)::P.zip vs) m p=_;unfold bindL;rw[yF λv hv=>(bG.mp nd).1 (xU hv).1,if_pos hk];simp
 |p::P,w::vs,i+1,m,nd,h1,h2,hk=>by show bindL kindOf ((p,w)::P.zip vs) m x=_;unfold bindL;exact yY (i:=i) (bG.mp nd).2 (by simpa using h1) (by simpa using h2) hk
theorem zI{kindOf:Str->Option NameKind}{x:Str}{v:BJ}:∀ {P:List Str}{vs:List BJ}{i:Nat}{m:Str->Option BJ},P.Nodup->P[i]? =some x->vs[i]? =some v->kindOf x≠some .local->
  bindC kindOf (P.zip vs) m x=some v
 |[],_,_,_,_,h,_,_=>by simp at h
 |_::_,[],_,_,_,_,h,_=>by simp at h
 |p::P,w::vs,0,m,nd,h1,h2,hk=>by simp at h1 h2;subst h1;subst h2;show bindC kindOf ((p,w)::P.zip vs) m p=_;unfold bindC;rw[yR λv hv=>(bG.mp nd).1 (xU hv).1,if_neg hk];simp
 |p::P,w::vs,i+1,m,nd,h1,h2,hk=>by show bindC kindOf ((p,w)::P.zip vs) m x=_;unfold bindC;exact zI (i:=i) (bG.mp nd).2 (by simpa using h1) (by simpa using h2) hk
noncomputable def start(N:List Str)(vs:List V):St:=vs.map some++gS (N.length-vs.length) none
noncomputable def nO(CX:CXT)(P:AD)(w:AM)(K:aA)(mg:Str->Option BJ)(base:BN)(N:List Str)(qual:Str)(scope:Scope)(f:BL)(cd:BJ)(A:BM)(outer:List Env)(s:BK)(H:Hp)(E:XK):Cx where
 prog:=P
 w:=w
 K:=K
 mg:=mg
 base:=base
 A:=A.deeper (Ah qual scope s.heap.objs.size f cd)
 N:=N
 s₀:=s
 H₀:=H
 env:=Ah qual scope s.heap.objs.size f cd
 outer:=outer
 stack:=Ah qual scope s.heap.objs.size f cd::outer
 ex:=[]
 calm:=true
 fn:=λ_=>true
 pn:=[]
 xe:=λe s'=>AK (AH P w) (A.deeper (Ah qual scope s.heap.objs.size f cd)) (leaving (Ah qual scope s.heap.objs.size f cd) e) (λ_ s''=>CX outer H s E e s'') (λe' s''=>CX outer H s E e' s'') s'
theorem aBx{sc:Scope}{n:Nat}{x:Str}(h:sc.names.lookup x=some .cell):∃c,(cellsFrom n sc.names []).lookup x=some c:=by have q:=aAj sc.names n [] (.inl h);exact Option.isSome_iff_exists.mp q
theorem aEn{CX:CXT}{P:AD}{w:AM}{K:aA}{mg:Str->Option BJ}{base:BN}{N ps:List Str}{qual:Str}{scope:Scope}{f:BL}{cd:BJ}{A:BM}{outer:List Env}{s s1:BK}{H:Hp}{E:XK}{us:List BJ}{vs:List V}
  (S:pY N ps scope) (hd:A.handled=none) (e0:aKK P w K mg base A outer s H) (hl:vs.length=ps.length) (r:Vals vs us)
  (x:InCallC s s.heap.objs.size (bindL (Ah qual scope s.heap.objs.size f cd).kindOf (ps.zip us) λ_=>none) (cellsFrom (s.heap.objs.size+1) scope.names []) (bindC (Ah qual scope s.heap.objs.size f cd).kindOf (ps.zip us) λ_=>none) s1):
  Inv (nO CX P w K mg base N qual scope f cd A outer s H E) [] (start N vs) H s1:=by
 have hpl:ps.length<=N.length:=by have:=congrArg qJ S.pre;rw[bX] at this;omega
 obtain⟨h1,tk,rfl,hk⟩:=x.done;have noA:∀b:BL,b∉(nO CX P w K mg base N qual scope f cd A outer s H E).ex:=λb z=>absurd (show b∈([]:List BL) from z) (by simp)
 refine ⟨⟨e0.mod,S.kind,rfl,rfl,aM _,fun y z c h1 h2=> ?_,fun y hy=> ?_,fun y c _ h=> ?_,fun _=>hd,Around.frames_deeper e0.frames, .inr ⟨rfl,rfl⟩,fun b z=>absurd z (noA b),e0.bs,e0.bsz,fun b _ _=>noA b,fun b z=>absurd z (noA b),e0.funs,e0.frf⟩,
  rfl,e0.bare,Un.kept hk,⟨_,x.toInCall.ns,λi y v h1 h2 h3=> ?_⟩,λy c h=>⟨_,x.cell y c h⟩,e0.hok.fresh (aM _),λy c h=> ?_,λp hp=>absurd (show p∈([]:List (BL×BO)) from hp) (by simp),e0.hok.kept hk, ?_⟩
 ·exact name_of_addr x.apart (PySem.mem_of_lookup h1) (PySem.mem_of_lookup h2)
 ·have hy:scope.names.lookup y=some .cell\/scope.names.lookup y=some .free:=hy
  rcases hy with hy|hy
  ·exact aBx hy
  ·exact absurd rfl (S.nofree _ (PySem.mem_of_lookup hy))
 ·exact eJ (x.above y c (PySem.mem_of_lookup h))
 ·have hi:i<vs.length:=by
   unfold start at h2
   by_cases hi:i<vs.length
   ·exact hi
   ·rw[dX (by simpa using hi)] at h2;rw[List.getElem?_replicate] at h2
    split at h2<;>cases h2
  have ha:vs[i]? =some v:=by
   unfold start at h2;rw[cT (by simpa using hi),aQ] at h2;cases e:vs[i]? with
   |none=>rw[e] at h2;cases h2
   |some a=>rw[e] at h2;cases h2;rfl
  obtain⟨u,hu,rv⟩:=r.get ha
  have hp:ps[i]? =some y:=by rw[<-S.pre,aAP (by omega)];exact h1
  have ndP:ps.Nodup:=by rw[<-S.pre];exact S.nd.sublist (aIx _ _)
  refine⟨u,rv, ?_⟩
  rcases S.par y (aO hp) with k|k
  ·exact .inl ⟨k,yY ndP hp hu k⟩
  ·obtain⟨c,e⟩:=aBx (n:=s.heap.objs.size+1) k;refine .inr ⟨.inl k,c,e, ?_⟩;have q:=x.cell y c e;rw[zI ndP hp hu (by show scope.names.lookup y≠_;rw[k];decide)] at q;exact q
 ·exact e0.hok.fresh (eJ (x.above y c (PySem.mem_of_lookup h)))
 ·unfold start;show _=N.length;rw[aP,aB,List.length_replicate];omega
theorem aOe{CX:CXT}{P:AD}{w:AM}{K:aA}{mg:Str->Option BJ}{base:BN}{k:Nat}{f:BL}{name qual:Str}{params:Arguments}{body:List BP}{scope:Scope}{dV kV doc pm cdv ct oc:BJ}{an od:Option BL}
  {osl:Array (Option BJ)}{N ps:List Str}{sp:Sp} (lk:K.lookup f=some ⟨oc,od,.func (gK name qual params body scope dV kV doc pm an cdv ct),osl⟩) (hcd:kX K cdv qual=true) (S:pY N ps scope)
  (len:∀vs H Q E,sp vs H Q E->vs.length=ps.length)
  (hbody:∀ (A:BM) (outer:List Env) (s:BK) (H:Hp) (vs:List V) (Q:VK) (E:XK),Room k (A.deeper (Ah qual scope s.heap.objs.size f cdv))→sp vs H Q E→
   ∃t,PSs (nO CX P w K mg base N qual scope f cdv A outer s H E) body t/\t {nx:=λ_ H'=>Q .non H',rt:=Q} (start N vs) H):
  FnOk P w K mg base CX (k+1) f (gK name qual params body scope dV kV doc pm an cdv ct) ps sp:=by
 refine⟨len,λA outer s H args us vs Q E hr e0 hb r hsp=> ?_⟩;have hl:=len _ _ _ _ hsp;have KX:K.In s.heap:=e0.mod.kin.keeps λb o e=>(e0.bs b o e).1
 have lim:s.heap.NoLimit:=e0.mod.nolimit.keeps λb o e=>(e0.bs b o e).1
 have hkind:∀y∈ps.zip us,scope.names.lookup y.1=some .local\/(scope.names.lookup y.1=some .cell/\((cellsFrom (s.heap.objs.size+1) scope.names []).lookup y.1).isSome=true):=λ⟨n,v⟩ hy=>by
  rcases S.par n (xU hy).1 with q|q
  ·exact .inl q
  ·exact .inr ⟨q,aAj _ _ _ (.inl q)⟩
 refine codeAny_call_function hr.depth (KX _ _ lk) rfl S.co S.gen rfl (PySem.W.codeRec_of KX hcd) (hb _ _ _ _ ?_);refine wpAny_newFunctionEnv_cells S.kind hkind λenv he s1 x=> ?_
 subst he;refine⟨lim.keeps x.toInCall.keep,codeAny_func ?_⟩;obtain⟨t,ht,hq⟩:=hbody A outer s H vs Q E (hr.deeper _) hsp;have I:Inv (nO CX P w K mg base N qual scope f cdv A outer s H E) [] (start N vs) H s1:=aEn S hr.hd e0 hl r x;refine Ag (ht [] s1 (start N vs) H _ I hq) (λfl s' hs=> ?_) λe s' hs=>hs
 have fin:∀ {σ':St}{H':Hp}{v:V}{u:BJ},Inv (nO CX P w K mg base N qual scope f cdv A outer s H E) [] σ' H' s'->RelV v u->Q v H'->CE outer P w H s Q u s':=
  λ{σ' H' v u} J rv q=>⟨v,H',J.os,J.bare,J.base,J.hok,rv,q⟩
 cases fl with
 |ret u=>obtain⟨v,σ',H',J,rv,q⟩:=hs;exact fin J rv q
 |next=>obtain⟨σ',H',J,q⟩:=hs;exact fin (v:=V.non) (u:=Value.none) J rfl q
 |brk=>obtain⟨_,_,_,q⟩:=hs;exact False.elim q
 |cont=>obtain⟨_,_,_,q⟩:=hs;exact False.elim q
section
variable {X:Cx}{x:Str}{p pos:Pos}{e:Expr}{es:List Expr}{t:TA}{id T:String}{r:List V->Hp->VK->Prop}
noncomputable def tCB(r:List V->Hp->VK->Prop)(t:TA):TE:=λσ H Q=>t σ H λvs H1=>r vs H1 Q
theorem rX(hc:lY X (.builtin id) r)(hg:Gl X x)(hm:X.mg x=none)(hv:An x=some (.builtin id))(ha:PA X (e::es) t)(hn:x≠"__name__":=by decide)(hdb:(x==("__debug__":Str))=false:=by decide)
  (he:AG (e::es) X.env=(false,eval e X.env)::AG es X.env:=by rfl) (hpl:(Au pos (AG es X.env)).any (·.1)=false:=by rfl):PE X (.Call (.Name x p) (e::es) [] pos) (tCB r t):=by
 intro pins s σ H Q I h;refine Ap (pK I hg hm hv ?_ hn hdb);exact PyProof.Rows.callWith_builtin1 (thn (ha pos pins s σ H _ I h) λus s1 ⟨vs,H1,I1,r1,q1⟩=>hc pins s1 σ H1 vs us Q I1 r1 q1) he hpl
theorem aEM(hc:lY X (.type T) r)(hg:Gl X x)(hm:X.mg x=none)(hv:An x=some (.type T))(ha:PA X (e::es) t)(hn:x≠"__name__":=by decide)(hdb:(x==("__debug__":Str))=false:=by decide)
  (he:AG (e::es) X.env=(false,eval e X.env)::AG es X.env:=by rfl) (hpl:(Au pos (AG es X.env)).any (·.1)=false:=by rfl):PE X (.Call (.Name x p) (e::es) [] pos) (tCB r t):=by
 intro pins s σ H Q I h;refine Ap (pK I hg hm hv ?_ hn hdb);exact PyProof.Rows.callWith_type1 (thn (ha pos pins s σ H _ I h) λus s1 ⟨vs,H1,I1,r1,q1⟩=>hc pins s1 σ H1 vs us Q I1 r1 q1) he hpl
end
end L2
namespace HT
open PySem PyProof.Rows
noncomputable def lexLt:List Int->List Int->Bool
 |[],[]=>false
 |[],_::_=>true
 |_::_,[]=>false
 |x::xs,y::ys=>if x=y then lexLt xs ys else decide (x<y)
section
open PySem.SeqAt
open PySem.AutoSeq1 (wpAny_loadPart')
open PySem.MeetsSeq PySem.MeetsSeq2 PySem.MeetsSeq3
end
section
variable {prog:AD}{w:AM}{A:BM}{E:BJ->BK->Prop}{s:BK}
theorem cat_tup{t b:BL}{vs ws:List BJ}{Q:BJ->BK->Prop}(ht:IsTup s.heap t vs.toArray)(hb:IsTup s.heap b ws.toArray)(hv:vs≠[])
  (h1:ws=[]->Q (.ref t) s) (h2:ws≠[]->Q (.ref s.heap.objs.size) {s with heap:=s.heap.push {cls:=.type "tuple",data:=.seq (vs++ws).toArray}})
  (hsz:vs.length+ws.length<=AL):AK (AH prog w) A (Ak .Add (.ref t) (.ref b)) Q E s:=by
 obtain⟨⟨cls,dd,data,sl⟩,ho,hc,n,hd⟩:=id ht;obtain⟨⟨cls2,dd2,data2,sl2⟩,ho2,hc2,n2,hd2⟩:=id hb;simp only at hc hd hc2 hd2;subst hc hd hc2 hd2;have e:vs.toArray++ws.toArray=(vs++ws).toArray:=by simp
 by_cases hw:ws=[]
 ·exact concat_meets ⟨_,ho,rfl⟩ ⟨_,ho2,rfl⟩ noFill_tuple_add seq_tuple_add oW oA (nC _ _)
   (tuple_addW1 t b vs.toArray ws.toArray n n2 dd dd2 sl sl2 (by simpa using hv) (by simp[hw])) ⟨ho,ho2,h1 hw⟩
 ·refine concat_meets ⟨_,ho,rfl⟩ ⟨_,ho2,rfl⟩ noFill_tuple_add seq_tuple_add oW oA (nC _ _)
   (tuple_addW2 t b vs.toArray ws.toArray n n2 dd dd2 sl sl2 (by simpa using hv) (by simpa using hw) (by rw[aS,aS];exact hsz)) ⟨ho,ho2, ?_⟩
  rw[e];exact h2 hw
noncomputable def sIx(n d:Nat):Option Int->Nat
 |none=>d
 |some v=>if v<0 then(v+(n:Int)).toNat else min v.toNat n
theorem sIx_none(n d:Nat):sIx n d none=d:=rfl
theorem sIx_nat(n d k:Nat):sIx n d (some (k:Int))=min k n:=by show(if(k:Int)<0 then((k:Int)+(n:Int)).toNat else min (k:Int).toNat n)=min k n;rw[if_neg (by omega),fE]
theorem aMc(n d:Nat)(hd:d<=n)(o:Option Int):sIx n d o<=n:=by
 cases o with
 |none=>exact hd
 |some v=>
  show(if v<0 then(v+(n:Int)).toNat else min v.toNat n)<=n
  by_cases hv:v<0
  ·rw[if_pos hv];omega
  ·rw[if_neg hv];exact Nat.min_le_right _ _
theorem aDz(v:Int)(n d:Nat):(if v<0 then max (v+(n:Int)) 0 else min v (n:Int))=((sIx n d (some v):Nat):Int):=by
 show(if v<0 then max (v+(n:Int)) 0 else min v (n:Int))=(((if v<0 then(v+(n:Int)).toNat else min v.toNat n):Nat):Int)
 by_cases hv:v<0
 ·simp only[if_pos hv];omega
 ·simp only[if_neg hv];omega
theorem aCg(lo hi:Option Int)(n:Nat):Builtin.Slice.sliceAdjust lo hi 1 (n:Int)=(((sIx n 0 lo:Nat):Int),((sIx n n hi:Nat):Int)):=by
 have h1:¬ ((1:Int)<0):=by omega
 unfold Builtin.Slice.sliceAdjust;simp only[h1,if_false];refine Prod.ext ?_ ?_
 ·cases lo with
  |none=>rfl
  |some v=>exact aDz v n 0
 ·cases hi with
  |none=>rfl
  |some v=>exact aDz v n n
theorem aCt(i j:Nat):Builtin.Slice.slicePlaces (i:Int) (j:Int) 1=j-i:=by
 unfold Builtin.Slice.slicePlaces;have h1:(1:Int)>0:=by omega
 simp only[h1,if_true,aPf]
 split<;>omega
theorem xF{v:BJ}{o:Option Int}{Q:Option Int->BK->Prop}(p:IsPart v o)(h:Q o s):AK (AH prog w) A (Builtin.Slice.slicePartIndex v) Q E s:=by
 cases p with
 |none=>exact slicePart_none h
 |int i t=>exact slicePart_int h
theorem tY{sl:BL}{vl vu:BJ}{lo hi:Option Int}{n:Nat}{Q:Int×Int×Nat->BK->Prop}(hs:s.heap.IsSliceOf sl vl vu .none)(pl:IsPart vl lo)(pu:IsPart vu hi)
  (h:Q (((sIx n 0 lo:Nat):Int),1,sIx n n hi-sIx n 0 lo) s):AK (AH prog w) A (Builtin.Slice.sliceApplied (.ref sl) (pure (n:Int))) Q E s:=by
 obtain⟨os,hos,hcs,hds⟩:=id hs;unfold Builtin.Slice.sliceApplied Builtin.Slice.sliceFields;refine AA (AA (wpAny_field hos hds (x:=vl) rfl (AA (wpAny_field hos hds (x:=vu) rfl (AA (wpAny_field hos hds (x:=.none) rfl (AB ?_)))))));refine AA (slicePart_none ?_);show AK _ _ (if((1:Int)==0)=true then _ else _) _ _ s;rw[if_neg (by decide)];refine AA (xF pl (AA (xF pu (AA (AB ?_)))));show AK _ _ (match Builtin.Slice.sliceAdjust lo hi 1 (n:Int) with|(lo,hi)=>pure (lo,(1:Int),Builtin.Slice.slicePlaces lo hi 1)) _ _ s;rw[aCg lo hi n];show AK _ _ (pure (((sIx n 0 lo:Nat):Int),(1:Int),Builtin.Slice.slicePlaces ((sIx n 0 lo:Nat):Int) ((sIx n n hi:Nat):Int) 1)) _ _ s;rw[aCt];exact AB h
theorem aHm(xs:Array BJ)(i k:Nat):((bP k).filterMap λ(m:Nat)=>xs[((i:Int)+(m:Int)*1).toNat]?).toArray=((xs.toList.drop i).take k).toArray:=by
 have e:(λ(m:Nat)=>xs[((i:Int)+(m:Int)*1).toNat]?)=λm=>xs[i+m]? :=by
  funext m;have:((i:Int)+(m:Int)*1).toNat=i+m:=by omega
  rw[this]
 rw[e];have:=pick_run xs i k;rw[List.filterMap_map] at this;have e2:((λx=>xs[x]?) ∘ λx=>i+x)=λm=>xs[i+m]? :=rfl
 rw[e2] at this;rw[this]
theorem getItem_tuple_cut{t sl:BL}{items:Array BJ}{vl vu:BJ}{lo hi:Option Int}{Q:BJ->BK->Prop}(ht:IsTup s.heap t items)(hs:s.heap.IsSliceOf sl vl vu .none)(pl:IsPart vl lo)(pu:IsPart vu hi)
  (hw:¬ (sIx items.size 0 lo=0/\sIx items.size items.size hi=items.size))
  (h:Q (.ref s.heap.objs.size) {s with heap:=s.heap.push {cls:=.type "tuple",data:=.seq ((items.toList.drop (sIx items.size 0 lo)).take (sIx items.size items.size hi-sIx items.size 0 lo)).toArray}})
  (hsz:items.size<=AL):AK (AH prog w) A (getItem (.ref t) (.ref sl)) Q E s:=by
 have htake:sizeOk (.seq ((items.toList.drop (sIx items.size 0 lo)).take (sIx items.size items.size hi-sIx items.size 0 lo)).toArray):=by show((items.toList.drop (sIx items.size 0 lo)).take (sIx items.size items.size hi-sIx items.size 0 lo)).toArray.size<=AL;rw[aS,bX,iS,cC];omega
 have hj:sIx items.size items.size hi<=items.size:=aMc _ _ (aM _) hi;obtain⟨os,hos,hcs,hds⟩:=id hs;have hTs:s.TypeIs (.ref sl) "slice":=⟨os,hos,hcs⟩;unfold getItem
 try with_reducible refine Af ?_
 first|refine AA (AB ?_)|skip
 refine AA (wpAny_sequenceKey ht.typeIs (by decide) ?_)
 refine AA (Ae (name:=Str.ofString "__getitem__") ht.typeIs PyProof.Rows.slot_tuple_getitem
  (AY PyProof.Rows.slot_tuple_getitem ht.typeIs entry_tuple_getitem ?_ (args_tuple_getitem _ _)))
 show AK _ _ (Builtin.Tuple.tupleItemsOf (.ref t)>>=_) _ _ s;refine AA (tupleItemsOf_ ht ?_);refine AA (wpAny_typeOf hTs ?_);rw[if_pos (by decide)];refine AA (tY hs pl pu ?_)
 have hno:¬ ((((sIx items.size 0 lo:Nat):Int)==0&&(1:Int)==1&&(sIx items.size items.size hi-sIx items.size 0 lo)==items.size)=true):=by intro q;rw[bH,bH] at q;have q1:((sIx items.size 0 lo:Nat):Int)=0:=eq_of_beq q.1.1;have q2:sIx items.size items.size hi-sIx items.size 0 lo=items.size:=eq_of_beq q.2;exact hw ⟨by omega,by omega⟩
 show AK _ _ (if(((sIx items.size 0 lo:Nat):Int)==0&&(1:Int)==1&&(sIx items.size items.size hi-sIx items.size 0 lo)==items.size)=true then _ else _) _ _ s;rw[if_neg hno,aHm]
 first
  |exact AA (m:=Builtin.Tuple.tupleExact _) (AS (AB ⟨_,rfl,AB h⟩) htake)
  |exact AA (m:=Builtin.Tuple.tupleExact _) (AS (AA (AB (AB ⟨_,rfl,AB h⟩))) htake)
  |exact AA (AA (m:=Builtin.Tuple.tupleExact _) (AS (AB (AB ⟨_,rfl,AB h⟩)) htake))
  |exact AA (AA (m:=Builtin.Tuple.tupleExact _) (AS (AB ⟨_,rfl,AB h⟩) htake))
end
end HT
namespace L2
open PySem PySem.Spec PyProof.Rows
noncomputable abbrev TO:=St->Hp->(Option Int->Hp->Prop)->Prop
def PO(X:Cx)(e:Option Expr)(t:TO):Prop:=
 ∀ (pins:List (BL×BO)) (s:BK) (σ:St) (H:Hp) (Q:Option Int->Hp->Prop),Inv X pins σ H s->t σ H Q->
  AK (AH X.prog X.w) X.A (evalPart e X.env) (λu s'=>∃o H',Inv X pins σ H' s'/\IsPart u o/\Q o H') X.xe s
noncomputable def aJD:TO:=λ_ H Q=>Q none H
noncomputable def aNZ(t:TE):TO:=λσ H Q=>t σ H λx H1=>∃i,x=.int i/\Q (some i) H1
section
variable {X:Cx}{e:Expr}{te:TE}{lo hi:Option Expr}{tl th:TO}{pos p2:Pos}
theorem aJf:PO X none aJD:=by intro pins s σ H Q I h;rw[evalPart_none];exact AB ⟨none,H,I,.none,h⟩
theorem aKl(h:PE X e te):PO X (some e) (aNZ te):=by
 intro pins s σ H Q I hw;rw[evalPart_some];refine thn (h pins s σ H _ I hw) λu s1 ⟨x,H1,I1,r1,q1⟩=> ?_
 obtain⟨i,rfl,q⟩:=q1;obtain⟨t,rfl⟩:=r1;exact⟨some i,H1,I1,.int i t,q⟩
def SlR(X:Cx)(r:V->Option Int->Option Int->Hp->VK->Prop):Prop:=
 ∀ (pins:List (BL×BO)) (s:BK) (σ:St) (H:Hp) (x:V) (v vl vu:BJ) (lo hi:Option Int) (sl:BL) (Q:VK),Inv X pins σ H s->RelV x v->s.heap.IsSliceOf sl vl vu .none->IsPart vl lo->IsPart vu hi->r x lo hi H Q->
  ∃T id,typeLookup (.type T) "__getitem__"=pure (some (.builtin id))/\s.TypeIs v T/\AK (AH X.prog X.w) X.A (getItem v (.ref sl)) (EP X pins σ Q) X.xe s
noncomputable def tSl(r:V->Option Int->Option Int->Hp->VK->Prop)(te:TE)(tl th:TO):TE:=λσ H Q=>te σ H λx H1=>tl σ H1 λl H2=>th σ H2 λu H3=>r x l u H3 Q
theorem aBK{r:V->Option Int->Option Int->Hp->VK->Prop}(hr:SlR X r)(he:PE X e te)(hl:PO X lo tl)(hu:PO X hi th):PE X (.Subscript e (.Slice lo hi none p2) pos) (tSl r te tl th):=by
 intro pins s σ H Q I h;refine Subscript_ (thn (he pins s σ H _ I h) λv s1 ⟨x,H1,I1,r1,q1⟩=> ?_);refine wpAny_Slice (thn (hl pins s1 σ H1 _ I1 q1) λvl s2 ⟨l,H2,I2,pl,q2⟩=>thn (hu pins s2 σ H2 _ I2 q2) λvu s3 ⟨u,H3,I3,pu,q3⟩=> ?_);rw[evalPart_none];refine AB ?_;have I4:Inv X pins σ H3 {s3 with heap:=s3.heap.push {cls:=.type "slice",data:=.fields #[vl,vu,.none]}}:=I3.kept (t':=s3.toks) λb ob q=>aI _ q
 obtain⟨T,id,hT,ht,hg⟩:=hr pins {s3 with heap:=s3.heap.push {cls:=.type "slice",data:=.fields #[vl,vu,.none]}} σ H3 x v vl vu l u s3.heap.objs.size Q I4 r1 (Heap.IsSliceOf.new ..) pl pu q3;show AK (AH X.prog X.w) X.A (subscriptTail e (.Slice lo hi none p2) v (.ref s3.heap.objs.size)) (EP X pins σ Q) X.xe {s3 with heap:=s3.heap.push {cls:=.type "slice",data:=.fields #[vl,vu,.none]}};exact tail_any (ops:=[.ref s3.heap.objs.size,v]) ht hT hg (by with_unfolding_all rfl)
noncomputable def yC(xs:List V)(lo hi:Option Int):List V:=(xs.drop (HT.sIx xs.length 0 lo)).take (HT.sIx xs.length xs.length hi-HT.sIx xs.length 0 lo)
theorem uF(xs:List V)(lo hi:Option Int):(yC xs lo hi).length<=xs.length:=by unfold yC;rw[bX,iS];omega
def rSlT(K:aA):V->Option Int->Option Int->Hp->VK->Prop:=λx lo hi H Q=>∃a xs,x=.ref a/\SqT K H a xs/\
 ¬ (HT.sIx xs.length 0 lo=0/\HT.sIx xs.length xs.length hi=xs.length)/\∀p,H p=none->Q (.ref p) (upd H p (.tup (yC xs lo hi)))
theorem aLQ:SlR X (rSlT X.K):=by
 intro pins s σ H x v vl vu lo hi sl Q I rx hs pl pu h;obtain⟨a,xs,rfl,hx,hw,q⟩:=h;cases rx;obtain⟨its,r,ht,hz⟩:=I.tuple hx;have hlen:its.toArray.size=xs.length:=by rw[aS];exact r.length.symm
 refine⟨"tuple",_,PyProof.Rows.slot_tuple_getitem.lookup,ht.typeIs, ?_⟩;refine HT.getItem_tuple_cut ht hs pl pu (by rw[hlen];exact hw) ?_ (by rw[hlen];exact hz);rw[hlen];refine⟨.ref s.heap.objs.size,_,I.laid (t':=s.toks) (o:=.tup (yC xs lo hi)) (λb ob q=>aI _ q) (aM _) ?_,rfl,q _ (I.hok.fresh (aM _))⟩;exact⟨cK (uF xs lo hi) hz,_,(r.drop (HT.sIx xs.length 0 lo)).take (HT.sIx xs.length xs.length hi-HT.sIx xs.length 0 lo),IsTupD.new _ _⟩
noncomputable def aOk(K:aA):R2:=λx y H Q=>∃a b xs ys,x=.ref a/\y=.ref b/\SqT K H a xs/\SqT K H b ys/\xs≠[]/\xs.length+ys.length<=AL/\
 (ys=[]->Q (.ref a) H)/\(ys≠[]->∀p,H p=none->Q (.ref p) (upd H p (.tup (xs++ys))))
theorem Vals.nil_iff{xs:List V}{us:List BJ}(r:Vals xs us):us=[]↔xs=[]:=by
 cases r with
 |nil=>simp
 |cons _ _=>simp
theorem aJn:OpR X (Ak .Add) (aOk X.K):=by intro pins s σ H x y v u Q I rx ry h;obtain⟨a,b,xs,ys,rfl,rfl,ha,hb,hx,hz,q1,q2⟩:=h;cases rx;cases ry;obtain⟨its,r1,p1,_⟩:=I.tuple ha;obtain⟨its2,r2,p2,_⟩:=I.tuple hb;refine HT.cat_tup p1 p2 (λz=>hx (r1.nil_iff.mp z)) (λz=>⟨.ref a,H,I,rfl,q1 (r2.nil_iff.mp z)⟩) (λz=> ?_) (by rw[<-r1.length,<-r2.length];exact hz);refine⟨.ref s.heap.objs.size,_,I.laid (t':=s.toks) (o:=.tup (xs++ys)) (λb ob q=>aI _ q) (aM _) ?_,rfl,q2 (λw=>z (r2.nil_iff.mpr w)) _ (I.hok.fresh (aM _))⟩;exact⟨by rw[aP];exact hz,_,r1.append r2,IsTupD.new _ _⟩
end
noncomputable def ixN(n:Nat)(i:Int):Option Nat:=if 0<=i then(if i<n then some i.toNat else none) else if -(n:Int)<=i then some (i+n).toNat else none
noncomputable def atI{α:Type}(xs:List α)(i:Int):Option α:=(ixN xs.length i).bind λj=>xs[j]?
theorem aJj{n:Nat}{i:Int}{j:Nat}(h:ixN n i=some j):seqIndex? i n=some j/\j<n/\ -(n:Int)<=i/\i<n:=by
 unfold ixN at h
 by_cases h0:0<=i
 ·rw[if_pos h0] at h
  by_cases h1:i<n
  ·rw[if_pos h1] at h;have e:i.toNat=j:=cF.inj h;exact⟨by rw[seqIndex_of h0 h1,e],by omega,by omega,h1⟩
  ·rw[if_neg h1] at h;cases h
 ·rw[if_neg h0] at h
  by_cases h1: -(n:Int)<=i
  ·rw[if_pos h1] at h;have e:(i+n).toNat=j:=cF.inj h;exact⟨by rw[seqIndex_neg (by omega) h1,e],by omega,h1,by omega⟩
  ·rw[if_neg h1] at h;cases h
theorem aDT{α:Type}{xs:List α}{i:Int}{v:α}(h:atI xs i=some v):∃j,seqIndex? i xs.length=some j/\xs[j]? =some v/\j<xs.length/\ -(xs.length:Int)<=i/\i<xs.length:=by
 unfold atI at h;cases e:ixN xs.length i with
 |none=>rw[e] at h;cases h
 |some j=>rw[e] at h;obtain⟨h1,h2,h3,h4⟩:=aJj e;exact⟨j,h1,h,h2,h3,h4⟩
theorem zY{α:Type}{xs:List α}{j:Nat}{v:α}(h:xs[j]? =some v):atI xs (j:Int)=some v:=by
 have hj:j<xs.length:=(aE.mp h).1
 have e:ixN xs.length (j:Int)=some j:=by unfold ixN;rw[if_pos (by omega),if_pos (by omega)];simp
 unfold atI;rw[e];exact h
def pV(b:Expr):Prop:=∀o i,subscripted b false o i=operate [o,i] (getItem o i)
def IxR(X:Cx)(r:R2):Prop:=
 ∀ (value slice:Expr) (pins:List (BL×BO)) (s:BK) (σ:St) (H:Hp) (x y:V) (v u:BJ) (Q:VK),Inv X pins σ H s->RelV x v->RelV y u->r x y H Q->
  subscripted slice false v u=operate [v,u] (getItem v u)->AK (AH X.prog X.w) X.A (subscriptTail value slice v u) (EP X pins σ Q) X.xe s
def MtR(X:Cx)(id:String)(r:V->List V->Hp->VK->Prop):Prop:=
 ∀ (pins:List (BL×BO)) (s:BK) (σ:St) (H:Hp) (x:V) (xs:List V) (v:BJ) (us:List BJ) (Q:VK),Inv X pins σ H s->RelV x v->Vals xs us->r x xs H Q->
  AK (AH X.prog X.w) X.A (call (.builtin id) (v::us)) (EP X pins σ Q) X.xe s
section
variable {X:Cx}{a b:Expr}{ta tb:TE}{pos:Pos}
theorem aIV{r:R2}(hr:IxR X r)(ha:PE X a ta)(hb:PE X b tb)(hs:pV b):PE X (.Subscript a b pos) (tOp r ta tb):=by intro pins s σ H Q I h;exact Subscript_ (aNM ha hb I h λv u s2 x y H2 I2 rx ry q=>hr a b pins s2 σ H2 x y v u Q I2 rx ry q (hs _ _))
noncomputable def rIxL(K:aA):R2:=λx y H Q=>∃p xs i v,x=.ref p/\y=.int i/\SqL K H p xs/\atI xs i=some v/\Q v H
noncomputable def rIxT(K:aA):R2:=λx y H Q=>∃p xs i v,x=.ref p/\y=.int i/\SqT K H p xs/\atI xs i=some v/\Q v H
theorem aDB:IxR X (rIxL X.K):=by
 intro value slice pins s σ H x y v u Q I rx ry h hs;obtain⟨p,xs,i,z,rfl,rfl,hq,he,q⟩:=h;cases rx;obtain⟨t,rfl⟩:=ry;obtain⟨its,r,pl,hz⟩:=I.list hq;obtain⟨j,h1,h2,h3,h4,h5⟩:=aDT he;obtain⟨w,ew,rw'⟩:=r.get h2;have hl:=r.length;have hn:=aCT;have fin:EP X pins σ Q w s:=⟨z,H,I,rw',q⟩
 by_cases h0:0<=i
 ·have hj:i.toNat=j:=by rw[seqIndex_of h0 h5] at h1;exact cF.inj h1
  exact item_listR pl.isList h0 (by omega) (by rw[hj];simpa using ew) fin hs
 ·have hj:(i+(its.toArray.size:Int)).toNat=j:=by rw[seqIndex_neg (by omega) h4] at h1;rw[aS,<-hl];exact cF.inj h1
  exact subscriptTail_builtinR (x:=w) pl.isList.typeIs slot_list_getitem.lookup
   (wpAny_getItem_list_neg (Q:=λr s'=>r=w/\EP X pins σ Q r s') pl.isList (by omega) (by rw[aS]<;>omega) (by omega) (by rw[hj];simpa using ew) ⟨rfl,fin⟩) hs
theorem aMe:IxR X (rIxT X.K):=by
 intro value slice pins s σ H x y v u Q I rx ry h hs;obtain⟨p,xs,i,z,rfl,rfl,hq,he,q⟩:=h;cases rx;obtain⟨t,rfl⟩:=ry;obtain⟨its,r,pl,hz⟩:=I.tuple hq;obtain⟨j,h1,h2,h3,h4,h5⟩:=aDT he;obtain⟨w,ew,rw'⟩:=r.get h2;have hl:=r.length;have hn:=aCT;have fin:EP X pins σ Q w s:=⟨z,H,I,rw',q⟩
 exact subscriptTail_builtinR (x:=w) pl.typeIs slot_tuple_getitem.lookup
  (getItem_tuple (j:=j) (Q:=λr s'=>r=w/\EP X pins σ Q r s') pl (by omega) (by omega) (by rw[aS,<-hl];exact h1) (by simpa using ew) ⟨rfl,fin⟩) hs
theorem aAc(lo hi:Option Int)(n:Nat):(Al lo hi none n).1=((HT.sIx n 0 lo:Nat):Int)/\(Al lo hi none n).2.1=((HT.sIx n n hi:Nat):Int)/\(Al lo hi none n).2.2=1:=by
 refine⟨?_, ?_,rfl⟩
 ·cases lo with
  |none=>simp[Al,HT.sIx]
  |some i=>
   simp only[Al,HT.sIx,aHr,show(1:Int)>0 by decide,if_true]
   by_cases h:i<0
   ·simp only[h,if_true]<;>omega
   ·simp only[h,if_false]<;>omega
 ·cases hi with
  |none=>simp[Al,HT.sIx]
  |some i=>
   simp only[Al,HT.sIx,aHr,show(1:Int)>0 by decide,if_true]
   by_cases h:i<0
   ·simp only[h,if_true]<;>omega
   ·simp only[h,if_false]<;>omega
theorem yE(its:List BJ)(lo hi:Option Int):slicePick its.toArray lo hi none=((its.drop (HT.sIx its.length 0 lo)).take (HT.sIx its.length its.length hi-HT.sIx its.length 0 lo)).toArray:=by obtain⟨h1,h2,h3⟩:=aAc lo hi its.toArray.size;unfold slicePick;rw[h1,h2,h3];simp only[sliceRange_one,pick_run,aS]<;>rfl
def rSlL(K:aA):V->Option Int->Option Int->Hp->VK->Prop:=λx lo hi H Q=>∃a xs,x=.ref a/\SqL K H a xs/\∀p,H p=none->Q (.ref p) (upd H p (.lst (yC xs lo hi)))
theorem aJg:SlR X (rSlL X.K):=by intro pins s σ H x v vl vu lo hi sl Q I rx hs pl pu h;obtain⟨a,xs,rfl,hx,q⟩:=h;cases rx;obtain⟨its,r,ht,hz⟩:=I.list hx;have hlen:=r.length;refine⟨"list",_,slot_list_getitem.lookup,ht.isList.typeIs, ?_⟩;refine wpAny_getItem_list_slice ht.isList hs pl pu .none (by simp) ?_ (by rw[aS]<;>omega);rw[yE,<-hlen];refine⟨.ref s.heap.objs.size,_,I.laid (t':=s.toks) (o:=.lst (yC xs lo hi)) (λb ob q=>aI _ q) (aM _) ?_,rfl,q _ (I.hok.fresh (aM _))⟩;exact⟨cK (uF xs lo hi) hz,_,0,(r.drop (HT.sIx xs.length 0 lo)).take (HT.sIx xs.length xs.length hi-HT.sIx xs.length 0 lo),bD _ rfl⟩
noncomputable def oY:V->Bool
 |.non=>true
 |.bl _=>true
 |.int _=>true
 |.str _=>true
 |_=>false
noncomputable def eqV:V->V->Bool
 |.non,.non=>true
 |.bl a,.bl b=>a==b
 |.bl a,.int b=>(if a then 1 else 0)==b
 |.int a,.bl b=>a==(if b then 1 else 0)
 |.int a,.int b=>a==b
 |.str a,.str b=>a==b
 |_,_=>false
theorem wY{A:BM}{s:BK}{y x:V}{u v:BJ}(ry:RelV y u)(rx:RelV x v)(fy:oY y=true)(fx:oY x=true):SeqAt.EqAt A s u v (eqV y x):=by
 cases y with
 |non=>
  cases ry;cases x with
  |non=>cases rx;exact SeqAt.EqAt.same _
  |bl b=>cases rx;exact SeqAt.EqAt.none_bool b
  |int b=>obtain⟨t,rfl⟩:=rx;exact SeqAt.EqAt.none_int b t
  |str b=>obtain⟨t,rfl⟩:=rx;exact SeqAt.EqAt.none_str b t
  |_=>exact absurd (show false=true from fx) bN
 |bl a=>
  cases ry;cases x with
  |non=>cases rx;exact SeqAt.EqAt.bool_none a
  |bl b=>cases rx;exact SeqAt.EqAt.bool_bool a b
  |int b=>obtain⟨t,rfl⟩:=rx;exact SeqAt.EqAt.bool_int a b t
  |str b=>obtain⟨t,rfl⟩:=rx;exact SeqAt.EqAt.bool_str a b t
  |_=>exact absurd (show false=true from fx) bN
 |int a=>
  obtain⟨t',rfl⟩:=ry;cases x with
  |non=>cases rx;exact SeqAt.EqAt.int_none a t'
  |bl b=>cases rx;exact SeqAt.EqAt.int_bool a t' b
  |int b=>obtain⟨t,rfl⟩:=rx;exact SeqAt.EqAt.int_int a t' b t
  |str b=>obtain⟨t,rfl⟩:=rx;exact SeqAt.EqAt.int_str a t' b t
  |_=>exact absurd (show false=true from fx) bN
 |str a=>
  obtain⟨t',rfl⟩:=ry;cases x with
  |non=>cases rx;exact SeqAt.EqAt.str_none a t'
  |bl b=>cases rx;exact SeqAt.EqAt.str_bool a t' b
  |int b=>obtain⟨t,rfl⟩:=rx;exact SeqAt.EqAt.str_int a t' b t
  |str b=>obtain⟨t,rfl⟩:=rx;exact SeqAt.EqAt.str_str a t' b t
  |_=>exact absurd (show false=true from fx) bN
 |_=>exact absurd (show false=true from fy) bN
noncomputable def eqU(x:V)(u:BJ):Bool:=match u with
 |.none=>eqV .non x
 |.bool b=>eqV (.bl b) x
 |.int i _=>eqV (.int i) x
 |.str z _=>eqV (.str z) x
 |_=>false
theorem aIn{x y:V}{u:BJ}(r:RelV y u)(f:oY y=true):eqU x u=eqV y x:=by
 cases y with
 |non=>cases r;rfl
 |bl b=>cases r;rfl
 |int i=>obtain⟨t,rfl⟩:=r;rfl
 |str z=>obtain⟨t,rfl⟩:=r;rfl
 |_=>exact absurd (show false=true from f) bN
theorem aAu{x:V}:∀ {xs:List V}{us:List BJ},Vals xs us->xs.all oY=true->us.any (eqU x)=xs.any λy=>eqV y x
 |_,_,.nil,_=>rfl
 |y::xs,u::us,.cons r t,f=>by rw[aNr,bH] at f;rw[oC,oC,aIn r f.1,aAu t f.2]
theorem vZ{A:BM}{s:BK}{x:V}{v:BJ}(rx:RelV x v)(fx:oY x=true):∀ {xs:List V}{us:List BJ},Vals xs us->xs.all oY=true->∀u∈us,SeqAt.EqAt A s u v (eqU x u)
 |_,_,.nil,_=>λu hu=>by cases hu
 |y::xs,u::us,.cons r t,f=>λu' hu=>by
  rw[aNr,bH] at f
  rcases aX.mp hu with rfl|hu
  ·rw[aIn r f.1];exact wY r rx f.1 fx
  ·exact vZ rx fx t f.2 u' hu
noncomputable def inV(x:V)(xs:List V):Bool:=xs.any λy=>eqV y x
noncomputable def rIn(K:aA)(neg:Bool):R2:=λx y H Q=>∃p xs,y=.ref p/\(SqL K H p xs\/SqT K H p xs)/\oY x=true/\xs.all oY=true/\Q (.bl (if neg then !inV x xs else inV x xs)) H
theorem aEX:OpR X (AT .In) (rIn X.K false):=by
 intro pins s σ H x y v u Q I rx ry h;obtain⟨p,xs,rfl,hq,fx,fs,q⟩:=h;cases ry
 rcases hq with hq|hq
 ·obtain⟨its,r,pl,hz⟩:=I.list hq;refine SeqAt.in_listAt (eqU x) pl.isList (λw hw=>vZ rx fx r fs w (by simpa using hw)) ⟨.bl _,H,I,rfl, ?_⟩;rw[show its.toArray.any (eqU x)=its.any (eqU x) by simp,aAu r fs];exact q
 ·obtain⟨its,r,pl,hz⟩:=I.tuple hq;refine SeqAt.in_tupleAt (eqU x) pl (λw hw=>vZ rx fx r fs w (by simpa using hw)) ⟨.bl _,H,I,rfl, ?_⟩;rw[show its.toArray.any (eqU x)=its.any (eqU x) by simp,aAu r fs];exact q
theorem sG:lY X (.builtin "len") (λxs H Q=>∃p ys,xs=[.ref p]/\(SqL X.K H p ys\/SqT X.K H p ys)/\Q (.int ys.length) H):=by
 intro pins s σ H xs us Q I r h;obtain⟨p,ys,rfl,hq,q⟩:=h;obtain⟨u,rfl,rx⟩:=pO r;cases rx;have hn:=aCT
 rcases hq with hq|hq
 ·obtain⟨its,r',pl,hz⟩:=I.list hq;have hlen:=r'.length;exact Calls.call_len_list pl.isList (by simp only[aS]<;>omega) ⟨.int ys.length,H,I.tok _,⟨s.toks+1,by rw[aS,hlen]⟩,q⟩
 ·obtain⟨its,r',pl,hz⟩:=I.tuple hq;have hlen:=r'.length;exact len_tuple pl (by simp only[aS]<;>omega) ⟨.int ys.length,H,I.tok _,⟨s.toks+1,by rw[aS,hlen]⟩,q⟩
theorem yA:lY X (.type "tuple") (λxs H Q=>∃p ys,xs=[.ref p]/\((SqL X.K H p ys/\∀l,H l=none->Q (.ref l) (upd H l (.tup ys)))\/(SqT X.K H p ys/\Q (.ref p) H))):=by
 intro pins s σ H xs us Q I r h;obtain⟨p,ys,rfl,h⟩:=h;obtain⟨u,rfl,rx⟩:=pO r;cases rx
 rcases h with⟨hq,q⟩|⟨hq,q⟩
 ·obtain⟨its,r',pl,hz⟩:=I.list hq;have hlen:=r'.length;refine call_tuple_list pl.isList (λh' kp=> ?_) (by simp only[aS]<;>omega);have I1:Inv X pins σ H {s with heap:=h'}:=I.kept (t':=s.toks) kp
  have I2:Inv X pins σ (upd H h'.objs.size (.tup ys)) {s with heap:=h'.push {cls:=.type "tuple",data:=.seq its.toArray}}:=
   I1.laid (t':=s.toks) (λb o e=>aI _ e) (aM _) (show ObjOk X.prog X.w _ _ _ (.tup ys) from⟨hz,its,r',IsTupD.new _ _⟩)
  exact⟨.ref h'.objs.size,_,I2,rfl,q _ (I1.hok.fresh (aM _))⟩
 ·obtain⟨its,r',pl,hz⟩:=I.tuple hq;exact call_tuple_same pl ⟨.ref p,H,I,rfl,q⟩
def tyV(K:aA)(T:String)(x:V)(H:Hp):Prop:=match x with
 |.str _=>T="str"
 |.int _=>T="int"
 |.ref p=>(T="list"/\∃xs,SqL K H p xs)\/(T="tuple"/\∃o,K.lookup p=some o/\o.cls=.type "tuple"/\o.dict=none)\/
   (T="dict"/\((∃kvs,H p=some (.dK kvs))\/∃kvs,H p=some (.dT kvs)))\/(T="set"/\∃S n,H p=some (.set S n))
 |_=>False
theorem aMn{pins:List (BL×BO)}{σ:St}{H:Hp}{s:BK}{T:String}{x:V}{v:BJ}(I:Inv X pins σ H s)(r:RelV x v)(ty:tyV X.K T x H):
  s.TypeIs v T/\∀a,v=.ref a->∃ob,s.heap.get? a=some ob/\ob.dict=none:=by
 cases x with
 |str z=>obtain⟨t,rfl⟩:=r;cases(show T="str" from ty);exact⟨typeIs_str s z t,λ_ e=>nomatch e⟩
 |int i=>obtain⟨t,rfl⟩:=r;cases(show T="int" from ty);exact⟨typeIs_int s i t,λ_ e=>nomatch e⟩
 |ref p=>
  cases r
  rcases ty with⟨rfl,xs,hq⟩|⟨rfl,o,hk,hc,hd⟩|⟨rfl,hk⟩|⟨rfl,S,n,hk⟩
  ·obtain⟨its,_,pl,_⟩:=I.list hq;refine⟨pl.isList.typeIs,λa e=> ?_⟩;cases e;obtain⟨o,n,e,c,hd,_⟩:=pl;exact⟨o,e,hd⟩
  ·refine⟨⟨o,I.kIn p o hk,hc⟩,λa e=> ?_⟩;cases e;exact⟨o,I.kIn _ o hk,hd⟩
  ·have z:∃o,s.heap.get? p=some o/\o.ExactDict:=by
    rcases hk with⟨kvs,hk⟩|⟨kvs,hk⟩
    ·obtain⟨_,_,_,_,o,_,_,e,ex,_⟩:=I.hok p _ hk;exact⟨o,e,ex⟩
    ·obtain⟨_,_,_,_,o,_,_,e,ex,_⟩:=I.hok p _ hk;exact⟨o,e,ex⟩
   obtain⟨o,e,ex⟩:=z;refine⟨⟨o,e,ex.1⟩,λa e2=> ?_⟩;cases e2;exact⟨o,e,ex.2.1⟩
  ·obtain⟨o,_,_,_,e,ex,_⟩:=I.hok p _ hk;refine⟨⟨o,e,ex.1⟩,λa e2=> ?_⟩;cases e2;exact⟨o,e,ex.2.1⟩
 |_=>exact False.elim ty
noncomputable def tBM(K:aA)(T:String)(r:V->List V->Hp->VK->Prop)(to:TE)(t:TA):TE:=λσ H Q=>to σ H λx H1=>tyV K T x H1/\t σ H1 λxs H2=>r x xs H2 Q
variable {o e:Expr}{es:List Expr}{to:TE}{t:TA}{name:Str}{apos cpos:Pos}{T id:String}{r:V->List V->Hp->VK->Prop}
theorem zJ(pa:PlainAttrs T)(slot:Slot T name id)(hty:typeOf (.builtin id)=pure (.type "method_descriptor"))(hm:MtR X id r)(ho:PE X o to)(ha:PA X (e::es) t)
  (hbase:BF o name X.env (eval o X.env)=eval o X.env:=by rfl)
  (hfew:((Au cpos (AG (e::es) X.env)).all (fun x=> !x.1) && (backToKw cpos (keywordEach [] X.env)).all (fun x=>x.1.isSome)
  &&decide ((e::es).length+([]:List Keyword).length+(if([]:List Keyword).isEmpty then 0 else 1)<30))=true:=by rfl)
  (hline:(apos.endLine==cpos.line)=true:=by rfl) (hs:AG (e::es) X.env=(false,eval e X.env)::AG es X.env:=by rfl) (hplain:(Au cpos (AG es X.env)).any (·.1)=false:=by rfl):
  PE X (.Call (.Attribute o name apos) (e::es) [] cpos) (tBM X.K T r to t):=by
 intro pins s σ H Q I h;refine wpAny_Call_method_late hbase hfew hline rfl (thn (ho pins s σ H _ I h) λv s1 ⟨x,H1,I1,r1,ty,q1⟩=> ?_);obtain⟨h1,h2⟩:=aMn I1 r1 ty;refine⟨T,id,pa,slot,hty,h1,h2, ?_⟩;have hA:=ha cpos pins s1 σ H1 _ I1 q1;rw[hs] at hA ⊢;refine Calls.callWith_builtin (by show(false||(Au cpos (AG es X.env)).any (·.1))=false;rw[hplain]<;>rfl) (Calls.evalArgs_plain ?_);exact thn hA λus s2 ⟨vs,H2,I2,r2,q2⟩=>hm pins s2 σ H2 x vs v us Q I2 r1 r2 q2
/- xs.append(e),list.index on a module's tuple .. are MtR facts of 06m -/
end
def MtM(X:Cx)(id:String)(r:V->List V->Hp->VK->Prop):Prop:=
 ∀ (pins:List (BL×BO)) (s:BK) (σ:St) (H:Hp) (x:V) (xs:List V) (v:BJ) (us:List BJ) (Q:VK),Inv X pins σ H s->RelV x v->Vals xs us->r x xs H Q->
  AK (AH X.prog X.w) X.A (call (.builtin id) (v::us)) (EP X pins σ Q) X.xe s
theorem Vals.one:∀ {x:V}{us:List BJ},Vals [x] us->∃u,us=[u]/\RelV x u
 |_,_,.cons r .nil=>⟨_,rfl,r⟩
section
variable {X:Cx}{pins:List (BL×BO)}{σ:St}{H:Hp}{s:BK}{l b:BL}{xs ys zs:List V}
theorem Inv.lset{its its':List BJ}{n:Nat}{f:Array BJ->Array BJ}{t':Nat}(I:Inv X pins σ H s)(hH:H l=some (.lst xs))
  (e:s.heap.get? l=some {cls:=.type "list",data:=.seq its.toArray n}) (hf:f its.toArray=its'.toArray) (hv:Vals ys its') (hz:ys.length<=AL):
  Inv X pins σ (upd H l (.lst ys)) {s with heap:=s.heap.update l (Obj.mapSeq f),toks:=t'}:=by
 have q:=PySem.IsL.update e f;rw[hf] at q;refine I.write (x:=l) (e:=l) (by rw[hH];exact trivial) (.inl rfl) (λb' u hb hu=>(dR s.heap (Obj.mapSeq f) (Ne.symm hb)).trans hu) ⟨_,q⟩ ?_;exact⟨hz,its',_,hv,q⟩
theorem Inv.lstM(I:Inv X pins σ H s)(hH:H l=some (.lst xs)):xs.length<=AL/\∃ (its:List BJ) (n:Nat),Vals xs its/\xs.length=its.length/\s.heap.get? l=some {cls:=.type "list",data:=.seq its.toArray n}:=by obtain⟨z,its,n,r,e⟩:=I.hok l _ hH;exact⟨z,its,n,r,r.length,e⟩
theorem aHa{n:Nat}(h:n<=AL):Builtin.List.listTooLong n=false:=by unfold Builtin.List.listTooLong;exact decide_eq_false (by omega)
end
section
variable {X:Cx}
def qB:V->List V->Hp->VK->Prop:=λx vs H Q=>∃l xs y,x=.ref l/\vs=[y]/\H l=some (.lst xs)/\xs.length<AL/\Q .non (upd H l (.lst (xs++[y])))
theorem tM:MtM X "list.append" qB:=by intro pins s σ H x vs v us Q I rx rv h;obtain⟨l,xs,y,rfl,rfl,hH,hz,q⟩:=h;cases rx;obtain⟨u,rfl,ru⟩:=rv.one;obtain⟨z,its,n,r,hl,e⟩:=I.lstM hH;refine call_meets F.slot_list_append ⟨_,e,rfl⟩ F.entry_list_append (F.args_list_append_2 _ _) (PySem.list_append l its.toArray n u (by rw[aS];omega)) ⟨e, ?_⟩;refine⟨.non,_,I.lset (its':=its++[u]) hH e (by simp) (r.append (.cons ru .nil)) ?_,rfl,q⟩;rw[aP,List.length_singleton];omega
def aDv:V->List V->Hp->VK->Prop:=λx vs H Q=>∃l b xs zs,x=.ref l/\vs=[.ref b]/\H l=some (.lst xs)/\H b=some (.lst zs)/\xs.length+zs.length<=AL/\Q .non (upd H l (.lst (xs++zs)))
theorem aEw:MtM X "list.extend" aDv:=by
 intro pins s σ H x vs v us Q I rx rv h;obtain⟨l,b,xs,zs,rfl,rfl,hH,hB,hz,q⟩:=h;cases rx;obtain⟨u,rfl,ru⟩:=rv.one;cases ru;obtain⟨z,its,n,r,hl,e⟩:=I.lstM hH;obtain⟨z2,its2,n2,r2,hl2,e2⟩:=I.lstM hB;have hsz:its.toArray.size+its2.toArray.size<=AL:=by rw[aS,aS];omega
 have hlong:¬ (!its.toArray.isEmpty&&Builtin.List.listTooLong (its.toArray.size+its2.toArray.size))=true:=by rw[aHa hsz,Bool.and_false];exact bN
 refine call_meets F.slot_list_extend ⟨_,e,rfl⟩ F.entry_list_extend (F.args_list_extend_2 _ _)
  (AutoSeq1.list_extend_list_list_0 l its.toArray n b its2.toArray n2 hlong (by rw[aS];omega) (by omega)) ⟨e,e2, ?_⟩
 refine⟨.non,_,I.lset (its':=its++its2) hH e (by simp) (r.append r2) ?_,rfl,q⟩;rw[aP];omega
def aNH:V->List V->Hp->VK->Prop:=λx vs H Q=>∃l xs y,x=.ref l/\vs=[]/\H l=some (.lst xs)/\xs[xs.length-1]? =some y/\Q y (upd H l (.lst xs.dropLast))
end
section
variable {prog:AD}{w:AM}{A:BM}{E:BJ->BK->Prop}{s:BK}
set_option maxRecDepth 100000 in
end
section
variable {κ:Type}[DecidableEq κ]
noncomputable def gO(kvs:List (κ×V))(k:κ):Option V:=(kvs.find? λkv=>decide (kv.1=k)).map (·.2)
noncomputable def sE(kvs:List (κ×V))(k:κ)(v:V):List (κ×V):=
 if(kvs.any λkv=>decide (kv.1=k))=true then kvs.map (λkv=>if kv.1=k then(kv.1,v) else kv) else kvs++[(k,v)]
theorem iH{p:κ×V}{r:List (κ×V)}{k:κ}(e:p.1=k):gO (p::r) k=some p.2:=by simp[gO,iK,e]
theorem gM{p:κ×V}{r:List (κ×V)}{k:κ}(e:¬ p.1=k):gO (p::r) k=gO r k:=by simp[gO,iK,e]
theorem xO(k:κ):∀kvs:List (κ×V),(kvs.any λkv=>decide (kv.1=k))=(gO kvs k).isSome
 |[]=>rfl
 |p::r=>by
  rw[oC]
  by_cases e:p.1=k
  ·simp only[iH e,decide_eq_true e,aOC,Option.isSome_some]
  ·rw[gM e,decide_eq_false e,aBQ];exact xO k r
theorem nX(k j:κ)(y:V):∀kvs:List (κ×V),gO kvs k=none->gO (kvs++[(k,y)]) j=if j=k then some y else gO kvs j
 |[],_=>by
  by_cases e:k=j
  ·rw[if_pos e.symm];exact iH (p:=(k,y)) e
  ·rw[if_neg (λz=>e z.symm)];exact gM (p:=(k,y)) e
 |p::r,hn=>by
  rw[aKF];have hk:¬ p.1=k:=λz=>by rw[iH z] at hn;cases hn
  rw[gM hk] at hn;have ih:=nX k j y r hn
  by_cases e:p.1=j
  ·rw[iH e,iH e,if_neg (λz=>hk (e.trans z))]
  ·rw[gM e,gM e,ih]
theorem uI(kvs:List (κ×V))(k:κ)(v:V):(sE kvs k v).length<=kvs.length+1:=by
 unfold sE
 split
 ·rw[aB];omega
 ·rw[aP,bS,gW];omega
theorem pN{kvs:List (κ×V)}{k:κ}(v:V)(h:gO kvs k=none):sE kvs k v=kvs++[(k,v)]:=by unfold sE;rw[xO,h];exact if_neg (by decide)
theorem RelO.isSome_eq{o:Option V}{u:Option BJ}(r:RelO o u):o.isSome=u.isSome:=by
 cases o with
 |none=>cases u with
  |none=>rfl
  |some _=>exact(show False from r).elim
 |some _=>cases u with
  |none=>exact(show False from r).elim
  |some _=>rfl
theorem RelO.getD{o:Option V}{u:Option BJ}{d:V}{d':BJ}(r:RelO o u)(rd:RelV d d'):RelV (o.getD d) (u.getD d'):=by
 cases o with
 |none=>cases u with
  |none=>exact rd
  |some _=>exact(show False from r).elim
 |some _=>cases u with
  |none=>exact(show False from r).elim
  |some _=>exact r
theorem KV.val{kvs:List (κ×V)}{vs:List (κ×BJ)}(r:KV kvs vs)(k:κ):RelO (gO kvs k) (valueAt vs k):=by
 unfold KV at r
 induction r with
 |nil=>exact True.intro
 |@cons p q ps qs h t ih=>
  obtain⟨h1,h2⟩:=h
  by_cases e:p.1=k
  ·have e':q.1=k:=h1.symm.trans e;have b:valueAt (q::qs) k=some q.2:=by simp[valueAt,iK,e']
   rw[iH e,b];exact h2
  ·have e':¬ q.1=k:=λz=>e (h1.trans z)
   have b:valueAt (q::qs) k=valueAt qs k:=by simp[valueAt,iK,e']
   rw[gM e,b];exact ih
theorem KV.any{kvs:List (κ×V)}{vs:List (κ×BJ)}(r:KV kvs vs)(k:κ):(kvs.any λkv=>decide (kv.1=k))=vs.any λkv=>decide (kv.1=k):=by
 unfold KV at r
 induction r with
 |nil=>rfl
 |cons h t ih=>rw[oC,oC,ih,h.1]
theorem KV.repl{kvs:List (κ×V)}{vs:List (κ×BJ)}(r:KV kvs vs)(k:κ){y:V}{u:BJ}(ry:RelV y u):
  KV (kvs.map λkv=>if kv.1=k then(kv.1,y) else kv) (vs.map λkv=>if kv.1=k then(kv.1,u) else kv):=by
 unfold KV at r ⊢
 induction r with
 |nil=>exact .nil
 |@cons p q ps qs h t ih=>
  rw[bC,bC];refine .cons ?_ ih;obtain⟨h1,h2⟩:=h
  by_cases e:p.1=k
  ·rw[if_pos e,if_pos (h1.symm.trans e)];exact⟨h1,ry⟩
  ·rw[if_neg e,if_neg (λz=>e (h1.trans z))];exact⟨h1,h2⟩
theorem KV.put{kvs:List (κ×V)}{vs:List (κ×BJ)}(r:KV kvs vs)(k:κ){y:V}{u:BJ}(ry:RelV y u):KV (sE kvs k y) (stored vs k u):=by
 unfold sE stored;rw[r.any k]
 by_cases e:(vs.any λkv=>decide (kv.1=k))=true
 ·rw[if_pos e,if_pos e];exact r.repl k ry
 ·rw[if_neg e,if_neg e];exact Paired.snoc r ⟨rfl,ry⟩
theorem KV.length{kvs:List (κ×V)}{vs:List (κ×BJ)}(r:KV kvs vs):kvs.length=vs.length:=Paired.length r
end
theorem aFW{P:AD}{w:AM}{k:Key}{u:BJ}(r:RelV (kV k) u):(eO P w).is k u=true:=by
 cases k with
 |inl i=>obtain⟨t,e⟩:=(show ∃t,u=Value.int i t from r);subst e;exact aAN P w i t
 |inr x=>obtain⟨t,e⟩:=(show ∃t,u=Value.str x t from r);subst e;exact aAO P w x t
theorem yM{P:AD}{w:AM}:∀ {ks:List Key}{us:List BJ},Vals (ks.map kV) us->ItemsAre (eO P w) ks us
 |[],_,r=>by rw[eY] at r;cases r;exact .nil
 |k::ks,_,r=>by
  rw[bC] at r;cases r with
  |cons h t=>exact .cons (aFW h) (yM t)
abbrev KT(H:Hp):List (List Key×V)->List (List Key×BL×BJ)->Prop:=Paired λp q=>p.1=q.1/\H q.2.1=some (.tup (p.1.map kV))/\RelV p.2 q.2.2
theorem KT.val{H:Hp}{kvs:List (List Key×V)}{xs:List (List Key×BL×BJ)}(r:KT H kvs xs)(k:List Key):RelO (gO kvs k) ((atKey xs k).map (·.2)):=by
 induction r with
 |nil=>exact True.intro
 |@cons p q ps qs h t ih=>
  obtain⟨h1,_,h2⟩:=h
  by_cases e:p.1=k
  ·have e':q.1=k:=h1.symm.trans e;have b:atKey (q::qs) k=some q.2:=by simp[atKey,iK,e']
   rw[iH e,b];exact h2
  ·have e':¬ q.1=k:=λz=>e (h1.trans z)
   have b:atKey (q::qs) k=atKey qs k:=by simp[atKey,iK,e']
   rw[gM e,b];exact ih
theorem KT.repl{H:Hp}{kvs:List (List Key×V)}{xs:List (List Key×BL×BJ)}(r:KT H kvs xs)(k:List Key){y:V}{u:BJ}(ry:RelV y u):
  KT H (kvs.map λkv=>if kv.1=k then(kv.1,y) else kv) (xs.map (putAt k u)):=by
 induction r with
 |nil=>exact .nil
 |@cons p q ps qs h t ih=>
  rw[bC,bC];refine .cons ?_ ih;obtain⟨h1,h2,h3⟩:=h;unfold putAt
  by_cases e:p.1=k
  ·rw[if_pos e,if_pos (h1.symm.trans e)];exact⟨h1,h2,ry⟩
  ·rw[if_neg e,if_neg (λz=>e (h1.trans z))];exact⟨h1,h2,h3⟩
theorem KT.put{H:Hp}{kvs:List (List Key×V)}{xs:List (List Key×BL×BJ)}(r:KT H kvs xs)(k:List Key){b:BL}{y:V}{u:BJ}(hb:H b=some (.tup (k.map kV)))(ry:RelV y u):
  KT H (sE kvs k y) (storedH xs k b u):=by
 have e:(kvs.any λkv=>decide (kv.1=k))=(atKey xs k).isSome:=by rw[xO,(r.val k).isSome_eq,aFC]
 unfold sE storedH;rw[e]
 by_cases q:(atKey xs k).isSome=true
 ·rw[if_pos q,if_pos q];exact r.repl k ry
 ·rw[if_neg q,if_neg q];exact Paired.snoc r ⟨rfl,hb,ry⟩
theorem KT.keeps{H H':Hp}{kvs:List (List Key×V)}{xs:List (List Key×BL×BJ)}(r:KT H kvs xs)(ht:∀b ys,H b=some (.tup ys)->H' b=some (.tup ys)):KT H' kvs xs:=
 Paired.mapP r λ_ _ z=>⟨z.1,ht _ _ z.2.1,z.2.2⟩
section
variable {P:AD}{w:AM}{H:Hp}{h:BN}{a:BL}
theorem aLa{u:HO}(ok:HOk P w H h)(e:Rd H a u):ObjOk P w H h a u:=e.ok ok
theorem aIY{kvs:List (Key×V)}(ok:HOk P w H h)(e:Rd H a (.dK kvs)):kvs.length<=AL/\(a==AU)=false/\∃vs,KV kvs vs/\h.DictOf (eO P w) a vs:=
 show ObjOk P w H h a (.dK kvs) from aLa ok e
theorem aLC{kvs:List (Key×V)}(ok:HOk P w H h)(e:H a=some (.dK kvs)):kvs.length<=AL/\(a==AU)=false/\∃vs,KV kvs vs/\h.DictOf (eO P w) a vs:=aIY ok (.inl e)
theorem oM{ks:List Key}(ok:HOk P w H h)(e:H a=some (.tup (ks.map kV))):(AR (eO P w)).is h ks a:=by obtain⟨_,its,r,o,h1,h2,⟨n,h3⟩,_⟩:=(show ObjOk P w H h a (.tup (ks.map kV)) from ok a _ e);exact⟨o,its.toArray,n,h1,h2,h3,by simpa using yM r⟩
theorem aIS{kvs:List (List Key×V)}(ok:HOk P w H h)(e:Rd H a (.dT kvs)):kvs.length<=AL/\(a==AU)=false/\
  ∃xs,KT H kvs xs/\h.DictOfH (AR (eO P w)) a xs:=by
 obtain⟨z,y,xs,r,o,es,ep,h1,h2,h3,h4,h5⟩:=(show ObjOk P w H h a (.dT kvs) from aLa ok e);refine⟨z,y,xs,r,o,es,ep,h1,h2,h3,h4,λx hx=> ?_,h5⟩
 have all:∀ {l:List (List Key×V)}{m:List (List Key×BL×BJ)},KT H l m->∀x∈m,(AR (eO P w)).is h x.1 x.2.1:=by
  intro l m q
  induction q with
  |nil=>intro x hx;exact nomatch hx
  |@cons p q ps qs hq t ih=>
   intro x hx
   rcases aX.mp hx with e|hx
   ·subst e;exact oM ok (by rw[<-hq.1];exact hq.2.1)
   ·exact ih x hx
 exact all r x hx
theorem aNS{kvs:List (List Key×V)}(ok:HOk P w H h)(e:H a=some (.dT kvs)):kvs.length<=AL/\(a==AU)=false/\
  ∃xs,KT H kvs xs/\h.DictOfH (AR (eO P w)) a xs:=aIS ok (.inl e)
end
def DGet(H:Hp)(a:BL)(y:V)(r:Option V):Prop:=
 (∃kvs k,Rd H a (.dK kvs)/\y=kV k/\r=gO kvs k)\/∃kvs k b,Rd H a (.dT kvs)/\y=.ref b/\H b=some (.tup (k.map kV))/\r=gO kvs k
def DPut(H:Hp)(a:BL)(y v:V)(H':Hp):Prop:=
 (∃kvs k,H a=some (.dK kvs)/\y=kV k/\kvs.length<AL/\H'=upd H a (.dK (sE kvs k v)))\/
 ∃kvs k b,H a=some (.dT kvs)/\y=.ref b/\H b=some (.tup (k.map kV))/\kvs.length<AL/\H'=upd H a (.dT (sE kvs k v))
theorem DGet.k{H:Hp}{a:BL}{kvs:List (Key×V)}{k:Key}(e:H a=some (.dK kvs)):DGet H a (kV k) (gO kvs k):=.inl ⟨kvs,k,.inl e,rfl,rfl⟩
theorem DPut.k{H:Hp}{a:BL}{kvs:List (Key×V)}{k:Key}{v:V}(e:H a=some (.dK kvs))(hl:kvs.length<AL):DPut H a (kV k) v (upd H a (.dK (sE kvs k v))):=.inl ⟨kvs,k,e,rfl,hl,rfl⟩
section
variable {X:Cx}{pins:List (BL×BO)}{σ:St}{H:Hp}{s:BK}{a:BL}{y v:V}{u r:BJ}{o:Option V}{A:BM}{E:BJ->BK->Prop}
theorem Inv.big(I:Inv X pins σ H s):AU<s.heap.objs.size:=by have h:AQ<s.heap.objs.size:=(I.mod.glob.keeps I.bk).lt;exact pQ (by decide) h
theorem oO{h':BN}{t':Nat}{ob:HO}(I:Inv X pins σ H s)(mu:Mut (H a))(hs:Heap.SameBut a s.heap h')(he:∃q,h'.get? a=some q)(new:ObjOk X.prog X.w (upd H a ob) h' a ob):
  Inv X pins σ (upd H a ob) {s with heap:=h',toks:=t'}:=
 I.write (x:=a) (e:=a) mu (.inl rfl) (λb q hb z=>(hs.2 b hb).trans z) he new
theorem aHC{P:AD}{w:AM}{H':Hp}{h':BN}{kvs:List (Key×V)}{vs:List (Key×BJ)}(z:kvs.length<=AL)(hd:(a==AU)=false)(rel:KV kvs vs)(dd:h'.DictOf (eO P w) a vs):
  ObjOk P w H' h' a (.dK kvs):=⟨z,hd,vs,rel,dd⟩
theorem aEo{H':Hp}{Q:Unit->BK->Prop}(hu:A.units+1<AO)(I:Inv X pins σ H s)(g:DPut H a y v H')(ry:RelV y u)(rv:RelV v r)(h:∀s',Inv X pins σ H' s'->Q () s'):
  AK (AH X.prog X.w) A (setItem (.ref a) u r) Q E s:=by
 rcases g with⟨kvs,k,e,ey,l,eH⟩|⟨kvs,k,b,e,ey,eb,l,eH⟩
 ·subst ey eH;obtain⟨z,hd,vs,rel,dd⟩:=aLC I.hok e;have hz:vs.length<=AL:=by rw[<-rel.length];exact z
  have hl:(sE kvs k v).length<=AL:=by have:=uI kvs k v;omega
  refine wpAny_setItem_pairs (hsz:=hz) (aFW ry) dd λh' dd' hs=>h _ ?_
  have he:∃q,h'.get? a=some q:=let ⟨q,_,_,hq,_⟩:=dd';⟨q,hq⟩
  exact oO I (by rw[e];exact True.intro) hs he (aHC hl hd (rel.put k rv) dd')
 ·subst ey eH;cases(show u=Value.ref b from ry);obtain⟨z,hd,xs,rel,dd⟩:=aNS I.hok e;have hz:xs.length<=AL:=by rw[<-Paired.length rel];exact z
  have hl:(sE kvs k v).length<=AL:=by have:=uI kvs k v;omega
  refine wpAny_setItem_heap (hsz:=hz) (Aq hu) (oM I.hok eb) dd λh' dd' hs=>h _ ?_
  obtain⟨q,es,ep,hq,h2,h3,h4,_,h5⟩:=dd';refine oO I (by rw[e];exact True.intro) hs ⟨q,hq⟩ ⟨hl,hd,_,(rel.put k eb rv).keeps λc ys ec=> ?_,q,es,ep,hq,h2,h3,h4,h5⟩;rw[bK (aOp ec e (λz=>nomatch z))];exact ec
end
def aOJ(i:Expr):Prop:=∀ov iv,subscripted i false ov iv=operate [ov,iv] (getItem ov iv)
theorem aJt{prog:AD}{w:AM}{A:BM}{E:BJ->BK->Prop}{s:BK}{env:Env}{value slice:Expr}{pos:Pos}{T id:String}{Q:BJ->BK->Prop}
  (hl:typeLookup (.type T) "__getitem__"=pure (some (.builtin id))) (hs:aOJ slice)
  (h:AK (AH prog w) A (eval value env) (λo s₁=>AK (AH prog w) A (eval slice env) (λi s₂=>s₂.TypeIs o T/\AK (AH prog w) A (getItem o i) Q E s₂) E s₁) E s):
  AK (AH prog w) A (eval (.Subscript value slice pos) env) Q E s:=by
 refine Subscript_ (Ag h (λo s₁ h₁=>Ag h₁ (λi s₂ h₂=> ?_) λ_ _ x=>x) λ_ _ x=>x);obtain⟨hT,h₂⟩:=h₂;unfold subscriptTail;refine AA ?_;rw[getitemInPython_of_ne hT.not_modules];refine AA (BG hT hl ?_)
 have fin:AK (AH prog w) A (subscripted slice false o i) (λr s₃=>AK (AH prog w) A (letTemporaryGo value o r>>=λ_=>pure r) Q E s₃) E s₂:=by rw[hs o i];exact wpAny_operating (Ag h₂ (λr s₃ h₃=>AA (wpAny_letTemporaryGo (AB h₃))) λ_ _ x=>x)
 first
  |exact AB (AA fin)
  |exact AA (AB (AA fin))
  |exact AA fin
noncomputable def aLk(td ty tv:TE):TS:=λD σ H=>tv σ H λv H1=>td σ H1 λx H2=>ty σ H2 λy H3=>∃a H4,x=.ref a/\DPut H3 a y v H4/\D.nx σ H4
section
variable {X:Cx}{o i e value:Expr}{pos pos' tpos:Pos}{td ty tv:TE}
theorem aKf(hu:X.A.units+1<AO)(ho:PE X o td)(hi:PE X i ty)(hv:PE X value tv)(hs:Ad value (some (.Subscript o i pos')) pos.line X.env=pure false):
  PS X (.Assign [.Subscript o i pos'] value pos) (aLk td ty tv):=by
 intro pins s σ H D I h;refine wpAny_Assign_Subscript (thn (hv pins s σ H _ I h) λr s1 ⟨v,H1,I1,rv,q1⟩=>thn (ho pins s1 σ H1 _ I1 q1) λu s2 ⟨x,H2,I2,rx,q2⟩=>thn (hi pins s2 σ H2 _ I2 q2) λiv s3 ⟨y,H3,I3,ry,a,H4,ex,g,q3⟩=> ?_) hs;subst ex;obtain rfl:u=Value.ref a:=rx;exact aEo hu I3 g ry rv λs4 I4=>⟨σ,H4,I4,q3⟩
end
theorem aGK{P:AD}{w:AM}{H:Hp}(h:BN)(hb:AU<h.objs.size):ObjOk P w H (h.push {cls:=.type "dict",data:=.dict #[]}) h.objs.size (.dK []):=
 ⟨bY _,beq_eq_false_iff_ne.mpr (Ne.symm (bO hb)),[],.nil,Heap.DictOf.new h⟩
noncomputable def aMV:TE:=λ_ H Q=>∀p,H p=none->Q (.ref p) (upd H p (.dK []))
section
variable {X:Cx}{pos:Pos}
theorem aGh:PE X (.Dict [] [] pos) aMV:=λpins s σ H Q I h=>wpAny_Dict_empty ⟨.ref s.heap.objs.size,_,I.laid (a:=s.heap.objs.size) (o:=.dK []) (t':=s.toks) (λ_ _ q=>aI _ q) (aM _) (aGK s.heap I.big),rfl,h _ (I.hok.fresh (aM _))⟩
end
abbrev VV:List (V×V)->List (BJ×BJ)->Prop:=Paired λp q=>RelV p.1 q.1/\RelV p.2 q.2
structure M1(X:Cx)(o:Expr)(m:Str)(apos:Pos)(e:Expr)(cpos:Pos):Prop where
 base:BF o m X.env (eval o X.env)=eval o X.env
 few:((Au cpos (AG [e] X.env)).all (fun x=> !x.1) && (backToKw cpos (keywordEach [] X.env)).all (fun x=>x.1.isSome)
 &&decide (([e]:List Expr).length+([]:List Keyword).length+(if([]:List Keyword).isEmpty then 0 else 1)<30))=true
 line:(apos.endLine==cpos.line)=true
 trees:Au cpos (AG [e] X.env)=[(false,eval e X.env)]
structure M2(X:Cx)(o:Expr)(m:Str)(apos:Pos)(e f:Expr)(cpos:Pos):Prop where
 base:BF o m X.env (eval o X.env)=eval o X.env
 few:((Au cpos (AG [e,f] X.env)).all (fun x=> !x.1) && (backToKw cpos (keywordEach [] X.env)).all (fun x=>x.1.isSome)
 &&decide (([e,f]:List Expr).length+([]:List Keyword).length+(if([]:List Keyword).isEmpty then 0 else 1)<30))=true
 line:(apos.endLine==cpos.line)=true
 trees:Au cpos (AG [e,f] X.env)=[(false,eval e X.env),(false,eval f X.env)]
def IsD(H:Hp)(a:BL):Prop:=(∃kvs,Rd H a (.dK kvs))\/∃kvs,Rd H a (.dT kvs)
theorem aLZ{X:Cx}{pins:List (BL×BO)}{σ:St}{H:Hp}{s:BK}{a:BL}(I:Inv X pins σ H s)(d:IsD H a):
  s.TypeIs (.ref a) "dict"/\(∀b,Value.ref a=.ref b->∃ob,s.heap.get? b=some ob/\ob.dict=none)/\(a==AU)=false:=by
 rcases d with⟨kvs,e⟩|⟨kvs,e⟩
 ·obtain⟨_,hd,vs,_,dd⟩:=aIY I.hok e;refine⟨dd.typeIs,λb q=> ?_,hd⟩;cases q;obtain⟨ob,_,_,h1,h2,_⟩:=dd;exact⟨ob,h1,h2.2.1⟩
 ·obtain⟨_,hd,xs,_,dd⟩:=aIS I.hok e;refine⟨dd.typeIs,λb q=> ?_,hd⟩;cases q;obtain⟨ob,_,_,h1,h2,_⟩:=dd;exact⟨ob,h1,h2.2.1⟩
section
variable {X:Cx}{pins:List (BL×BO)}{σ:St}{H:Hp}{s:BK}{a:BL}{y d:V}{u r:BJ}{o:Option V}{A:BM}{E:BJ->BK->Prop}
theorem aMw{Q:BJ->BK->Prop}(hu:A.units+1<AO)(I:Inv X pins σ H s)(g:DGet H a y o)(ry:RelV y u)(rd:RelV d r)(h:∀w' s',Inv X pins σ H s'->RelV (o.getD d) w'->Q w' s'):
  AK (AH X.prog X.w) A (call (.builtin "dict.get") [.ref a,u,r]) Q E s:=by
 rcases g with⟨kvs,k,e,ey,l⟩|⟨kvs,k,b,e,ey,eb,l⟩
 ·subst ey;obtain⟨z,hd,vs,rel,dd⟩:=aIY I.hok e;refine Av jJ dd.typeIs oX (oB _ _ _) (meets_dict_get_default (eO X.prog X.w) a (aFW ry) hd r) ⟨_,dd.mapOf,h _ _ (I.tok _) ?_⟩;rw[l];exact(rel.val k).getD rd
 ·subst ey;cases(show u=Value.ref b from ry);obtain⟨z,hd,xs,rel,dd⟩:=aIS I.hok e;refine Av jJ dd.typeIs oX (oB _ _ _) (meetsH_dict_get_default (AR (eO X.prog X.w)) a b hd r) ⟨Aq hu,k,xs,oM I.hok eb,dd,h _ _ (I.tok _) ?_⟩;rw[l];exact(rel.val k).getD rd
end
noncomputable def aML(td ty tx:TE):TE:=λσ H Q=>td σ H λx H1=>∃a,x=.ref a/\IsD H1 a/\ty σ H1 λy H2=>tx σ H2 λz H3=>∃o,DGet H3 a y o/\Q (o.getD z) H3
section
variable {X:Cx}{o e f:Expr}{apos cpos:Pos}{td ty tx:TE}
theorem aGz(hu:X.A.units+1<AO)(ho:PE X o td)(he:PE X e ty)(hf:PE X f tx)(m:M2 X o "get" apos e f cpos):PE X (.Call (.Attribute o "get" apos) [e,f] [] cpos) (aML td ty tx):=by
 intro pins s σ H Q I h;refine wpAny_Call_method m.base m.few m.line gT jJ aAQ (thn (ho pins s σ H _ I h) λu s1 ⟨x,H1,I1,rx,a,ex,d,q1⟩=> ?_);subst ex;obtain rfl:u=Value.ref a:=rx;obtain⟨t1,t2,_⟩:=aLZ I1 d;refine⟨t1,t2, ?_⟩;rw[m.trees]
 refine Calls.callWith_builtin rfl (Calls.evalArgs_plain (Calls.spliced_cons (thn (he pins s1 σ H1 _ I1 q1) λiv s2 ⟨y,H2,I2,ry,q2⟩=>Calls.spliced_cons (thn (hf pins s2 σ H2 _ I2 q2) λfv s3 ⟨z,H3,I3,rz,ov,g,q3⟩=>Calls.spliced_nil ?_))))
 exact aMw hu I3 g ry rz λw' s4 I4 rw'=>⟨_,H3,I4,rw',q3⟩
end
end L2
namespace Att
open PySem PySem.W PySem.Calls PyProof.Rows
theorem uN{P:Params}{h:BN}:∀ (ns:List Int) (vs:List BJ),WellAll P h vs (ns.map WData.int)->IntsAre vs ns:=by
 intro ns
 induction ns with
 |nil=>intro vs w;rw[eY] at w;cases w;exact .nil
 |cons n ns ih=>
  intro vs w;rw[bC] at w;cases w with
  |cons a b=>cases a;exact .cons _ _ (ih _ b)
theorem aFc{l:OpenLaw}{n:Nat}(hn:l.most=some n){P:Params}{h:BN}{args:List WData}{vals:List BJ}
  (hpre:l.row.toRowW.claim.pre args=true) (hwl:WellAll P h vals args):
  ∃a vs ns,vals=[Value.ref a]/\args=[WData.list (ns.map WData.int)]/\h.get? a=some {cls:=.type "list",data:=.seq vs.toArray}/\IntsAre vs ns/\ns.length<=n:=by
 have hsh:WShape.hasAll [] args [.list .int]=true:=(pre_splitW hpre).1;have hc:l.pre.holds [] {args:=args}=true:=(pre_splitW hpre).2;obtain⟨d,r,rfl,h1,h2⟩:=hasAllW_cons hsh;obtain rfl:=hasAllW_nil h2;obtain⟨xs,rfl,h3⟩:=hasW_list h1;obtain⟨ns,rfl⟩:=items_int h3
 have hlen:ns.length<=n:=by
  unfold OpenLaw.pre at hc
  have h4:(WTm.not (.lt (.lit (.int (n:Int))) (.len (.arg 0)))).holds [] {args:=[.list (ns.map .int)]}=true:=by have h4:=(holds_andW hc).1;rw[hn] at h4;exact h4
  have h5:=condW_of h4 (w_not (w_lt w_lit (w_len_list (w_arg rfl))));rw[aB] at h5;refine Nat.le_of_not_lt λq=> ?_
  have q':(n:Int)<((ns.length:Nat):Int):=by omega
  first
   |(rw[decide_eq_true q'] at h5;exact absurd h5 (by decide))
   |(simp at h5;omega)
 cases hwl with
 |cons w1 w2=>
  cases w2;cases w1 with
  |list ho hall=>exact⟨_,_,ns,rfl,rfl,ho,uN ns _ hall,hlen⟩
theorem aEy(l:OpenLaw)(args:List WData):l.row.toRowW.claim.post args (.bool true) args=true:=
 postW_of (r:=l.row.toRowW) (X:=(true==true))
  (show WShape.has [] (.bool true) .bool=true by first|rfl|decide|simp[WShape.has,WShape.arms,WShape.armsAll])
  (show(WTm.eq .res (.lit (.bool true))).value [] {args:=args,res:=some (.bool true),after:=args}=some (.bool (true==true)) from w_eq_bool (w_res rfl) w_lit) rfl
theorem attach_call{l:OpenLaw}{n:Nat}{q:AD}{loose:List Str}{XP:(Str->Option BJ)->BN->Prop}{YP:AM->BN->Prop}{d:DefRec}
  (hn:l.most=some n) (hdf:d.params.defaults=[])
  (call:∀ (w:AM) (s₀ s₁:BK) (mg mb:Str→Option BJ) (fa:BL) (o:BO) (pm cd doc:BJ) (a:BL) (vs:List BJ) (ns:List Int),
   Ground q loose [] XP w s₀ mg mb s₁.heap->YP w s₁.heap->
   s₁.heap.get? fa=some o->o.data=.func (docDef d.name d.params d.body d.scope pm cd doc)->s₁.heap.CodeRec cd d.name->mg d.name=some (.ref fa)->
   s₁.heap.get? a=some {cls:=.type "list",data:=.seq vs.toArray}->IntsAre vs ns->ns.length<=n->s₁.gens= #[]->
   codeAny (AH l.prog w) callerA (.call (.ref fa) ⟨[.ref a],[]⟩) (λr s'=>r=.ok (.ret (.bool true))/\OldK s₁.heap s'.heap/\s'.os=s₁.os/\AllBare s'.gens) s₁):
  WalkO q loose XP YP l.row.toRowW d [] (λf vs=>PySem.call f vs):=by
 intro w s₀ s₁ mg mb G Y fa o pm cd doc dV kV ho hd hcd hD hmg hg args vals as hpre hlay hrd hwl hlo;obtain rfl:dV=.none:=Dflts.none hD hdf;obtain rfl:kV=.none:=Dflts.noKw hD;obtain⟨a,vs,ns,rfl,rfl,hobj,hints,hlen⟩:=aFc hn hpre hwl;refine enter_call (codeAny_mono (call w s₀ s₁ mg mb fa o pm cd doc a vs ns G Y ho (fd_plain hd) hcd hmg hobj hints hlen hg) λr s' hq=> ?_);obtain⟨rfl,h2,h3,h4⟩:=hq;exact⟨.inl ⟨.bool true,.bool true,[],rfl,λ_=>rfl,.bool true,aEy l _,λ_=>⟨List.Pairwise.nil,λ_ hm=>(nomatch hm)⟩⟩,h2,h3,h4⟩
end Att
namespace L2
open PySem PySem.Spec PyProof.Rows
theorem yO:∀ {vs:List BJ}{ns:List Int},IntsAre vs ns->Vals (ns.map V.int) vs
 |_,_,.nil=>.nil
 |_,_,.cons n t h=>.cons ⟨t,rfl⟩ (yO h)
def aNq(H:Hp):Prop:=∀b,H b=none\/∃o xs,H b=some (.frz o (.lst xs))
theorem aGi{P:AD}{w:AM}{K:aA}{mg mb:Str->Option BJ}{CX:CXT}{k:Nat}{fa a:BL}{fd:AX}{x:Str}{sp:Sp}{s₁:BK}{vs:List BJ}{ns:List Int}
  (KX:K.In s₁.heap) (hns:s₁.heap.Ns AQ mg) (hb:s₁.heap.Ns builtinsNs mb) (hbb:∀x:Str,x≠"__name__"->mb x=An x) (hlim:s₁.heap.NoLimit) (hg:s₁.gens= #[])
  (ha:s₁.heap.get? a=some {cls:=.type "list",data:=.seq vs.toArray}) (hi:IntsAre vs ns) (hl:ns.length<=AL) (hr:Room k callerA)
  (F:∀base:BN,K.In base->base.Ns AQ mg->FnOk P w K mg base CX k fa fd [x] sp) (hbind:∀ (s:BK) (u:BJ),BindsTo s fd ⟨[u],[]⟩ [(x,u)])
  (hsp:∀H:Hp,aNq H->SqL K H a (ns.map V.int)->sp [.ref a] H (λv _=>v=.bl true) λ_ _ _=>False)
  (hCX:∀H e s',CX [] H s₁ (λ_ _ _=>False) e s'->False):
  codeAny (AH P w) callerA (.call (.ref fa) ⟨[.ref a],[]⟩) (λr s'=>r=.ok (.ret (.bool true))/\OldK s₁.heap s'.heap/\s'.os=s₁.os/\AllBare s'.gens) s₁:=by
 have rv:=yO hi;have lenV:=hi.length
 have core:∀H:Hp,aNq H->SqL K H a (ns.map V.int)->HOk P w H s₁.heap->(∀b,H b≠none->b=a)->(H a≠none->K.lookup a=none)->
   codeAny (AH P w) callerA (.call (.ref fa) ⟨[.ref a],[]⟩) (λr s'=>r=.ok (.ret (.bool true))/\OldK s₁.heap s'.heap/\s'.os=s₁.os/\AllBare s'.gens) s₁:=by
  intro H hO hS hok hA hK;have base_of:∀ {b:BL}{o:BO},s₁.heap.get? b=some o->H b=none->(zP s₁.heap H).get? b=some o:=λe n=>aGx e n
  have noA:∀ {b:BL}{o:BO}{es:Array DictEntry}{ep:Nat},s₁.heap.get? b=some o->o.data=.dict es ep->H b=none:=λ{b o es ep} e d=>by
   cases q:H b with
   |none=>rfl
   |some u=>have e':b=a:=hA b (by rw[q];simp);subst e';rw[ha] at e;cases e;have d':Data.seq vs.toArray _=Data.dict es ep:=d;cases d'
  have nsK:∀ {b:BL}{m:Str->Option BJ},s₁.heap.Ns b m->(zP s₁.heap H).Ns b m:=λ{b m} ⟨o,es,ep,e,d,r⟩=>⟨o,es,ep,base_of e (noA e d),d,r⟩
  have hKb:K.In (zP s₁.heap H):=fun b o e=>base_of (KX b o e) (by
   cases q:H b with
   |none=>rfl
   |some u=>
    have e':b=a:=hA b (by rw[q];simp);subst e'
    rw[hK (by rw[q];simp)] at e;cases e)
  have hM:Mod K mg (zP s₁.heap H):=⟨hKb,nsK hns,⟨mb,nsK hb,hbb⟩,let ⟨mc,h1,h2⟩:=hlim;⟨mc,nsK h1,h2⟩⟩;have e0:aKK P w K mg (zP s₁.heap H) callerA [] s₁ H:=⟨rfl,hM,λb o e=>aKv e,aFs (aEu _ _),trivial,λb hb=>absurd (show b∈([]:List BL) from hb) (by simp),hok,.of_eq hg⟩;refine codeAny_mono ((F _ hKb (nsK hns)).run callerA [] s₁ H ⟨[.ref a],[]⟩ [.ref a] [.ref a] _ _ hr e0 (hbind s₁ (.ref a)) (.cons rfl .nil) (hsp H hO hS)) λr s' h=> ?_
  cases r with
  |error e=>exact(hCX H e s' h).elim
  |ok fl=>
   cases fl with
   |next=>exact False.elim h
   |brk=>exact False.elim h
   |cont=>exact False.elim h
   |ret u=>
    obtain⟨v,H',os,bare,un,hok',r',q⟩:=h;have q':v=.bl true:=q;subst q';obtain rfl:u=Value.bool true:=r';refine⟨rfl,OldK.of_keep λb o e=> ?_,os,bare⟩;cases q:H b with
    |none=>exact un.keep b o e q (by intro z;exact absurd (show b∈([]:List BL) from z) (by simp)) (by simp)
    |some u=>
     rcases hO b with z|⟨ob,xs,z⟩
     ·rw[q] at z;cases z
     ·have z2:=un.frzs b ob _ z;obtain⟨e1,_⟩:=hok b _ z;obtain⟨e2,_⟩:=hok' b _ z2;rw[e] at e1;cases e1;exact e2
 cases hk:K.lookup a with
 |some o=>
  have e:=KX a o hk;rw[ha] at e;cases e;refine core (λ_=>none) (λ_=>.inl rfl) (.inr ⟨_,vs.toArray,_,hk,rfl,rfl,rfl,by rw[aS,lenV];exact hl,by simpa using rv⟩) (λb u z=>by have z':(none:Option HO)=some u:=z;cases z') (λb z=>absurd rfl z) λz=>absurd rfl z
 |none=>
  refine core (λb=>if b=a then some (.frz {cls:=.type "list",data:=.seq vs.toArray} (.lst (ns.map V.int))) else none) (λb=> ?_) (.inl (.inr ⟨{cls:=.type "list",data:=.seq vs.toArray},if_pos rfl⟩)) (λb u z=> ?_) (λb z=> ?_) λ_=>hk
  ·by_cases hb:b=a
   ·exact .inr ⟨_,_,if_pos hb⟩
   ·exact .inl (if_neg hb)
  ·by_cases hb:b=a
   ·have z':=(if_pos hb).symm.trans z;cases z';subst hb;exact⟨ha,by rw[aB];exact hl,vs,_,rv,ha⟩
   ·have z':=(if_neg hb).symm.trans z;cases z'
  ·by_cases hb:b=a
   ·exact hb
   ·exact absurd (if_neg hb) z
noncomputable abbrev KOf{K:aA}{h:BN}(_:K.In h):aA:=K
theorem walk_of{l:PySem.W.OpenLaw}{n k:Nat}{q:AD}{loose:List Str}{XP:(Str->Option BJ)->BN->Prop}{YP:AM->BN->Prop}{d:DefRec}{K:Params->aA}{CX:AM->CXT}{sp:AM->Sp}{x:Str}
  (hn:l.most=some n) (hn2:n<=AL) (hdf:d.params.defaults=[]) (hr:Room k callerA)
  (hY:∀ (w:AM) (h:BN),YP w h->(K w.params).In h)
  (F:∀ (w:AM) (mg:Str→Option BJ) (fa:BL) (h:BN),(K w.params).In h→h.Ns AQ mg→mg d.name=some (.ref fa)→
   ∃fd:AX,(∀ (s:BK) (u:BJ),BindsTo s fd ⟨[u],[]⟩ [(x,u)])/\
    ∀base:BN,(K w.params).In base->base.Ns AQ mg->FnOk l.prog w (K w.params) mg base (CX w) k fa fd [x] (sp w))
  (hsp:∀ (w:AM) (H:Hp) (a:BL) (ns:List Int),ns.length<=n->aNq H->SqL (K w.params) H a (ns.map V.int)->sp w [.ref a] H (λv _=>v=.bl true) λ_ _ _=>False)
  (hCX:∀ (w:AM) (H:Hp) (s:BK) (e:BJ) (s':BK),CX w [] H s (λ_ _ _=>False) e s'->False):
  PySem.W.WalkO q loose XP YP l.row.toRowW d [] (λf vs=>PySem.call f vs):=by
 refine Att.attach_call hn hdf λw s₀ s₁ mg mb fa o pm cd doc a vs ns G Y ho hd hcd hmg hobj hints hlen hg=> ?_
 have KX:=hY w _ Y;obtain⟨fd,hb,hF⟩:=F w mg fa _ KX G.T.g hmg;exact aGi KX G.T.g G.T.b G.T.builtins G.T.nolimit hg hobj hints (cK hlen hn2) hr hF hb (λH hO hS=>hsp w H a ns hlen hO hS) λH e s'=>hCX w H s₁ e s'
noncomputable def lH(s:BP):Arguments:=match s with
 |.FunctionDef _ a _ _ _ _ _ _ _ _=>a
 |_=>{posonlyargs:=[],args:=[],vararg:=none,kwonlyargs:=[],kw_defaults:=[],kwarg:=none,defaults:=[]}
noncomputable def iX(s:BP):List BP:=match s with
 |.FunctionDef _ _ b _ _ _ _ _ _ _=>b
 |_=>[]
noncomputable def bI(s:BP):Scope:=match s with
 |.FunctionDef _ _ _ _ _ _ sc _ _ _=>sc
 |_=>{kind:=.function,names:=[],isGenerator:=false,isCoroutine:=false}
noncomputable abbrev CX0:CXT:=λ_ _ _ _ _ _=>False
noncomputable abbrev E0:XK:=λ_ _ _=>False
theorem aLl{X:Cx}:aDc CX0 X E0:=λ_ _ _ _ _ _ _ h=>h.elim
structure Fun(K:aA)(x qual:Str)(st:BP)(f:BL)(fd:AX):Prop where
 ex:∃ (oc:BJ) (od:Option BL) (kV doc pm:BJ) (an:Option BL) (cdv ct:BJ) (osl:Array (Option BJ)),
  fd=gK x qual (lH st) (iX st) (bI st) .none kV doc pm an cdv ct/\K.lookup f=some ⟨oc,od,.func fd,osl⟩/\kX K cdv qual=true
 kp:eM K (.ref f)=true
section
variable {P:AD}{w:AM}{K:aA}{mg:Str->Option BJ}{base:BN}
theorem Fun.ok{x qual:Str}{st:BP}{f:BL}{fd:AX}{N ps:List Str}{k:Nat}{sp:Sp}(F:Fun K x qual st f fd)(S:pY N ps (bI st))(len:∀vs H Q E,sp vs H Q E->vs.length=ps.length)
  (hbody:∀ (cdv:BJ) (A:BM) (outer:List Env) (s:BK) (H:Hp) (vs:List V) (Q:VK) (E:XK),Room k (A.deeper (Ah qual (bI st) s.heap.objs.size f cdv))→sp vs H Q E→
   ∃t,PSs (nO CX0 P w K mg base N qual (bI st) f cdv A outer s H E).nox (iX st) t/\t {nx:=λ_ H'=>Q .non H',rt:=Q} (start N vs) H):FnOk P w K mg base CX0 (k+1) f fd ps sp:=by
 obtain⟨oc,od,kV,doc,pm,an,cdv,ct,osl,rfl,lk,hcd⟩:=F.ex;refine aOe lk hcd S len λA outer s H vs Q E hr hsp=> ?_
 obtain⟨t,h,q⟩:=hbody cdv A outer s H vs Q E hr hsp;exact⟨t,h.nox,q⟩
theorem Fun.binds{x qual:Str}{st:BP}{f:BL}{fd:AX}{ps:List Str}(F:Fun K x qual st f fd)
  (h:∀ (kV doc pm:BJ) (an:Option BL) (cdv ct:BJ) (us:List BJ),us.length=ps.length->bindArgs (gK x qual (lH st) (iX st) (bI st) .none kV doc pm an cdv ct) ⟨us,[]⟩=pure (ps.zip us)):Binds K fd ps []:=by
 obtain⟨oc,od,kV,doc,pm,an,cdv,ct,osl,rfl,lk,hcd⟩:=F.ex;exact .all (h kV doc pm an cdv ct)
theorem aHy{x qual:Str}{st:BP}{f:BL}{oc:BJ}{od an:Option BL}{osl:Array (Option BJ)}{kV doc pm cdv ct:BJ}(l:K.lookup f=some ⟨oc,od,.func (gK x qual (lH st) (iX st) (bI st) .none kV doc pm an cdv ct),osl⟩)
  (c:kX K cdv qual=true) (k:eM K (.ref f)=true):Fun K x qual st f (gK x qual (lH st) (iX st) (bI st) .none kV doc pm an cdv ct):=⟨⟨oc,od,kV,doc,pm,an,cdv,ct,osl,rfl,l,c⟩,k⟩
end
theorem hV{n:Nat}(h:n<=1000):n<AL:=cD h (by decide)
section
variable {X:Cx}
theorem pv(i:Nat){x:Str}{pos:Pos}(hN:X.N[i]? =some x:=by rfl)(hv:Vis X.env.scope x:=by first|exact Or.inl rfl|exact Or.inr (Or.inl rfl)|exact Or.inr (Or.inr rfl))(hd:(x==("__debug__":Str))=false:=by decide)
  (hcd:(x==("__classdict__":Str))=false:=by decide):PE X (.Name x pos) (lG i):=aLR hN hv hd hcd
end
theorem aIC{A B:Prop}(h:B):if false=true then A else B:=by rw[if_neg bN];exact h
theorem aIB{A B:Prop}(h:A):if true=true then A else B:=by rw[if_pos rfl];exact h
def Same(H H':Hp):Prop:=∀b o,H b=some o->H' b=some o
theorem Same.refl(H:Hp):Same H H:=λ_ _ h=>h
theorem Same.trans{H H1 H2:Hp}(a:Same H H1)(b:Same H1 H2):Same H H2:=λc o h=>b c o (a c o h)
theorem Same.free{H H':Hp}(e:Same H H'){l:BL}(h:H' l=aNs):H l=aNs:=by
 cases q:H l with
 |none=>rfl
 |some o=>rw[e l o q] at h;cases h
theorem Same.seq{K:aA}{H H':Hp}{a:BL}{xs:List V}(e:Same H H')(h:SqL K H a xs):SqL K H' a xs:=by
 rcases h with(h|⟨o,h⟩)|h
 ·exact .inl (.inl (e _ _ h))
 ·exact .inl (.inr ⟨o,e _ _ h⟩)
 ·exact .inr h
noncomputable def wE(X:Cx)(e:Expr):TE:=λσ H Q=>∀ (pins:List (BL×BO)) (s:BK),Inv X pins σ H s->AK (AH X.prog X.w) X.A (eval e X.env) (EP X pins σ Q) X.xe s
noncomputable def wT(X:Cx)(e:Expr):TT:=λσ H Q=>∀ (pins:List (BL×BO)) (s:BK),Inv X pins σ H s->AK (AH X.prog X.w) X.A (isTrue e X.env (eval e X.env)) (TP X pins σ Q) X.xe s
noncomputable def wW(X:Cx)(e:Expr):TT:=λσ H Q=>∀ (whole:Sem BJ) (pins:List (BL×BO)) (s:BK),Inv X pins σ H s->AK (AH X.prog X.w) X.A (isTrue e X.env whole) (TP X pins σ Q) X.xe s
noncomputable def wA(X:Cx)(es:List Expr):TA:=λσ H Q=>∀ (pos:Pos) (pins:List (BL×BO)) (s:BK),Inv X pins σ H s->AK (AH X.prog X.w) X.A (spliced (Au pos (AG es X.env))) (AP X pins σ Q) X.xe s
noncomputable def wS(X:Cx)(st:BP):TS:=λD σ H=>∀ (pins:List (BL×BO)) (s:BK),Inv X pins σ H s->AK (AH X.prog X.w) X.A (exec st X.env) (SP X pins D) X.xe s
noncomputable def wSs(X:Cx)(sts:List BP):TS:=λD σ H=>∀ (pins:List (BL×BO)) (s:BK),Inv X pins σ H s->AK (AH X.prog X.w) X.A (execs sts X.env) (SP X pins D) X.xe s
noncomputable def wG(X:Cx)(tg:Expr):TG:=λv σ H Q=>∀ (pins:List (BL×BO)) (s:BK) (u:BJ),Inv X pins σ H s->RelV v u->
  AK (AH X.prog X.w) X.A (assign tg X.env u) (λ_ s'=>∃σ' H',Inv X pins σ' H' s'/\Q σ' H') X.xe s
noncomputable def wI(X:Cx)(tg iter:Expr):TI:=λσ H R=>∀ (pins:List (BL×BO)) (s:BK),Inv X pins σ H s->
  AK (AH X.prog X.w) X.A (eval iter X.env) (λv s1=>AK (AH X.prog X.w) X.A (pyIter v) (PIE X pins σ tg R) X.xe s1) X.xe s
section
variable {X:Cx}{e:Expr}{es:List Expr}{st:BP}{sts:List BP}{tg iter:Expr}{σ:St}{H:Hp}
theorem fW:PE X e (wE X e):=λpins s _ _ _ I h=>h pins s I
theorem aID:PT X e (wT X e):=λpins s _ _ _ I h=>h pins s I
theorem aNu:PW X e (wW X e):=λw pins s _ _ _ I h=>h w pins s I
theorem zV:PA X es (wA X es):=λpos pins s _ _ _ I h=>h pos pins s I
theorem aOK:PS X st (wS X st):=λpins s _ _ _ I h=>h pins s I
theorem uE:PSs X sts (wSs X sts):=λpins s _ _ _ I h=>h pins s I
theorem aNI:PG X tg (wG X tg):=λpins s _ _ _ u _ I r h=>h pins s u I r
theorem aOH:PI X tg iter (wI X tg iter):=λpins s _ _ _ I h=>h pins s I
theorem PE.to{t:TE}{Q:VK}(h:PE X e t)(q:t σ H Q):wE X e σ H Q:=λpins s I=>h pins s σ H Q I q
theorem PT.to{t:TT}{Q:Bool->Hp->Prop}(h:PT X e t)(q:t σ H Q):wT X e σ H Q:=λpins s I=>h pins s σ H Q I q
theorem PW.to{t:TT}{Q:Bool->Hp->Prop}(h:PW X e t)(q:t σ H Q):wW X e σ H Q:=λw pins s I=>h w pins s σ H Q I q
theorem PA.to{t:TA}{Q:List V->Hp->Prop}(h:PA X es t)(q:t σ H Q):wA X es σ H Q:=λpos pins s I=>h pos pins s σ H Q I q
theorem PS.to{t:TS}{D:uO}(h:PS X st t)(q:t D σ H):wS X st D σ H:=λpins s I=>h pins s σ H D I q
theorem PSs.to{t:TS}{D:uO}(h:PSs X sts t)(q:t D σ H):wSs X sts D σ H:=λpins s I=>h pins s σ H D I q
theorem wE.imp{Q Q':VK}(h:wE X e σ H Q)(k:∀v H',Q v H'->Q' v H'):wE X e σ H Q':=λpins s I=>thn (h pins s I) λu s' ⟨v,H',I',r,q⟩=>⟨v,H',I',r,k v H' q⟩
theorem wT.imp{Q Q':Bool->Hp->Prop}(h:wT X e σ H Q)(k:∀v H',Q v H'->Q' v H'):wT X e σ H Q':=λpins s I=>thn (h pins s I) λu s' ⟨H',I',q⟩=>⟨H',I',k u H' q⟩
theorem wW.imp{Q Q':Bool->Hp->Prop}(h:wW X e σ H Q)(k:∀v H',Q v H'->Q' v H'):wW X e σ H Q':=λw pins s I=>thn (h w pins s I) λu s' ⟨H',I',q⟩=>⟨H',I',k u H' q⟩
theorem wA.imp{Q Q':List V->Hp->Prop}(h:wA X es σ H Q)(k:∀v H',Q v H'->Q' v H'):wA X es σ H Q':=λpos pins s I=>thn (h pos pins s I) λu s' ⟨v,H',I',r,q⟩=>⟨v,H',I',r,k v H' q⟩
theorem SP.imp{pins:List (BL×BO)}{D D':uO}{f:Flow}{s:BK}(h:SP X pins D f s)(k1:∀σ H,D.nx σ H->D'.nx σ H)(k2:∀v H,D.rt v H->D'.rt v H)(k3:∀σ H,D.bk σ H->D'.bk σ H)(k4:∀σ H,D.ct σ H->D'.ct σ H):SP X pins D' f s:=by
 cases f with
 |next=>obtain⟨σ',H',I,q⟩:=h;exact⟨σ',H',I,k1 _ _ q⟩
 |brk=>obtain⟨σ',H',I,q⟩:=h;exact⟨σ',H',I,k3 _ _ q⟩
 |cont=>obtain⟨σ',H',I,q⟩:=h;exact⟨σ',H',I,k4 _ _ q⟩
 |ret u=>obtain⟨v,σ',H',I,r,q⟩:=h;exact⟨v,σ',H',I,r,k2 _ _ q⟩
theorem wSs.imp{D D':uO}(h:wSs X sts D σ H)(k1:∀σ H,D.nx σ H->D'.nx σ H)(k2:∀v H,D.rt v H->D'.rt v H)(k3:∀σ H,D.bk σ H->D'.bk σ H)(k4:∀σ H,D.ct σ H->D'.ct σ H):wSs X sts D' σ H:=
 λpins s I=>thn (h pins s I) λf s' q=>q.imp k1 k2 k3 k4
theorem wG.imp{v:V}{Q Q':St->Hp->Prop}(h:wG X tg v σ H Q)(k:∀σ' H',Q σ' H'->Q' σ' H'):wG X tg v σ H Q':=λpins s u I r=>thn (h pins s u I r) λ_ s' ⟨σ',H',I',q⟩=>⟨σ',H',I',k _ _ q⟩
end
section
variable {X:Cx}{pins:List (BL×BO)}{σ:St}{H F:Hp}{s:BK}
theorem HOk.track{P:AD}{w:AM}{h:BN}{a:BL}{o:HO}(ok:HOk P w H h)(hn:H a=none)(new:ObjOk P w (upd H a o) h a o):HOk P w (upd H a o) h:=λb u e=>by
 by_cases hb:b=a
 ·subst hb;rw[bV] at e;cases e;exact new
 ·rw[bK hb] at e;exact(ok b u e).stay (λ_ _ _ q=>q) (λc q=>by rw[bK (cI q hn)];exact q) λc xs q=>by rw[bK (cI q hn)];exact q
theorem Inv.track{a:BL}{o:HO}(I:Inv X pins σ H s)(hn:H a=none)(h0:X.s₀.heap.objs.size<=a)(hL:a≠X.env.locals)(hc:∀x c,X.env.cells.lookup x=some c->c≠a)
  (hp:∀p∈X.pn++pins,p.1≠a) (new:ObjOk X.prog X.w (upd H a o) s.heap a o):Inv X pins σ (upd H a o) s:=by
 refine⟨I.ok,I.os,I.bare,⟨I.base.keep,I.base.slot,λb u e n hx=> ?_,I.base.there,λb xs e=> ?_,λb u xs e=> ?_,λb ps e=> ?_⟩,I.loc,I.cell, ?_,λx c e=> ?_,λp hp'=> ?_,I.hok.track hn new,I.len⟩
 ·rw[bK (bO (aZ (aU e) h0))];exact I.base.free b u e n hx
 ·have q:=I.base.tups b xs e;rw[bK (cI q hn)];exact q
 ·have q:=I.base.frzs b u xs e;rw[bK (cI q hn)];exact q
 ·obtain⟨m,q⟩:=I.base.tbls b ps e;exact⟨m,by rw[bK (cI q hn)];exact q⟩
 ·rw[bK (Ne.symm hL)];exact I.free
 ·rw[bK (hc x c e)];exact I.freeC x c e
 ·obtain⟨e,n,r⟩:=I.pin p hp';exact⟨e,by rw[bK (hp p hp')];exact n,r⟩
noncomputable def aNh:HO->Prop
 |.lst _=>True
 |.tup _=>True
 |.dK _=>True
 |.frz _ (.lst _)=>True
 |.frz _ (.dK _)=>True
 |.ext _=>True
 |_=>False
def Smp(H:Hp):Prop:=∀b o,H b=some o->aNh o
theorem ObjOk.smp{P:AD}{w:AM}{h:BN}{a:BL}{o:HO}(z:aNh o)(x:ObjOk P w H h a o):ObjOk P w F h a o:=by
 cases o with
 |lst xs=>exact x
 |tup xs=>exact x
 |dK kvs=>exact x
 |frz ob u=>cases u with
  |lst xs=>exact x
  |dK kvs=>exact x
  |_=>exact absurd z (λq=>q)
 |ext φ=>exact x
 |_=>exact absurd z (λq=>q)
theorem Smp.sub(h:Smp H)(s:Same F H):Smp F:=λb o e=>h b o (s b o e)
theorem Inv.less(I:Inv X pins σ H s)(hF:Same F H)(h0:Same X.B₀ F)(hs:Smp F):Inv X pins σ F s:=by
 refine⟨I.ok,I.os,I.bare,⟨I.base.keep,I.base.slot,λb u e n hx=>hF.free (I.base.free b u e n hx),I.base.there,λb xs e=>h0 _ _ (X.hB _ _ e trivial),λb u xs e=>h0 _ _ (X.hB _ _ e trivial),λb ps e=>⟨#[], ?_⟩⟩,I.loc,I.cell,hF.free I.free,λx c e=>hF.free (I.freeC x c e),λp hp=> ?_,λb o e=>(I.hok b o (hF b o e)).smp (hs b o e),I.len⟩
 ·have q:=h0 _ _ (X.hB _ _ e trivial);rw[q];simp
 ·obtain⟨e,n,r⟩:=I.pin p hp;exact⟨e,hF.free n,r⟩
end
noncomputable def clo(cells:List (Str×BL)):List (Str×NameKind)->List (Str×BL)->List (Str×BL)
 |[],cs=>cs
 |(n,k)::r,cs=>clo cells r (if(k==NameKind.free)=true then(n,(cells.lookup n).getD 0)::cs else cs)
theorem qT{env:Env}:∀ (names:List (Str×NameKind)) (cs:List (Str×BL)),(∀y∈names,y.2=.free->∃c,env.cells.lookup y.1=some c)->
  (forIn names cs (λ(x:Str×NameKind) (r:List (Str×BL))=>if(x.2==NameKind.free)=true then(do let c <-cellOf env x.1;pure (ForInStep.yield ((x.1,c)::r))) else pure (ForInStep.yield r)):Sem (List (Str×BL)))=pure (clo env.cells names cs)
 |[],cs,_=>rfl
 |(n,k)::r,cs,h=>by
  rw[List.forIn_cons]
  by_cases hk:(k==NameKind.free)=true
  ·obtain⟨c,hc⟩:=h (n,k) aH (by simpa using hk)
   have e:cellOf env n=pure c:=by unfold cellOf;have hc':env.cells.lookup n=some c:=hc;rw[hc']
   simp only[hk,if_true,e,pure_bind,clo];have hc':env.cells.lookup n=some c:=hc;rw[hc'];exact qT r _ λy hy=>h y (aF _ hy)
  ·simp only[hk,cB,if_false,pure_bind,clo];exact qT r _ λy hy=>h y (aF _ hy)
theorem aCk{env:Env}{scope:Scope}(h:∀y∈scope.names,y.2=.free->∃c,env.cells.lookup y.1=some c):closureFor scope env=pure (clo env.cells scope.names []):=by simp only[closureFor];have e:=qT (env:=env) scope.names [] h;simp only[bind_pure] ;exact e
theorem aBm(cells:List (Str×BL)):∀ (names:List (Str×NameKind)) (cs:List (Str×BL)) (x:Str) (c:BL),(clo cells names cs).lookup x=some c->cs.lookup x=some c\/((x,NameKind.free)∈names/\c=(cells.lookup x).getD 0)
 |[],cs,x,c,h=>.inl h
 |(n,k)::r,cs,x,c,h=>by
  rcases aBm cells r _ x c h with q|⟨q1,q2⟩
  ·by_cases hk:(k==NameKind.free)=true
   ·rw[if_pos hk,fO] at q;have ek:k=.free:=by simpa using hk
    by_cases hx:(x==n)=true
    ·simp only[hx] at q;have e:x=n:=by simpa using hx
     subst e;exact .inr ⟨by rw[ek];exact aH,(cF.inj q).symm⟩
    ·have hx':(x==n)=false:=by simpa using hx
     simp only[hx'] at q;exact .inl q
   ·rw[if_neg hk] at q;exact .inl q
  ·exact .inr ⟨aF _ q1,q2⟩
theorem aDO(cells:List (Str×BL)):∀ (names:List (Str×NameKind)) (cs:List (Str×BL)) (x:Str),(x,NameKind.free)∈names\/(∃c,cs.lookup x=some c)->∃c,(clo cells names cs).lookup x=some c
 |[],cs,x,h=>h.elim (λz=>nomatch z) λz=>z
 |(n,k)::r,cs,x,h=>by
  refine aDO cells r _ x ?_
  by_cases hk:(k==NameKind.free)=true
  ·rw[if_pos hk]
   by_cases hx:(x==n)=true
   ·exact .inr ⟨(cells.lookup n).getD 0,by rw[fO];simp only[hx]⟩
   ·have hx':(x==n)=false:=by simpa using hx
    rcases h with q|⟨c,q⟩
    ·rcases aX.mp q with z|z
     ·cases z;exact absurd (by simp) hx
     ·exact .inl z
    ·exact .inr ⟨c,by rw[fO];simp only[hx'];exact q⟩
  ·rw[if_neg hk]
   rcases h with q|q
   ·rcases aX.mp q with z|z
    ·cases z;exact absurd rfl hk
    ·exact .inl z
   ·exact .inr q
theorem rZ{env:Env}:∀ {names:List (Str × NameKind)} {x:Str},((names.map fun (n,k)=>if (k==NameKind.free && env.scope.kind== .function && env.kindOf n==some .cell) then (n,NameKind.cell) else (n,k)).lookup x=some .cell∨
   (names.map λ(n,k)=>if(k==NameKind.free&&env.scope.kind==.function&&env.kindOf n==some .cell) then(n,NameKind.cell) else(n,k)).lookup x=some .free)->names.lookup x=some .cell\/names.lookup x=some .free
 |[],x,h=>by simp at h
 |(n,k)::r,x,h=>by
  have ih:= @rZ env r x;rw[bC] at h;rw[fO]
  by_cases hc:(k==NameKind.free&&env.scope.kind==.function&&env.kindOf n==some .cell)=true
  ·simp only[hc,if_true,fO] at h;cases hx:x==n with
   |true=>
    have hk:k=.free:=by have:=hc;simp only[bH,beq_iff_eq] at this;exact this.1.1
    exact .inr (by rw[hk])
   |false=>simp only[hx] at h ⊢;exact ih h
  ·have hc':(k==NameKind.free&&env.scope.kind==.function&&env.kindOf n==some .cell)=false:=by simpa using hc
   simp only[hc',cB,if_false,fO] at h;cases hx:x==n with
   |true=>simp only[hx] at h ⊢;exact h
   |false=>simp only[hx] at h ⊢;exact ih h
theorem aEz{prog:AD}{w:AM}{A:BM}{R:Result->BK->Prop}{s:BK}{elt target iter:Expr}{ifs:List Expr}{scope:Scope}{pos:Pos}{it acc:BJ}{env:Env}(Ξ:BJ->BK->Prop)(hΞ:∀e s,Ξ e s->notedBy (AH prog w) A env (λe s'=>R (.error e) s') e s)(J:Nat->BK->Prop)
  (turn:∀n s,J n s→AK (AH prog w) A (pyNext it) (fun r s₁=>match r with
   |none=>R (.ok .next) s₁
   | some v=>AK (AH prog w) A (letOwnedTupleGo target it v) (fun _ s₂=>AK (AH prog w) A (assign target env v) (fun _ s₃=>
     AK (AH prog w) A (forIn ifs true fun c r=>if r=true then do let ok ← isTrue c env (eval c env); pure (ForInStep.yield ok) else pure (ForInStep.yield r)) (fun ok s₄=>
      if ok=true then AK (AH prog w) A (eval elt env) (λx s₅=>AK (AH prog w) A (call (.builtin "list.append") [acc,x]) (λ_ s₆=>∃m,m<n/\J m s₆) Ξ s₅) Ξ s₄
      else ∃m,m<n/\J m s₄) Ξ s₃) Ξ s₂) Ξ s₁) Ξ s)
  (n:Nat) (h:J n s):codeAny (AH prog w) A (.compLoop (.ListComp elt [⟨target,iter,ifs,0⟩] scope pos) 0 it acc env) R s:=by
 refine codeAny_loop rfl J (λn s hI=> ?_) n h;show AK _ A ((compTurn (.ListComp elt [⟨target,iter,ifs,0⟩] scope pos) 0 it acc env).onRaise (λx=>do noteFrame x env;theTreesLotGoes x)) _ _ s;refine wpAny_noted ?_;rw[compTurn_list];refine AA (wpAny_standAt (AA (Ag (turn n s hI) (λr s₁ h₁=> ?_) λe s z=>hΞ e s z)));cases r with
 |none=>exact AB h₁
 |some v=>
  refine AA (Ag h₁ (λ_ s₂ h₂=> ?_) λe s z=>hΞ e s z);refine AA (Ag h₂ (λ_ s₃ h₃=> ?_) λe s z=>hΞ e s z);refine AA (Ag h₃ (λok s₄ h₄=> ?_) λe s z=>hΞ e s z);cases ok with
  |false=>exact AB ⟨rfl,h₄⟩
  |true=>exact AA (AA (Ag h₄ (λx s₅ h₅=>AA (Ag h₅ (λ_ s₆ h₆=>AB (AB ⟨rfl,h₆⟩)) λe s z=>hΞ e s z)) λe s z=>hΞ e s z))
noncomputable def aNE(X:Cx)(ifs:List Expr):TT:=λσ H Q=>∀ (pins:List (BL×BO)) (s:BK),Inv X pins σ H s->
 AK (AH X.prog X.w) X.A (forIn ifs true λc r=>if r=true then do let ok <-isTrue c X.env (eval c X.env);pure (ForInStep.yield ok) else pure (ForInStep.yield r)) (TP X pins σ Q) X.xe s
theorem aGJ{X:Cx}{σ:St}{H:Hp}{Q:Bool->Hp->Prop}(h:Q true H):aNE X [] σ H Q:=λ_ _ I=>wpAny_tests_nil ⟨H,I,h⟩
theorem aGt{X:Cx}{c:Expr}{σ:St}{H:Hp}{Q:Bool->Hp->Prop}(h:wT X c σ H Q):aNE X [c] σ H Q:=λpins s I=>wpAny_tests_one (h pins s I)
noncomputable def cxB(X:Cx)(N:List Str)(scope:Scope)(cl:List (Str×BL))(C:BL)(ex:List BL)(s:BK)(H:Hp):Cx:=
 {prog:=X.prog,w:=X.w,K:=X.K,mg:=X.mg,base:=X.base,A:=X.A,N:=N,s₀:=s,H₀:=H,env:=compEnvC scope cl C X.env,outer:=X.stack,stack:=X.stack,ex:=ex,fn:=λ_=>false,calm:=true,pn:=[],xe:=λ_ _=>False}
noncomputable def qD(X:Cx)(N:List Str)(scope:Scope)(cl:List (Str×BL))(C:BL)(ex:List BL)(s:BK)(H:Hp)(ξ:BJ->BK->Prop):Cx:={cxB X N scope cl C ex s H with xe:=ξ}
noncomputable def yB(cap:List (Option Nat))(σ:St):St:=cap.map λo=>o.bind λk=>(σ[k]?).join
noncomputable def tG(scope sc:Scope):Bool:=scope.names.all λy=>(!(y.2==NameKind.free)||sc.names.lookup y.1==some NameKind.cell)&&!(y.2==NameKind.cell)&&(!(y.2==NameKind.local)||scope.names.lookup y.1==some NameKind.local)
noncomputable def pI(N M:List Str)(scope sc:Scope)(cap:List (Option Nat)):Bool:=cap.length==N.length&&(cap.zip N).all λy=>match y.1 with
 |none=>true
 |some k=>M[k]? ==some y.2&&sc.names.lookup y.2==some NameKind.cell&&scope.names.lookup y.2==some NameKind.free
theorem kE{env:Env}(hf:env.scope.kind=.function):∀ {names:List (Str×NameKind)}{x:Str},names.lookup x=some .free->env.kindOf x=some .cell->
  (names.map λ(n,k)=>if(k==NameKind.free&&env.scope.kind==.function&&env.kindOf n==some .cell) then(n,NameKind.cell) else(n,k)).lookup x=some .cell
 |[],x,h,_=>by simp at h
 |(n,k)::r,x,h,hc=>by
  rw[bC];cases hx:x==n with
  |true=>
   have e:x=n:=by simpa using hx
   subst e;rw[fO] at h;simp only[beq_self_eq_true] at h;have ek:k=.free:=cF.inj h;subst ek;have hb:(NameKind.free==NameKind.free&&env.scope.kind==.function&&env.kindOf x==some .cell)=true:=by rw[hf,hc];rfl
   show List.lookup x ((if(NameKind.free==NameKind.free&&env.scope.kind==.function&&env.kindOf x==some .cell)=true then(x,NameKind.cell) else(x,NameKind.free))::_)=_;rw[if_pos hb,fO];simp only[beq_self_eq_true]
  |false=>
   rw[fO] at h;simp only[hx] at h;have ih:=kE hf (names:=r) h hc
   by_cases hb:(k==NameKind.free&&env.scope.kind==.function&&env.kindOf n==some .cell)=true
   ·simp only[hb,if_true,fO,hx];exact ih
   ·have hb':(k==NameKind.free&&env.scope.kind==.function&&env.kindOf n==some .cell)=false:=by simpa using hb
    simp only[hb',cB,if_false,fO,hx];exact ih
theorem Inv.low{X:Cx}{pins:List (BL×BO)}{σ:St}{H:Hp}{s:BK}(I:Inv X pins σ H s):∀b∈frs X.stack,b<s.heap.objs.size:=λb hb=>by obtain⟨_,o,ho,_⟩:=I.stack.mem hb;exact aU ho
theorem aED{X:Cx}{pins:List (BL×BO)}{σ:St}{H:Hp}{s:BK}{elt tg iter:Expr}{ifs:List Expr}{scope:Scope}{pos:Pos}{N:List Str}{cap:List (Option Nat)}{g:TG}{tt:TT}{te:TE}{J:It}{fp:List BL}{it:BL}{tn:Nat->BN->Prop}{E:BJ->BK->Prop}{sc:Scope}(ξ:List (Str×BL)->BL->BJ->BK->Prop)(ξ':List (Str×BL)->BL->BJ->Hp->BK->Prop)
  (hc:X.calm=true) (hsc:X.env.scope=sc) (hcn:tG scope sc=true) (hcap:pI N X.N scope sc cap=true) (hk:scope.kind=.function)
  (I:Inv X pins σ H s) (T:aFG X.prog X.w X.K tg J fp it tn) (st:tn 0 s.heap) (hfp:∀b∈fp,wC X pins H b)
  (hg:∀cl C,PG (qD X N scope cl C fp s H (ξ cl C)) tg g) (ht:∀cl C pi s2 σ2 H2 Q,Inv (qD X N scope cl C fp s H (ξ cl C)) pi σ2 H2 s2->tt σ2 H2 Q->AK (AH X.prog X.w) X.A (forIn ifs true λc r=>if r=true then do let ok <-isTrue c (compEnvC scope cl C X.env) (eval c (compEnvC scope cl C X.env));pure (ForInStep.yield ok) else pure (ForInStep.yield r)) (TP (qD X N scope cl C fp s H (ξ cl C)) pi σ2 Q) (ξ cl C) s2)
  (he:∀cl C,PE (qD X N scope cl C fp s H (ξ cl C)) elt te) (W:Nat->Nat->List V->St->Hp->Prop) (m0:Nat) (w0:W 0 m0 [] (yB cap σ) H)
  (RR:BJ->BL->Result->BK->Prop)
  (hξ:∀cl C e s',ξ cl C e s'->∃pi σb H',Inv (qD X N scope cl C fp s H (ξ cl C)) pi σb H' s'/\ξ' cl C e H' s')
  (hx:∀cl D C e H' s',ξ' cl C e H' s'->H' C=none->X.s₀.heap.objs.size<=C->C≠X.env.locals->(∀x c,X.env.cells.lookup x=some c->c≠C)->(∀p∈X.pn++pins,p.1≠C)->C∉frs X.stack->(∃m,s'.heap.Ns C m)->Inv X pins σ H' s'->notedBy (AH X.prog X.w) X.A (compEnvC scope cl C X.env) (λe s''=>RR (.ref D) C (.error e) s'') e s')
  (turn:∀i m ys σb H2,W i m ys σb H2→
   (J.stop i H2/\∀D C s',H2 D=none->H2 C=none->D≠C->X.s₀.heap.objs.size<=C->C≠X.env.locals->(∀x c,X.env.cells.lookup x=some c->c≠C)->(∀p∈X.pn++pins,p.1≠C)->C∉frs X.stack->(∃m,s'.heap.Ns C m)->Inv X pins σ (upd H2 D (.lst ys)) s'->RR (.ref D) C (.ok .next) s')\/
   (J.go i H2∧ys.length<AL∧∃Nx:List V→St→Hp→Prop,(∀ys' σ' H',Nx ys' σ' H'→∃m',m'<m∧W (i+1) m' ys' σ' H')∧
    ∀x H',J.yld i H2 x H'->g x σb H' λσ2 H3=>tt σ2 H3 λb H4=>if b=true then te σ2 H4 λv H5=>Nx (ys++[v]) σ2 H5 else Nx ys σ2 H4)):
  AK (AH X.prog X.w) X.A (newList []) (fun acc s₃=>AK (AH X.prog X.w) X.A (newFunctionEnv scope X.env.globals (clo X.env.cells scope.names []) [] X.env.qual none .none (some X.env)) (fun cenv s₄=>
   codeAny (AH X.prog X.w) X.A (.compStart (.ListComp elt [⟨tg,iter,ifs,0⟩] scope pos) 0 (.ref it) acc {cenv with scope:=relabel scope X.env}) (RR acc cenv.locals) s₄) E s₃) E s:=by
 have nm:∀y∈scope.names,(y.2=NameKind.free->sc.names.lookup y.1=some NameKind.cell)/\y.2≠NameKind.cell/\(y.2=NameKind.local->scope.names.lookup y.1=some NameKind.local):=λy hy=>by have q:=cX.mp hcn y hy;simp only[bH,xX,uK,beq_eq_false_iff_ne,ne_eq,beq_iff_eq] at q;exact⟨λe=>q.1.1.resolve_left λz=>z e,q.1.2,λe=>q.2.resolve_left λz=>z e⟩
 have fre:∀y∈scope.names,y.2=.free->∃c,X.env.cells.lookup y.1=some c:=λy hy e=>I.ok.has y.1 (.inl (by show X.env.scope.names.lookup y.1=_;rw[hsc];exact(nm y hy).1 e))
 generalize hcl:clo X.env.cells scope.names []=cl
 have csub:∀x c,cl.lookup x=some c->X.env.cells.lookup x=some c:=λx c e=>by
  rw[<-hcl] at e
  rcases aBm _ _ _ _ _ e with z|⟨z1,z2⟩
  ·simp at z
  ·obtain⟨c',q⟩:=fre _ z1 rfl;rw[q] at z2;rw[q,z2];rfl
 have chas:∀x,((relabel scope X.env).names.lookup x=some .cell\/(relabel scope X.env).names.lookup x=some .free)->∃c,cl.lookup x=some c:=λx e=>by
  rcases rZ e with z|z
  ·exact absurd rfl (nm _ (PySem.mem_of_lookup z)).2.1
  ·rw[<-hcl];exact aDO _ _ _ _ (.inl (PySem.mem_of_lookup z))
 have cexi:∀x c,cl.lookup x=some c->c<s.heap.objs.size:=λx c e=>by obtain⟨v,o,ho,_⟩:=I.cell x c (csub x c e);exact aU ho
 have cexX:∀x c,X.env.cells.lookup x=some c->c<s.heap.objs.size:=λx c e=>by obtain⟨v,o,ho,_⟩:=I.cell x c e;exact aU ho
 have pexX:∀p∈X.pn++pins,p.1<s.heap.objs.size:=λp hp=>aU (I.pin p hp).1
 have flow:∀b∈fp,b<s.heap.objs.size:=λb hb=>by obtain⟨o,ho,_⟩:=T.obj 0 _ st b hb;exact aU ho
 have fstk:∀b∈fp,b∉frs X.stack:=λb hb z=>by
  obtain⟨_,f1,f2,_⟩:=hfp b hb
  rcases aX.mp (I.stkSub b z) with q|q
  ·exact f1 q
  ·exact f2 q
 have hkr:(relabel scope X.env).kind=.function:=hk;refine AS (wpAny_newFunctionEnv (λy hy=>(nm y hy).2.1) (by intro y hy;simp at hy) (λh₁ hns₁ hsb₁=> ?_) hk);dsimp only at hns₁ hsb₁ ⊢;generalize hH2:s.heap.push {cls:=.type "list",dict:=none,data:=.seq ([]:List BJ).toArray}=G2 at hns₁ hsb₁ ⊢;have hC:G2.objs.size=s.heap.objs.size+1:=by rw[<-hH2,qM]
 have hDC:s.heap.objs.size≠G2.objs.size:=by rw[hC];exact bO (lO _)
 have hCle:s.heap.objs.size<=G2.objs.size:=by rw[hC];exact kG _
 have neC:∀b,b<s.heap.objs.size->b≠G2.objs.size:=λb hb=>by rw[hC];exact bO (oD hb)
 have old:∀b o,s.heap.get? b=some o->h₁.get? b=some o:=λb o e=>hsb₁.extBut b o (neC b (aU e)) (aI _ (hH2▸aI _ e))
 have hacc:h₁.get? s.heap.objs.size=some {cls:=.type "list",dict:=none,data:=.seq ([]:List BJ).toArray}:=hsb₁.extBut _ _ hDC (aI _ (hH2▸bD _ rfl));have env_eq:({newEnv scope G2.objs.size X.env.globals cl X.env.qual none .none (some X.env) 0 with scope:=relabel scope X.env}:Env)=compEnvC scope cl G2.objs.size X.env:=rfl;generalize hDD:s.heap.objs.size=D at *;generalize hCC:G2.objs.size=C at *
 have okX:(qD X N scope cl C fp s H (ξ cl C)).Ok:=by
  refine⟨I.mod,hkr,I.ok.glob,I.ok.blt, ?_,λx y c a b=>I.ok.inj x y c (csub x c a) (csub y c b),chas,(λx c z=>nomatch z),λ_=>I.ok.hd hc,I.ok.frames,.inl rfl,λb hb=>⟨neC b (flow b hb),λx c e=>(hfp b hb).2.2.2.2.1 x c (csub x c e)⟩,I.bs, ?_,λb o e hb=> ?_,fstk,I.stack,I.stkFree⟩
  ·show s.heap.objs.size<=C;rw[hDD];exact hCle
  ·exact cK I.ok.bsz I.sz
  ·rcases(hfp b hb).2.2.2.1 with z|z
   ·exact I.ok.noex b o e z
   ·exact absurd (aZ (aU e) (cK I.ok.bsz z)) (fJ _)
 have capE:∀ (i:Nat) (x:Str) (v:V),N[i]? =some x->(yB cap σ)[i]? =some (some v)->∃k:Nat,X.N[k]? =some x/\σ[k]? =some (some v)/\sc.names.lookup x=some .cell/\scope.names.lookup x=some .free:=λi x v e1 e2=>by
  unfold pI at hcap;rw[bH] at hcap;unfold yB at e2;rw[aQ] at e2;cases q:cap[i]? with
  |none=>rw[q] at e2;cases e2
  |some o=>
   rw[q] at e2;have e2:(o.bind λk=>(σ[k]?).join)=some v:=cF.inj e2;cases o with
   |none=>cases e2
   |some k=>
    have e2:(σ[k]?).join=some v:=e2
    have mz:(some k,x)∈cap.zip N:=by refine aO (i:=i) ?_;rw[kK];exact⟨q,e1⟩
    have z:=cX.mp hcap.2 _ mz;simp only[bH,beq_iff_eq] at z;refine⟨k,z.1.1, ?_,z.1.2,z.2⟩;cases w:σ[k]? with
    |none=>rw[w] at e2;cases e2
    |some o'=>rw[w] at e2;have e2:o'=some v:=e2;rw[e2]
 have I0:Inv (qD X N scope cl C fp s H (ξ cl C)) [(D,{cls:=.type "list",dict:=none,data:=.seq ([]:List BJ).toArray})] (yB cap σ) H {s with heap:=h₁,toks:=s.toks+([]:List (Str×BJ)).length}:=by
  have dfree:H D=none:=I.hok.fresh (aFs hDD);refine⟨okX,rfl,I.bare,Un.kept old,⟨_,hns₁,λi x v e1 e2 e3=> ?_⟩,λx c e=> ?_,I.hok.fresh (by rw[hDD];exact hCle),λx c e=>I.freeC x c (csub x c e),λp hp=> ?_,I.hok.kept old, ?_⟩
  ·obtain⟨k,q1,q2,q3,q4⟩:=capE i x v e1 e2;have q3':X.env.scope.names.lookup x=some .cell:=by rw[hsc];exact q3
   obtain⟨m,_,hl⟩:=I.loc;obtain⟨u,ru,lk⟩:=hl k x v q1 q2 (.inr (.inl q3'));refine⟨u,ru,.inr ⟨.inl (kE I.ok.kind q4 q3'), ?_⟩⟩
   rcases lk with⟨z,_⟩|⟨_,c,z,ic⟩
   ·have z':X.env.scope.names.lookup x=some .local:=z;rw[q3'] at z';cases z'
   ·obtain⟨c',hc'⟩:=chas x (.inl (kE I.ok.kind q4 q3'));have:=csub x c' hc';rw[z] at this;have ec:c=c':=cF.inj this;subst ec;obtain⟨o,ho,hd⟩:=ic;exact⟨c,hc',o,old c o ho,hd⟩
  ·obtain⟨v,o,ho,hd⟩:=I.cell x c (csub x c e);exact⟨v,o,old c o ho,hd⟩
  ·have hp':p=(D,{cls:=.type "list",dict:=none,data:=.seq ([]:List BJ).toArray}):=by simpa[qD,cxB] using hp
   subst hp';refine⟨hacc,dfree,hDC,λz=> ?_,λv z=>by cases z⟩;have:=I.low D z;rw[hDD] at this;exact fJ _ this
  ·show(yB cap σ).length=N.length;unfold pI at hcap;rw[bH] at hcap;unfold yB;rw[aB];simpa using hcap.1
 have dlow:∀b,b<D->b≠D:=λb hb=>bO hb
 have loop:∀s₃:BK,s₃={s with heap:=h₁,toks:=s.toks+([]:List (Str×BJ)).length}->
   codeAny (AH X.prog X.w) X.A (.compLoop (.ListComp elt [⟨tg,iter,ifs,0⟩] scope pos) 0 (.ref it) (.ref D) (compEnvC scope cl C X.env)) (RR (.ref D) C) s₃:=by
  rintro s₃ rfl
  refine aEz (ξ cl C) (λe s' z=> ?_) (λn s'=>∃ (i:Nat) (ys:List V) (σb:St) (H2:Hp) (its:List BJ) (nn:Nat),Inv (qD X N scope cl C fp s H (ξ cl C)) [(D,{cls:=.type "list",dict:=none,data:=.seq its.toArray nn})] σb H2 s'/\tn i s'.heap/\(∀b∈fp,H2 b=none)/\Vals ys its/\ys.length<=AL/\W i n ys σb H2) ?_ m0
   ⟨0,[],yB cap σ,H,[],0,I0,T.keep 0 _ _ st λb hb o e=>old b o e,λb hb=>(hfp b hb).1,.nil,bY _,w0⟩
  ·obtain⟨pi,σb,H',I',z'⟩:=hξ cl C e s' z;obtain⟨m4,ns4,_⟩:=id I'.loc;have J0:Inv X pins σ H' s':=I.call' (ch:=fp) I'.os I'.base I'.hok I'.bare λb hb=>⟨(hfp b hb).2.2.2.1,(hfp b hb).2.1,(hfp b hb).2.2.2.2.1,(hfp b hb).2.2.2.2.2⟩
   have hLD:X.env.locals<D:=by rw[<-hDD];exact I.lt
   exact hx cl D C e H' s' z' I'.free (cK I.sz (by rw[hDD];exact hCle)) (iA (aZ hLD hCle)) (λx c e=>neC c (cexX x c e)) (λp hp=>neC _ (pexX p hp)) (λz=>absurd (I.low C z) (by rw[hDD];exact aBP.mpr hCle)) ⟨m4,ns4⟩ J0
  rintro n s3 ⟨i,ys,σ3,H3,its,nn,I3,st3,fr3,rv3,hlen,w3⟩
  have fpX:∀ {H':Hp}{its':List BJ}{nn':Nat},(∀b∈fp,H' b=none)->∀b∈fp,wC (qD X N scope cl C fp s H (ξ cl C)) [(D,{cls:=.type "list",dict:=none,data:=.seq its'.toArray nn'})] H' b:=λ{H' its' nn'} hn b hb=>by
   refine⟨hn b hb,neC b (flow b hb),fstk b hb,.inl hb,λx c e=>(hfp b hb).2.2.2.2.1 x c (csub x c e),λp hp=> ?_⟩
   have hp':p.1=D:=by have q:p∈([]:List (BL×BO))++[(D,{cls:=.type "list",dict:=none,data:=.seq its'.toArray nn'})]:=hp;rw[xV,aG] at q;rw[q]
   rw[hp'];exact Ne.symm (dlow b (flow b hb))
  rcases turn i n ys σ3 H3 w3 with⟨stop,fin⟩|⟨go,hsz,Nx,hN,step⟩
  ·refine thn (T.done (qD X N scope cl C fp s H (ξ cl C)) rfl rfl rfl rfl i _ s3 σ3 H3 (ξ cl C) I3 (fpX fr3) st3 stop) λr s4 ⟨hr,I4⟩=> ?_
   subst hr;obtain⟨m4,ns4,_⟩:=id I4.loc;have J0:Inv X pins σ H3 s4:=I.call' (ch:=fp) I4.os I4.base I4.hok I4.bare λb hb=>⟨(hfp b hb).2.2.2.1,(hfp b hb).2.1,(hfp b hb).2.2.2.2.1,(hfp b hb).2.2.2.2.2⟩
   obtain⟨pd,pn,_⟩:=I4.pin (D,_) (aV _ aH);have hLD:X.env.locals<D:=by rw[<-hDD];exact I.lt
   refine fin D C s4 pn I4.free hDC (cK I.sz (by rw[hDD];exact hCle)) (iA (aZ hLD hCle)) (λx c e=>neC c (cexX x c e)) (λp hp=>neC _ (pexX p hp)) (λz=>absurd (I.low C z) (by rw[hDD];exact aBP.mpr hCle)) ⟨m4,ns4⟩ ?_;refine J0.track pn (by rw[<-hDD];exact I.sz) (iA hLD) (λx c e=>dlow c (cexX x c e)) (λp hp=>dlow _ (pexX p hp)) ?_;exact⟨hlen,its,nn,rv3,pd⟩
  ·refine thn (T.item (qD X N scope cl C fp s H (ξ cl C)) rfl rfl rfl rfl i _ s3 σ3 H3 (ξ cl C) I3 (fpX fr3) st3 go) λr s4 ⟨u,hr,h4⟩=> ?_
   subst hr;refine thn h4 λ_ s5 ⟨x,H5,I5,r5,y5,st5,fr5⟩=> ?_
   have I5':=I5.pinned (fpX fr5) (T.obj _ _ st5);refine thn (hg cl C _ s5 σ3 H5 x u _ I5' r5 (step x H5 y5)) λ_ s6 ⟨σ6,H6,I6,q6⟩=> ?_
   refine thn (ht cl C _ s6 σ6 H6 _ I6 q6) λb s7 ⟨H7,I7,q7⟩=> ?_
   have tnK:∀ {σ7:St}{H7:Hp}{s7:BK},Inv (qD X N scope cl C fp s H (ξ cl C)) ([(D,{cls:=.type "list",dict:=none,data:=.seq its.toArray nn})]++oR fp s5.heap) σ7 H7 s7->tn (i+1) s7.heap/\∀b∈fp,H7 b=none:=λ{σ7 H7 s7} I7=>by refine⟨T.keep _ _ _ st5 λb hb o e=>(I7.pin (b,o) (aV _ (aV _ (kM hb e)))).1,λb hb=> ?_⟩;obtain⟨o,e,d⟩:=T.obj _ _ st5 b hb;exact(I7.pin (b,o) (aV _ (aV _ (kM hb e)))).2.1
   cases b with
   |false=>have q7':Nx ys σ6 H7:=q7;obtain⟨m',hm,w7⟩:=hN _ _ _ q7';obtain⟨t7,f7⟩:=tnK I7;exact⟨m',hm,i+1,ys,σ6,H7,its,nn,I7.unpinned,t7,f7,rv3,hlen,w7⟩
   |true=>
    have q7':te σ6 H7 λv H5=>Nx (ys++[v]) σ6 H5:=q7
    refine thn (he cl C _ s7 σ6 H7 _ I7 q7') λy s8 ⟨v,H8,I8,r8,q8⟩=> ?_
    obtain⟨m',hm,w8⟩:=hN _ _ _ q8;obtain⟨pd,pn,pL,pf,pc⟩:=I8.pin (D,{cls:=.type "list",dict:=none,data:=.seq its.toArray nn}) (aV _ (bW _ aH));have hits:its.length=ys.length:=rv3.length.symm;refine wpAny_list_append_plain (items:=its.toArray) ⟨nn,pd⟩ (λh9 pl9 sb9=> ?_) (by rw[aS,hits];exact eJ hsz);obtain⟨n9,e9⟩:=pl9
    have e9':h9.get? D=some {cls:=.type "list",dict:=none,data:=.seq (its++[y]).toArray n9}:=by rw[e9];simp
    have I8':Inv (qD X N scope cl C fp s H (ξ cl C)) (oR fp s5.heap) σ6 H8 s8:=I8.pins_of λp hp=>I8.pin p (aV _ (aV _ hp))
    have I9:Inv (qD X N scope cl C fp s H (ξ cl C)) (oR fp s5.heap) σ6 H8 {s8 with heap:=h9,toks:=s8.toks}:=I8'.turned (it:=D) (λb o hb e=>sb9.extBut b o hb e) pn hDC (.inr (by rw[<-hDD];exact aM _)) (λx c e=>dlow c (cexi x c e)) λp hp=>by
     have hp':p∈oR fp s5.heap:=by simpa[qD,cxB] using hp
     exact dlow _ (flow _ (tJ hp').1)
    have tn9:tn (i+1) h9:=T.keep _ _ _ st5 λb hb o e=>(I9.pin (b,o) (aV _ (kM hb e))).1
    have fr9:∀b∈fp,H8 b=none:=λb hb=>by obtain⟨o,e,d⟩:=T.obj _ _ st5 b hb;exact(I9.pin (b,o) (aV _ (kM hb e))).2.1
    refine⟨m',hm,i+1,ys++[v],σ6,H8,its++[y],n9,I9.pins_of λp hp=> ?_,tn9,fr9,Vals.append rv3 (.cons r8 .nil),by rw[aP];exact hsz,w8⟩;have hp':p=(D,{cls:=.type "list",dict:=none,data:=.seq (its++[y]).toArray n9}):=aG.mp hp;subst hp';exact⟨e9',pn,pL,pf,λv z=>by cases z⟩
 exact codeAny_compStart_list (loop _ rfl) (T.self _ 0 _ _ _ (T.keep 0 _ _ st λb hb o e=>old b o e) (loop _ rfl))
theorem aGU{X:Cx}{pins:List (BL×BO)}{σ:St}{H:Hp}{s:BK}{elt tg iter:Expr}{ifs:List Expr}{scope:Scope}{pos:Pos}{N:List Str}{cap:List (Option Nat)}{g:TG}{tt:TT}{te:TE}{J:It}{fp:List BL}{it:BL}{tn:Nat->BN->Prop}{E:BJ->BK->Prop}{sc:Scope}
  (hc:X.calm=true) (hsc:X.env.scope=sc) (hcn:tG scope sc=true) (hcap:pI N X.N scope sc cap=true) (hk:scope.kind=.function)
  (I:Inv X pins σ H s) (T:aFG X.prog X.w X.K tg J fp it tn) (st:tn 0 s.heap) (hfp:∀b∈fp,wC X pins H b)
  (hg:∀cl C,PG (cxB X N scope cl C fp s H) tg g) (ht:∀cl C pi s2 σ2 H2 Q,Inv (cxB X N scope cl C fp s H) pi σ2 H2 s2->tt σ2 H2 Q->AK (AH X.prog X.w) X.A (forIn ifs true λc r=>if r=true then do let ok <-isTrue c (compEnvC scope cl C X.env) (eval c (compEnvC scope cl C X.env));pure (ForInStep.yield ok) else pure (ForInStep.yield r)) (TP (cxB X N scope cl C fp s H) pi σ2 Q) (λ_ _=>False) s2)
  (he:∀cl C,PE (cxB X N scope cl C fp s H) elt te) (W:Nat->Nat->List V->St->Hp->Prop) (m0:Nat) (w0:W 0 m0 [] (yB cap σ) H)
  (RR:BJ->BL->Result->BK->Prop)
  (turn:∀i m ys σb H2,W i m ys σb H2→
   (J.stop i H2/\∀D C s',H2 D=none->H2 C=none->D≠C->X.s₀.heap.objs.size<=C->C≠X.env.locals->(∀x c,X.env.cells.lookup x=some c->c≠C)->(∀p∈X.pn++pins,p.1≠C)->C∉frs X.stack->(∃m,s'.heap.Ns C m)->Inv X pins σ (upd H2 D (.lst ys)) s'->RR (.ref D) C (.ok .next) s')\/
   (J.go i H2∧ys.length<AL∧∃Nx:List V→St→Hp→Prop,(∀ys' σ' H',Nx ys' σ' H'→∃m',m'<m∧W (i+1) m' ys' σ' H')∧
    ∀x H',J.yld i H2 x H'->g x σb H' λσ2 H3=>tt σ2 H3 λb H4=>if b=true then te σ2 H4 λv H5=>Nx (ys++[v]) σ2 H5 else Nx ys σ2 H4)):
  AK (AH X.prog X.w) X.A (newList []) (fun acc s₃=>AK (AH X.prog X.w) X.A (newFunctionEnv scope X.env.globals (clo X.env.cells scope.names []) [] X.env.qual none .none (some X.env)) (fun cenv s₄=>
   codeAny (AH X.prog X.w) X.A (.compStart (.ListComp elt [⟨tg,iter,ifs,0⟩] scope pos) 0 (.ref it) acc {cenv with scope:=relabel scope X.env}) (RR acc cenv.locals) s₄) E s₃) E s:=
 aED (λ_ _ _ _=>False) (λ_ _ _ _ _=>False) hc hsc hcn hcap hk I T st hfp hg ht he W m0 w0 RR (λ_ _ _ _ z=>z.elim) (λ_ _ _ _ _ _ z=>z.elim) turn
end L2
namespace DL
open PySem PySem.Spec PyProof.Rows L2
noncomputable abbrev St:=L2.St
inductive D where
 |non|bl (b:Bool)|int (i:Int)|str (x:Str)|tup (ds:List D)|lst (ds:List D)|dic|scr (ns:List Int)|dki (ks:List Key) (ds:List D)|any (G:V->Hp->Prop)
mutual
noncomputable def Rep(K:aA)(H:Hp):D->V->Prop
 |.non,v=>v=.non
 |.bl b,v=>v=.bl b
 |.int i,v=>v=.int i
 |.str x,v=>v=.str x
 |.tup ds,v=>∃a xs,v=.ref a/\H a=some (.tup xs)/\RepL K H ds xs
 |.lst ds,v=>∃a xs,v=.ref a/\H a=some (.lst xs)/\RepL K H ds xs
 |.dic,v=>∃a,v=.ref a/\H a=some (.dK [])
 |.dki ks ds,v=>∃a xs,v=.ref a/\(∃ob,H a=some (.frz ob (.dK (ks.zip xs))))/\ks.length=ds.length/\RepL K H ds xs
 |.scr ns,v=>∃a,v=.ref a/\SqL K H a (ns.map V.int)
 |.any G,v=>(∃a,v=.ref a)/\∀H',Same H H'->G v H'
noncomputable def RepL(K:aA)(H:Hp):List D->List V->Prop
 |[],xs=>xs=[]
 |d::ds,xs=>∃y ys,xs=y::ys/\Rep K H d y/\RepL K H ds ys
end
mutual
theorem Rep.mono{K:aA}{H H':Hp}(h:Same H H'):∀ {d:D}{v:V},Rep K H d v->Rep K H' d v
 |.non,_,r=>by simpa only[Rep] using r
 |.bl _,_,r=>by simpa only[Rep] using r
 |.int _,_,r=>by simpa only[Rep] using r
 |.str _,_,r=>by simpa only[Rep] using r
 |.tup ds,v,r=>by simp only[Rep] at r ⊢;obtain⟨a,xs,e,q,rl⟩:=r;exact⟨a,xs,e,h _ _ q,RepL.mono h rl⟩
 |.lst ds,v,r=>by simp only[Rep] at r ⊢;obtain⟨a,xs,e,q,rl⟩:=r;exact⟨a,xs,e,h _ _ q,RepL.mono h rl⟩
 |.dki ks ds,v,r=>by simp only[Rep] at r ⊢;obtain⟨a,xs,e,⟨ob,q⟩,l,rl⟩:=r;exact⟨a,xs,e,⟨ob,h _ _ q⟩,l,RepL.mono h rl⟩
 |.dic,v,r=>by simp only[Rep] at r ⊢;obtain⟨a,e,q⟩:=r;exact⟨a,e,h _ _ q⟩
 |.any G,v,r=>by simp only[Rep] at r ⊢;exact⟨r.1,λH2 s=>r.2 H2 (h.trans s)⟩
 |.scr ns,v,r=>by simp only[Rep] at r ⊢;obtain⟨a,e,q⟩:=r;exact⟨a,e,h.seq q⟩
theorem RepL.mono{K:aA}{H H':Hp}(h:Same H H'):∀ {ds:List D}{xs:List V},RepL K H ds xs->RepL K H' ds xs
 |[],_,r=>by simpa only[RepL] using r
 |d::ds,xs,r=>by simp only[RepL] at r ⊢;obtain⟨y,ys,e,q,rl⟩:=r;exact⟨y,ys,e,Rep.mono h q,RepL.mono h rl⟩
end
theorem RepL.len{K:aA}{H:Hp}:∀ {ds:List D}{xs:List V},RepL K H ds xs->xs.length=ds.length
 |[],_,r=>by simp only[RepL] at r;rw[r];rfl
 |d::ds,xs,r=>by simp only[RepL] at r;obtain⟨y,ys,rfl,_,q⟩:=r;simp only[bS,RepL.len q]
theorem RepL.get{K:aA}{H:Hp}:∀ {ds:List D}{xs:List V}{i:Nat}{d:D},RepL K H ds xs->ds[i]? =some d->∃v,xs[i]? =some v/\Rep K H d v
 |[],_,i,d,r,e=>by simp at e
 |d'::ds,xs,i,d,r,e=>by
  simp only[RepL] at r;obtain⟨y,ys,rfl,q,rl⟩:=r;cases i with
  |zero=>simp at e;subst e;exact⟨y,rfl,q⟩
  |succ i=>
   have e':ds[i]? =some d:=by simpa using e
   obtain⟨v,h1,h2⟩:=RepL.get rl e';exact⟨v,by simpa using h1,h2⟩
theorem RepL.app{K:aA}{H:Hp}:∀ {ds es:List D}{xs ys:List V},RepL K H ds xs->RepL K H es ys->RepL K H (ds++es) (xs++ys)
 |[],es,xs,ys,r,q=>by simp only[RepL] at r;subst r;exact q
 |d::ds,es,xs,ys,r,q=>by simp only[RepL] at r;obtain⟨y,zs,rfl,a,rl⟩:=r;show RepL K H (d::(ds++es)) (y::(zs++ys));simp only[RepL];exact⟨y,_,rfl,a,RepL.app rl q⟩
theorem RepL.nil{K:aA}{H:Hp}:RepL K H [] []:=by simp only[RepL]
theorem RepL.cons{K:aA}{H:Hp}{d:D}{ds:List D}{x:V}{xs:List V}(a:Rep K H d x)(b:RepL K H ds xs):RepL K H (d::ds) (x::xs):=by simp only[RepL];exact⟨x,xs,rfl,a,b⟩
theorem RepL.one{K:aA}{H:Hp}{d:D}{x:V}(a:Rep K H d x):RepL K H [d] [x]:=.cons a .nil
theorem RepL.uncons{K:aA}{H:Hp}{d:D}{ds:List D}{xs:List V}(r:RepL K H (d::ds) xs):∃y ys,xs=y::ys/\Rep K H d y/\RepL K H ds ys:=by simpa only[RepL] using r
theorem RepL.take{K:aA}{H:Hp}:∀ {ds:List D}{xs:List V} (n:Nat),RepL K H ds xs->RepL K H (ds.take n) (xs.take n)
 |_,_,0,_=>by simp only[lE];exact .nil
 |[],xs,n+1,r=>by simp only[RepL] at r;subst r;exact .nil
 |d::ds,xs,n+1,r=>by obtain⟨y,ys,rfl,a,rl⟩:=r.uncons;simp only[aFy];exact .cons a (RepL.take n rl)
theorem RepL.drop{K:aA}{H:Hp}:∀ {ds:List D}{xs:List V} (n:Nat),RepL K H ds xs->RepL K H (ds.drop n) (xs.drop n)
 |_,_,0,r=>by simpa only[mW] using r
 |[],xs,n+1,r=>by simp only[RepL] at r;subst r;exact .nil
 |d::ds,xs,n+1,r=>by obtain⟨y,ys,rfl,a,rl⟩:=r.uncons;simp only[List.drop_succ_cons];exact RepL.drop n rl
theorem RepL.ints{K:aA}{H:Hp}:∀ {ns:List Int}{xs:List V},RepL K H (ns.map D.int) xs->xs=ns.map V.int
 |[],xs,r=>by simpa only[eY,RepL] using r
 |n::ns,xs,r=>by rw[bC] at r;obtain⟨y,ys,rfl,a,rl⟩:=r.uncons;simp only[Rep] at a;rw[a,RepL.ints rl];rfl
inductive Slot where
 |un|val (d:D)|own (l:BL) (ds:List D)|gh (d:D) (G:V->Hp->Prop)|od (l:BL) (ks:List Key) (ds:List D)|ox (ls:List BL) (G:V->Hp->Hp->Prop)
noncomputable def Wr(l:BL):HO->Prop
 |.lst _=>True
 |.dK _=>True
 |.ext φ=>∃o:BO,φ=(λh=>h.get? l=some o)/\∀v,o.data≠ .cell v
 |_=>False
noncomputable def iZ(K:aA)(F H:Hp):Slot->Option V->Prop
 |.un,_=>True
 |.val d,o=>∃v,o=some v/\Rep K F d v
 |.own l ds,o=>o=some (.ref l)/\F l=none/\∃xs,H l=some (.lst xs)/\RepL K F ds xs
 |.od l ks ds,o=>o=some (.ref l)/\F l=none/\∃xs,H l=some (.dK (ks.zip xs))/\ks.length=ds.length/\RepL K F ds xs
 |.gh d G,o=>∃v,o=some v/\Rep K F d v/\∀F',Same F F'->G v F'
 |.ox ls G,o=>∃v,o=some v/\(∀l∈ls,F l=none/\∃ob,H l=some ob/\Wr l ob)/\∀F' H',Same F F'->(∀l∈ls,∀ob,H l=some ob->H' l=some ob)->G v F' H'
noncomputable def SlotsOk(K:aA)(F H:Hp):List Slot->St->Prop
 |[],σ=>σ=[]
 |z::zs,σ=>∃o r,σ=o::r/\iZ K F H z o/\SlotsOk K F H zs r
noncomputable def iN:Slot->List BL
 |.own l _=>[l]
 |.od l _ _=>[l]
 |.ox ls _=>ls
 |_=>[]
noncomputable def cH(sd:List Slot):List BL:=sd.flatMap iN
theorem qP(z:Slot)(zs:List Slot):cH (z::zs)=iN z++cH zs:=rfl
structure StF(K:aA)(H₀ F H:Hp)(σ:St)(sd:List Slot):Prop where
 base:Same H₀ F
 sub:Same F H
 smp:Smp H
 slots:SlotsOk K F H sd σ
 nd:(cH sd).Nodup
section
variable {K:aA}{H₀ F F' H H':Hp}{σ:St}{sd:List Slot}
theorem SlotsOk.get:∀ {sd:List Slot}{σ:St}{i:Nat}{z:Slot},SlotsOk K F H sd σ->sd[i]? =some z->∃o,σ[i]? =some o/\iZ K F H z o
 |[],_,_,_,_,e=>by simp at e
 |z'::zs,σ,i,z,h,e=>by
  obtain⟨o,r,rfl,a,b⟩:=h;cases i with
  |zero=>simp at e;subst e;exact⟨o,rfl,a⟩
  |succ i=>obtain⟨o',h1,h2⟩:=SlotsOk.get (i:=i) b (by simpa using e);exact⟨o',by simpa using h1,h2⟩
theorem SlotsOk.set{z:Slot}{o:Option V}(q:iZ K F H z o):∀ {sd:List Slot}{σ:St} (i:Nat),SlotsOk K F H sd σ->SlotsOk K F H (sd.set i z) (σ.set i o)
 |[],_,_,h=>by have h:_=_:=h;subst h;rfl
 |z'::zs,σ,i,h=>by
  obtain⟨o',r,rfl,a,b⟩:=h;cases i with
  |zero=>exact⟨o,r,rfl,q,b⟩
  |succ i=>exact⟨o',_,rfl,a,SlotsOk.set q i b⟩
theorem SlotsOk.mono(hF:Same F F'):∀ {sd:List Slot}{σ:St},(∀l∈cH sd,F' l=none/\∀xs,H l=some xs->H' l=some xs)->SlotsOk K F H sd σ->SlotsOk K F' H' sd σ
 |[],_,_,h=>h
 |z::zs,σ,ho,h=>by
  obtain⟨o,r,rfl,a,b⟩:=h;refine⟨o,r,rfl, ?_,SlotsOk.mono hF (λl hl=>ho l ?_) b⟩
  ·cases z with
   |un=>trivial
   |val d=>obtain⟨v,e,q⟩:=a;exact⟨v,e,q.mono hF⟩
   |gh d G=>obtain⟨v,e,q,g⟩:=a;exact⟨v,e,q.mono hF,λF2 s2=>g F2 (hF.trans s2)⟩
   |own l ds=>obtain⟨e,n,xs,q,rl⟩:=a;have:=ho l (by simp[qP,iN]);exact⟨e,this.1,xs,this.2 _ q,rl.mono hF⟩
   |od l ks ds=>obtain⟨e,n,xs,q,ln,rl⟩:=a;have:=ho l (by simp[qP,iN]);exact⟨e,this.1,xs,this.2 _ q,ln,rl.mono hF⟩
   |ox ls G=>
    obtain⟨v,e,h,g⟩:=a;have ho':∀l∈ls,F' l=none/\∀xs,H l=some xs->H' l=some xs:=λl hl=>ho l (bW _ hl)
    exact⟨v,e,λl hl=>⟨(ho' l hl).1,let ⟨ob,q,w⟩:=(h l hl).2;⟨ob,(ho' l hl).2 _ q,w⟩⟩,λF2 H2 s2 k=>g F2 H2 (hF.trans s2) λl hl ob q=>k l hl ob ((ho' l hl).2 _ q)⟩
  ·exact aV _ hl
theorem SlotsOk.owns:∀ {sd:List Slot}{σ:St}{l:BL},SlotsOk K F H sd σ->l∈cH sd->F l=none/\∃ob,H l=some ob/\Wr l ob
 |[],_,_,_,e=>by simp[cH] at e
 |z::zs,σ,l,h,e=>by
  obtain⟨o,r,rfl,a,b⟩:=h
  rcases aY.mp (show l∈iN z++cH zs from e) with e|e
  ·cases z with
   |un=>cases e
   |val d=>cases e
   |gh d G=>cases e
   |own l' ds=>rw[aG.mp e];obtain⟨_,n,xs,q,_⟩:=a;exact⟨n,_,q,trivial⟩
   |od l' ks ds=>rw[aG.mp e];obtain⟨_,n,xs,q,_⟩:=a;exact⟨n,_,q,trivial⟩
   |ox ls G=>obtain⟨v,_,h,_⟩:=a;exact h l e
  ·exact SlotsOk.owns b e
theorem StF.lay{p:BL}{o:HO}(S:StF K H₀ F H σ sd)(hp:H p=none)(ho:aNh o):StF K H₀ (upd F p o) (upd H p o) σ sd/\Same F (upd F p o):=by
 have fp:F p=none:=S.sub.free hp;have s1:Same F (upd F p o):=λb u e=>by rw[bK (cI e fp)];exact e
 refine⟨⟨λb u e=>s1 _ _ (S.base _ _ e),λb u e=> ?_,λb u e=> ?_,S.slots.mono s1 λl hl=> ?_,S.nd⟩,s1⟩
 ·by_cases h:b=p
  ·subst h;rw[bV] at e ⊢;exact e
  ·rw[bK h] at e ⊢;exact S.sub _ _ e
 ·by_cases h:b=p
  ·subst h;rw[bV] at e;cases e;exact ho
  ·rw[bK h] at e;exact S.smp _ _ e
 ·obtain⟨n,xs,q,_⟩:=S.slots.owns hl;have hne:l≠p:=cI q hp;exact⟨by rw[bK hne];exact n,λys e=>by rw[bK hne];exact e⟩
theorem StF.layO{p:BL}{xs:List V}(S:StF K H₀ F H σ sd)(hp:H p=none):StF K H₀ F (upd H p (.lst xs)) σ sd/\F p=none/\p∉cH sd:=by
 have fp:F p=none:=S.sub.free hp;refine⟨⟨S.base,λb u e=> ?_,λb u e=> ?_,S.slots.mono (Same.refl _) λl hl=> ?_,S.nd⟩,fp,λhl=> ?_⟩
 ·rw[bK (cI e fp)];exact S.sub _ _ e
 ·by_cases h:b=p
  ·subst h;rw[bV] at e;cases e;trivial
  ·rw[bK h] at e;exact S.smp _ _ e
 ·obtain⟨n,ys,q,_⟩:=S.slots.owns hl;have hne:l≠p:=cI q hp;exact⟨n,λys e=>by rw[bK hne];exact e⟩
 ·obtain⟨n,ys,q,_⟩:=S.slots.owns hl;rw[hp] at q;cases q
theorem StF.freeze{p:BL}{xs:List V}(S:StF K H₀ F H σ sd)(hp:H p=some (.lst xs))(fp:F p=none)(ho:p∉cH sd):StF K H₀ (upd F p (.lst xs)) H σ sd/\Same F (upd F p (.lst xs)):=by
 have s1:Same F (upd F p (.lst xs)):=λb u e=>by rw[bK (cI e fp)];exact e
 refine⟨⟨λb u e=>s1 _ _ (S.base _ _ e),λb u e=> ?_,S.smp,S.slots.mono s1 λl hl=> ?_,S.nd⟩,s1⟩
 ·by_cases h:b=p
  ·subst h;rw[bV] at e;rw[hp];exact e
  ·rw[bK h] at e;exact S.sub _ _ e
 ·obtain⟨n,ys,q,_⟩:=S.slots.owns hl;have hne:l≠p:=λz=>ho (z▸hl)
  exact⟨by rw[bK hne];exact n,λys e=>e⟩
theorem SlotsOk.len:∀ {sd:List Slot}{σ:St},SlotsOk K F H sd σ->σ.length=sd.length
 |[],_,h=>by have h:_=_:=h;rw[h];rfl
 |z::zs,σ,h=>by obtain⟨o,r,rfl,_,b⟩:=h;simp[SlotsOk.len b]
end
inductive R where
 |val (d:D)|own (ds:List D)|bor (ds:List D)|pr (d:D) (ls:List D)|ox (G:V->List BL->Hp->Hp->Prop)
def LOk(K:aA)(F H:Hp)(sd:List Slot)(v:V)(ds:List D):Prop:=
 ∃l xs,v=.ref l/\H l=some (.lst xs)/\RepL K F ds xs/\(F l=some (.lst xs)\/Slot.own l ds∈sd)
noncomputable def ResOk(K:aA)(F H:Hp)(sd:List Slot):R->V->Prop
 |.val d,v=>Rep K F d v
 |.own ds,v=>∃l xs,v=.ref l/\F l=none/\H l=some (.lst xs)/\RepL K F ds xs/\l∉cH sd
 |.bor ds,v=>LOk K F H sd v ds
 |.pr d ls,v=>∃t l xs y,v=.ref t/\F t=some (.tup [y,.ref l])/\Rep K F d y/\F l=none/\H l=some (.lst xs)/\RepL K F ls xs/\l∉cH sd
 |.ox G,v=>∃ls:List BL,ls.Nodup/\(∀l∈ls,F l=none/\(∃ob,H l=some ob/\Wr l ob)/\l∉cH sd)/\∀F' H',Same F F'->(∀l∈ls,∀ob,H l=some ob->H' l=some ob)->G v ls F' H'
noncomputable def R.keeps:R->Prop
 |.own _=>False
 |.pr _ _=>False
 |.ox _=>False
 |_=>True
section
variable {K:aA}{H₀ F F' H H':Hp}{σ:St}{sd:List Slot}{r:R}{v:V}
theorem ResOk.keep(hr:r.keeps)(h:ResOk K F H sd r v)(S':StF K H₀ F' H' σ sd)(s:Same F F'):ResOk K F' H' sd r v:=by
 cases r with
 |val d=>exact Rep.mono s h
 |own ds=>exact hr.elim
 |pr d ls=>exact hr.elim
 |ox G=>exact hr.elim
 |bor ds=>
  obtain⟨l,xs,e,hl,rl,q⟩:=h
  rcases q with q|q
  ·exact⟨l,xs,e,S'.sub _ _ (s _ _ q),rl.mono s,.inl (s _ _ q)⟩
  ·obtain⟨i,hi⟩:=cW q;obtain⟨o,_,e2,_,ys,h1,h2⟩:=S'.slots.get hi;exact⟨l,ys,e,h1,h2,.inr q⟩
end
structure PEd(X:Cx)(sd:List Slot)(e:Expr)(r:R):Prop where
 run:∀ (σ:St) (F H:Hp),StF X.K X.B₀ F H σ sd->
 wE X e σ H λv H'=>∃F',StF X.K X.B₀ F' H' σ sd/\Same F F'/\ResOk X.K F' H' sd r v
instance {X:Cx}{sd:List Slot}{e:Expr}{r:R}:CoeFun (PEd X sd e r) (fun _=>∀ (σ:St) (F H:Hp),StF X.K X.B₀ F H σ sd→
 wE X e σ H λv H'=>∃F',StF X.K X.B₀ F' H' σ sd/\Same F F'/\ResOk X.K F' H' sd r v):=⟨PEd.run⟩
structure PTd(X:Cx)(sd:List Slot)(e:Expr)(b:Bool):Prop where
 run:∀ (σ:St) (F H:Hp),StF X.K X.B₀ F H σ sd->
 wT X e σ H λc H'=>c=b/\∃F',StF X.K X.B₀ F' H' σ sd/\Same F F'
instance {X:Cx}{sd:List Slot}{e:Expr}{b:Bool}:CoeFun (PTd X sd e b) (fun _=>∀ (σ:St) (F H:Hp),StF X.K X.B₀ F H σ sd→
 wT X e σ H λc H'=>c=b/\∃F',StF X.K X.B₀ F' H' σ sd/\Same F F'):=⟨PTd.run⟩
structure PWd(X:Cx)(sd:List Slot)(e:Expr)(b:Bool):Prop where
 run:∀ (σ:St) (F H:Hp),StF X.K X.B₀ F H σ sd->
 wW X e σ H λc H'=>c=b/\∃F',StF X.K X.B₀ F' H' σ sd/\Same F F'
instance {X:Cx}{sd:List Slot}{e:Expr}{b:Bool}:CoeFun (PWd X sd e b) (fun _=>∀ (σ:St) (F H:Hp),StF X.K X.B₀ F H σ sd→
 wW X e σ H λc H'=>c=b/\∃F',StF X.K X.B₀ F' H' σ sd/\Same F F'):=⟨PWd.run⟩
inductive RsOk(K:aA)(F H:Hp)(sd:List Slot):List R->List V->Prop
 |nil:RsOk K F H sd [] []
 |cons {r v rs vs}:ResOk K F H sd r v->RsOk K F H sd rs vs->RsOk K F H sd (r::rs) (v::vs)
structure PAd(X:Cx)(sd:List Slot)(es:List Expr)(rs:List R):Prop where
 run:∀ (σ:St) (F H:Hp),StF X.K X.B₀ F H σ sd->
 wA X es σ H λvs H'=>∃F',StF X.K X.B₀ F' H' σ sd/\Same F F'/\RsOk X.K F' H' sd rs vs
instance {X:Cx}{sd:List Slot}{es:List Expr}{rs:List R}:CoeFun (PAd X sd es rs) (fun _=>∀ (σ:St) (F H:Hp),StF X.K X.B₀ F H σ sd→
 wA X es σ H λvs H'=>∃F',StF X.K X.B₀ F' H' σ sd/\Same F F'/\RsOk X.K F' H' sd rs vs):=⟨PAd.run⟩
structure kR where
 nx:List Slot->Prop
 rt:R->Prop
 bk:List Slot->Prop:=λ_=>False
 ct:List Slot->Prop:=λ_=>False
def aCH(K:aA)(H₀ H:Hp)(r:R)(v:V):Prop:=∃F,Same H₀ F/\Same F H/\Smp H/\ResOk K F H [] r v
noncomputable def lft(X:Cx)(F₀:Hp)(E:kR):uO where
 nx:=λσ H=>∃sd F,StF X.K X.B₀ F H σ sd/\Same F₀ F/\E.nx sd
 rt:=λv H=>∃r,aCH X.K X.B₀ H r v/\E.rt r
 bk:=λσ H=>∃sd F,StF X.K X.B₀ F H σ sd/\Same F₀ F/\E.bk sd
 ct:=λσ H=>∃sd F,StF X.K X.B₀ F H σ sd/\Same F₀ F/\E.ct sd
structure PSd(X:Cx)(sd:List Slot)(sts:List BP)(E:kR):Prop where
 run:∀ (σ:St) (F H:Hp),StF X.K X.B₀ F H σ sd->wSs X sts (lft X F E) σ H
instance {X:Cx}{sd:List Slot}{sts:List BP}{E:kR}:CoeFun (PSd X sd sts E) (λ_=>∀ (σ:St) (F H:Hp),StF X.K X.B₀ F H σ sd->wSs X sts (lft X F E) σ H):=⟨PSd.run⟩
structure PSd1(X:Cx)(sd:List Slot)(st:BP)(E:kR):Prop where
 run:∀ (σ:St) (F H:Hp),StF X.K X.B₀ F H σ sd->wS X st (lft X F E) σ H
instance {X:Cx}{sd:List Slot}{st:BP}{E:kR}:CoeFun (PSd1 X sd st E) (λ_=>∀ (σ:St) (F H:Hp),StF X.K X.B₀ F H σ sd->wS X st (lft X F E) σ H):=⟨PSd1.run⟩
section
variable {X:Cx}{sd:List Slot}{e a b c:Expr}{es:List Expr}{pos:Pos}{r ra rb:R}{d:D}{ds:List D}
theorem PEd.val(h:PEd X sd e (.own ds)):PEd X sd e (.val (.lst ds)):=.mk λσ F H S=>(h σ F H S).imp λv H' ⟨F',S',s,l,xs,e,n,q,rl,no⟩=>by obtain⟨S2,s2⟩:=S'.freeze q n no;refine⟨_,S2,s.trans s2, ?_⟩;show Rep _ _ _ _;simp only[Rep];exact⟨l,xs,e,bV,rl.mono s2⟩
theorem PEd.bor(h:PEd X sd e (.val (.lst ds))):PEd X sd e (.bor ds):=.mk λσ F H S=>(h σ F H S).imp λv H' ⟨F',S',s,q⟩=>by have q:Rep _ _ _ _:=q;simp only[Rep] at q;obtain⟨l,xs,e,q,rl⟩:=q;exact⟨F',S',s,l,xs,e,S'.sub _ _ q,rl,.inl q⟩
theorem aC(i:Nat){x:Str}(hs:sd[i]? =some (.val d))(h:PE X (.Name x pos) (lG i)):PEd X sd (.Name x pos) (.val d):= .mk fun σ F H S=>h.to (by
 obtain⟨o,h1,v,h2,q⟩:=S.slots.get hs
 exact⟨v,by rw[h1,h2],F,S,Same.refl _,q⟩)
theorem aEd(i:Nat){x:Str}{l:BL}(hs:sd[i]? =some (.own l ds))(h:PE X (.Name x pos) (lG i)):PEd X sd (.Name x pos) (.bor ds):= .mk fun σ F H S=>h.to (by
 obtain⟨o,h1,h2,n,xs,q,rl⟩:=S.slots.get hs
 exact⟨.ref l,by rw[h1,h2],F,S,Same.refl _,l,xs,rfl,q,rl,.inr (aO hs)⟩)
theorem bE{i j}:PEd X sd (.Constant (.int i) j pos) (.val (.int i)):=.mk λσ F H S=>pe_int.to ⟨F,S,Same.refl _,by simp only[ResOk,Rep]⟩
theorem vT{i j}:PEd X sd (.Constant (.bool i) j pos) (.val (.bl i)):=.mk λσ F H S=>pe_bl.to ⟨F,S,Same.refl _,by simp only[ResOk,Rep]⟩
theorem aIf{j}:PEd X sd (.Constant .none j pos) (.val .non):=.mk λσ F H S=>pe_non.to ⟨F,S,Same.refl _,by simp only[ResOk,Rep]⟩
theorem dY{i j}:PEd X sd (.Constant (.str i) j pos) (.val (.str i)):=.mk λσ F H S=>pe_str.to ⟨F,S,Same.refl _,by simp only[ResOk,Rep]⟩
theorem aHl{x:Str}{i:Int}{u:BJ}(hg:Gl X x)(hm:X.mg x=some u)(ru:RelV (.int i) u)(hd:(x==("__debug__":Str))=false:=by decide):PEd X sd (.Name x pos) (.val (.int i)):=.mk λσ F H S=>(aDE hg hm ru hd).to ⟨F,S,Same.refl _,by simp only[ResOk,Rep]⟩
theorem aR:PAd X sd [] []:=.mk λσ F H S=>pa_nil.to ⟨F,S,Same.refl _,.nil⟩
theorem aD{rs:List R}(h1:PEd X sd e r)(h2:PAd X sd es rs)(hk:r.keeps:=by trivial)(hs:AG (e::es) X.env=(false,eval e X.env)::AG es X.env:=by rfl):PAd X sd (e::es) (r::rs):=.mk λσ F H S=>(fX fW zV hs).to ((h1 σ F H S).imp λv H1 ⟨F1,S1,s1,q1⟩=>(h2 σ F1 H1 S1).imp λvs H2 ⟨F2,S2,s2,q2⟩=>⟨F2,S2,s1.trans s2,.cons (q1.keep hk S2 s2) q2⟩)
theorem RsOk.vals{K:aA}{F H:Hp}:∀ {ds:List D}{vs:List V},RsOk K F H sd (ds.map R.val) vs->RepL K F ds vs
 |[],_,.nil=>.nil
 |_::_,_,.cons q t=>.cons q (RsOk.vals t)
theorem gF{x1}(h:PAd X sd es (ds.map R.val))(hl:ds.length<=1000):PEd X sd (.Tuple es x1 pos) (.val (.tup ds)):=.mk λσ F H S=>
 (aHP zV).to ((h σ F H S).imp fun vs H1 ⟨F1,S1,s1,q1⟩=>by
  have rl:=q1.vals;refine⟨by rw[rl.len];exact eJ (hV hl),λp hp=> ?_⟩;obtain⟨S2,s2⟩:=S1.lay (o:=.tup vs) hp trivial;refine⟨_,S2,s1.trans s2, ?_⟩;simp only[ResOk,Rep]
  exact⟨p,vs,rfl,bV,rl.mono s2⟩)
theorem iY(h:PAd X sd es (ds.map R.val))(hl:ds.length<=1000):PEd X sd (.List es pos) (.own ds):=.mk λσ F H S=>
 (aMx zV).to ((h σ F H S).imp fun vs H1 ⟨F1,S1,s1,q1⟩=>by
  have rl:=q1.vals;refine⟨by rw[rl.len];exact eJ (hV hl),λp hp=> ?_⟩;obtain⟨S2,fp,no⟩:=S1.layO (xs:=vs) hp
  exact⟨_,S2,s1,p,vs,rfl,fp,bV,rl,no⟩)
theorem aCW{op:Operator}{r2:R2}(ho:OpR X (Ak op) r2)(ha:PEd X sd a ra)(hb:PEd X sd b rb)(hk:ra.keeps)
  (h:∀ (σ:St) (F H:Hp) (v u:V) (Q:VK),StF X.K X.B₀ F H σ sd->ResOk X.K F H sd ra v->ResOk X.K F H sd rb u->(∀w F' H',StF X.K X.B₀ F' H' σ sd->Same F F'->ResOk X.K F' H' sd r w->Q w H')->r2 v u H Q):
  PEd X sd (.BinOp a op b pos) r:=.mk λσ F H S=>
 (aOb ho fW fW).to ((ha σ F H S).imp λv H1 ⟨F1,S1,s1,q1⟩=>(hb σ F1 H1 S1).imp λu H2 ⟨F2,S2,s2,q2⟩=>h σ F2 H2 v u _ S2 (q1.keep hk S2 s2) q2 λw F' H' S' s' q'=>⟨F',S',(s1.trans s2).trans s',q'⟩)
theorem aAD{op:CmpOp}{r2:R2}(ho:OpR X (AT op) r2)(ha:PEd X sd a ra)(hb:PEd X sd b rb)(hk:ra.keeps)(hm:AV op b=false){k:Bool}
  (h:∀ (σ:St) (F H:Hp) (v u:V) (Q:VK),StF X.K X.B₀ F H σ sd->ResOk X.K F H sd ra v->ResOk X.K F H sd rb u->(∀F' H',StF X.K X.B₀ F' H' σ sd->Same F F'->Q (.bl k) H')->r2 v u H Q):
  PEd X sd (.Compare a [op] [b] pos) (.val (.bl k)):=.mk λσ F H S=>
 (aDq ho fW fW hm).to ((ha σ F H S).imp λv H1 ⟨F1,S1,s1,q1⟩=>(hb σ F1 H1 S1).imp λu H2 ⟨F2,S2,s2,q2⟩=>h σ F2 H2 v u _ S2 (q1.keep hk S2 s2) q2 λF' H' S' s'=>⟨F',S',(s1.trans s2).trans s',by simp only[ResOk,Rep]⟩)
theorem vF{k:Bool}(h:PEd X sd e (.val (.bl k)))(he:∀whole,isTrue e X.env whole=(do let v <-whole;standAt e.pos;holding [v] (truthy v)):=by intro _;rfl):PTd X sd e k:=.mk λσ F H S=>
 (aMy fW he).to ((h σ F H S).imp fun v H1 ⟨F1,S1,s1,q1⟩=>by
  simp only[ResOk,Rep] at q1
  exact⟨k,q1,rfl,F1,S1,s1⟩)
theorem nK{op:CmpOp}{r2:R2}(ho:OpR X (AT op) r2)(ha:PEd X sd a ra)(hb:PEd X sd b rb)(hk:ra.keeps)(hm:AV op b=false){k:Bool}
  (h:∀ (σ:St) (F H:Hp) (v u:V) (Q:VK),StF X.K X.B₀ F H σ sd->ResOk X.K F H sd ra v->ResOk X.K F H sd rb u->(∀F' H',StF X.K X.B₀ F' H' σ sd->Same F F'->Q (.bl k) H')->r2 v u H Q):
  PTd X sd (.Compare a [op] [b] pos) k:=.mk λσ F H S=>
 (vI ho fW fW hm).to ((ha σ F H S).imp λv H1 ⟨F1,S1,s1,q1⟩=>(hb σ F1 H1 S1).imp λu H2 ⟨F2,S2,s2,q2⟩=>h σ F2 H2 v u _ S2 (q1.keep hk S2 s2) q2 λF' H' S' s'=>⟨k,rfl,rfl,F',S',(s1.trans s2).trans s'⟩)
end
section
variable {X:Cx}{sd:List Slot}{e a b c:Expr}{es:List Expr}{pos:Pos}{r ra rb:R}{d:D}{ds:List D}{st:BP}{rest:List BP}{E:kR}
theorem wS.imp{D D':uO}{σ:St}{H:Hp}(h:wS X st D σ H)(k1:∀σ H,D.nx σ H->D'.nx σ H)(k2:∀v H,D.rt v H->D'.rt v H)(k3:∀σ H,D.bk σ H->D'.bk σ H)(k4:∀σ H,D.ct σ H->D'.ct σ H):wS X st D' σ H:=
 λpins s I=>thn (h pins s I) λf s' q=>q.imp k1 k2 k3 k4
theorem vD{k:Bool}(h:PTd X sd e k):PTd X sd (.UnaryOp .Not e pos) (!k):=.mk λσ F H S=>(aMo aID).to ((h σ F H S).imp λc H' ⟨e,q⟩=>⟨by rw[e],q⟩)
theorem aHe{k:Bool}(h:PTd X sd a k):PWd X sd (.BoolOp .And [a] pos) k:=.mk λσ F H S=>(aKt aID).to (h σ F H S)
theorem pX{k:Bool}(h:PTd X sd a k):PWd X sd (.BoolOp .Or [a] pos) k:=.mk λσ F H S=>(aMl aID).to (h σ F H S)
theorem aJm{k j:Bool}(h:PTd X sd a k)(h2:k=true->PWd X sd (.BoolOp .And (b::es) pos) j):PWd X sd (.BoolOp .And (a::b::es) pos) (k&&j):=.mk λσ F H S=>
 (aNc aID aNu).to ((h σ F H S).imp fun c H' ⟨e,F',S',s'⟩=>by
  subst e;cases c with
  |false=>exact aIC ⟨rfl,F',S',s'⟩
  |true=>exact aIB ((h2 rfl σ F' H' S').imp λc2 H2 ⟨e2,F2,S2,s2⟩=>⟨by rw[e2];rfl,F2,S2,s'.trans s2⟩))
theorem pH{k j:Bool}(h:PTd X sd a k)(h2:k=false->PWd X sd (.BoolOp .Or (b::es) pos) j):PWd X sd (.BoolOp .Or (a::b::es) pos) (k||j):=.mk λσ F H S=>
 (aOd aID aNu).to ((h σ F H S).imp fun c H' ⟨e,F',S',s'⟩=>by
  subst e;cases c with
  |true=>exact aIB ⟨rfl,F',S',s'⟩
  |false=>exact aIC ((h2 rfl σ F' H' S').imp λc2 H2 ⟨e2,F2,S2,s2⟩=>⟨by rw[e2];rfl,F2,S2,s'.trans s2⟩))
theorem PWd.pt{k:Bool}(h:PWd X sd e k):PTd X sd e k:=.mk λσ F H S=>(aNu).pt.to (h σ F H S)
theorem xG{op}{r:R}(h:PEd X sd a r):PEd X sd (.BoolOp op [a] pos) r:=.mk λσ F H S=>(aLX fW).to (h σ F H S)
theorem tV{k j:Bool}(h:PEd X sd a (.val (.bl k)))(h2:k=true->PEd X sd (.BoolOp .And (b::es) pos) (.val (.bl j))):PEd X sd (.BoolOp .And (a::b::es) pos) (.val (.bl (k&&j))):=.mk λσ F H S=>
 (aMC fW fW).to ((h σ F H S).imp fun v H' ⟨F',S',s',q⟩=>by
  simp only[ResOk,Rep] at q;subst q;refine⟨k,rfl, ?_⟩;cases k with
  |false=>exact aIC ⟨F',S',s',by simp only[ResOk,Rep,qL]⟩
  |true=>exact aIB ((h2 rfl σ F' H' S').imp λv2 H2 ⟨F2,S2,s2,q2⟩=>⟨F2,S2,s'.trans s2,by simpa only[aBR] using q2⟩))
theorem aNY{k j:Bool}(h:PEd X sd a (.val (.bl k)))(h2:k=false->PEd X sd (.BoolOp .Or (b::es) pos) (.val (.bl j))):PEd X sd (.BoolOp .Or (a::b::es) pos) (.val (.bl (k||j))):=.mk λσ F H S=>
 (aOr fW fW).to ((h σ F H S).imp fun v H' ⟨F',S',s',q⟩=>by
  simp only[ResOk,Rep] at q;subst q;refine⟨k,rfl, ?_⟩;cases k with
  |true=>exact aIB ⟨F',S',s',by simp only[ResOk,Rep,aOC]⟩
  |false=>exact aIC ((h2 rfl σ F' H' S').imp λv2 H2 ⟨F2,S2,s2,q2⟩=>⟨F2,S2,s'.trans s2,by simpa only[aBQ] using q2⟩))
theorem aMZ{k:Bool}(h:PEd X sd a (.val (.bl k))):PEd X sd (.UnaryOp .Not a pos) (.val (.bl (!k))):=.mk λσ F H S=>
 (aMf fW).to ((h σ F H S).imp fun v H' ⟨F',S',s',q⟩=>by
  simp only[ResOk,Rep] at q
  exact⟨k,q,F',S',s',by simp only[ResOk,Rep]⟩)
theorem gA{op:Operator}{g:Int->Int->Int}{i j:Int}(ho:OpR X (Ak op) (rI0 λi j=>.int (g i j)))(ha:PEd X sd a (.val (.int i)))(hb:PEd X sd b (.val (.int j))):PEd X sd (.BinOp a op b pos) (.val (.int (g i j))):=
 aCW ho ha hb trivial λσ F H v u Q S q1 q2 k=>by simp only[ResOk,Rep] at q1 q2;exact⟨i,j,q1,q2,k _ F H S (Same.refl _) (by simp only[ResOk,Rep])⟩
theorem dM{op:Operator}{g:Int->Int->Int}{C:Int->Int->Prop}{i j:Int}(ho:OpR X (Ak op) (rI C λi j=>.int (g i j)))(ha:PEd X sd a (.val (.int i)))(hb:PEd X sd b (.val (.int j)))(hc:C i j):PEd X sd (.BinOp a op b pos) (.val (.int (g i j))):=
 aCW ho ha hb trivial λσ F H v u Q S q1 q2 k=>by simp only[ResOk,Rep] at q1 q2;exact⟨i,j,q1,q2,hc,k _ F H S (Same.refl _) (by simp only[ResOk,Rep])⟩
theorem kU:OpR X (Ak .Mult) (rI IntMulOk λi j=>.int (i*j)):=opI λ_ _ _ _ _ _ _ hc q=>mul_int q hc
theorem xL:OpR X (Ak .FloorDiv) (rI (λ_ j=>0<j/\j.natAbs.log2<9000) λi j=>.int (i / j)):=opI λi j _ _ _ _ _ hc q=>by have h1:(0:Int)<j:=hc.1;exact floordiv_int (by omega) (by rw[aAi i (by omega)];exact q) (.inl (PyProof.noPylong_of_log2 hc.2))
theorem aII{op:CmpOp}{g:Int->Int->Bool}{i j:Int}(ho:OpR X (AT op) (rI0 λi j=>.bl (g i j)))(ha:PEd X sd a (.val (.int i)))(hb:PEd X sd b (.val (.int j)))(hm:AV op b=false):PEd X sd (.Compare a [op] [b] pos) (.val (.bl (g i j))):=
 aAD ho ha hb trivial hm λσ F H v u Q S q1 q2 k=>by simp only[ResOk,Rep] at q1 q2;exact⟨i,j,q1,q2,k F H S (Same.refl _)⟩
theorem oU{op:CmpOp}{g:Int->Int->Bool}{i j:Int}(ho:OpR X (AT op) (rI0 λi j=>.bl (g i j)))(ha:PEd X sd a (.val (.int i)))(hb:PEd X sd b (.val (.int j)))(hm:AV op b=false):PTd X sd (.Compare a [op] [b] pos) (g i j):=
 nK ho ha hb trivial hm λσ F H v u Q S q1 q2 k=>by simp only[ResOk,Rep] at q1 q2;exact⟨i,j,q1,q2,k F H S (Same.refl _)⟩
noncomputable def flt:D->Option V
 |.non=>some .non
 |.bl b=>some (.bl b)
 |.int i=>some (.int i)
 |.str x=>some (.str x)
 |_=>none
theorem zQ{K:aA}{H:Hp}{d:D}{x v:V}(h:flt d=some x)(q:Rep K H d v):v=x:=by
 cases d with
 |non=>simp only[Rep] at q;simp only[flt] at h;rw[q];exact cF.inj h
 |bl=>simp only[Rep] at q;simp only[flt] at h;rw[q];exact cF.inj h
 |int=>simp only[Rep] at q;simp only[flt] at h;rw[q];exact cF.inj h
 |str=>simp only[Rep] at q;simp only[flt] at h;rw[q];exact cF.inj h
 |tup=>simp only[flt] at h;cases h
 |lst=>simp only[flt] at h;cases h
 |dic=>simp only[flt] at h;cases h
 |dki=>simp only[flt] at h;cases h
 |any=>simp only[flt] at h;cases h
 |scr=>simp only[flt] at h;cases h
theorem cS{d1 d2:D}{x y:V}{k:Bool}(ha:PEd X sd a (.val d1))(hb:PEd X sd b (.val d2))(h1:flt d1=some x)(h2:flt d2=some y)(hs:aOP x y=true)(hk:decide (x=y)=k):PTd X sd (.Compare a [.Eq] [b] pos) k:=
 nK aLd ha hb trivial (jI _) λσ F H v u Q S q1 q2 kk=>by have e1:=zQ h1 q1;have e2:=zQ h2 q2;subst e1 e2;exact⟨hs,by rw[hk];exact kk F H S (Same.refl _)⟩
theorem aEa{i j:Int}(ha:PEd X sd a (.val (.int i)))(hb:PEd X sd b (.val (.int j))):PTd X sd (.Compare a [.Eq] [b] pos) (decide (i=j)):=cS ha hb rfl rfl rfl (by rw[aAy,aCE])
theorem aEH:OpR X (AT .IsNot) (λx y H Q=>∃p q:Bool,x=.bl p/\y=.bl q/\Q (.bl (!(p==q))) H):=by intro pins s σ H x y v u Q I rx ry h;obtain⟨p,q,rfl,rfl,h⟩:=h;cases(show v=Value.bool p from rx);cases(show u=Value.bool q from ry);refine wpAny_isNot_plain (by cases p<;>cases q<;>rfl) ⟨.bl (!(p==q)),H,I, ?_,h⟩;show Value.bool (!(Value.bool p==Value.bool q))=Value.bool (!(p==q));cases p<;>cases q<;>rfl
theorem wP{p q:Bool}(ha:PEd X sd a (.val (.bl p)))(hb:PEd X sd b (.val (.bl q))):PTd X sd (.Compare a [.IsNot] [b] pos) (!(p==q)):=
 nK aEH ha hb trivial (jI _) λσ F H v u Q S q1 q2 k=>by simp only[ResOk,Rep] at q1 q2;exact⟨p,q,q1,q2,k F H S (Same.refl _)⟩
theorem eX{n:Nat}(ha:PEd X sd a (.val (.tup ds)))(hb:PEd X sd b (.val (.int (n:Int))))(hd:ds[n]? =some d)(hs:pV b):PEd X sd (.Subscript a b pos) (.val d):=.mk λσ F H S=>
 (aIV aMe fW fW hs).to ((ha σ F H S).imp fun v H1 ⟨F1,S1,s1,q1⟩=>(hb σ F1 H1 S1).imp fun u H2 ⟨F2,S2,s2,q2⟩=>by
  have q1:=Rep.mono s2 q1;simp only[ResOk,Rep] at q1 q2;obtain⟨p,xs,e1,hp,rl⟩:=q1;obtain⟨w,hw,rw'⟩:=rl.get hd
  exact⟨p,xs,(n:Int),w,e1,q2,.of (S2.sub _ _ hp),zY hw,F2,S2,s1.trans s2,rw'⟩)
theorem qV{n:Nat}(ha:PEd X sd a (.bor ds))(hb:PEd X sd b (.val (.int (n:Int))))(hd:ds[n]? =some d)(hs:pV b):PEd X sd (.Subscript a b pos) (.val d):=.mk λσ F H S=>
 (aIV aDB fW fW hs).to ((ha σ F H S).imp fun v H1 ⟨F1,S1,s1,q1⟩=>(hb σ F1 H1 S1).imp fun u H2 ⟨F2,S2,s2,q2⟩=>by
  obtain⟨p,xs,e1,hp,rl,_⟩:=ResOk.keep (r:=.bor ds) trivial q1 S2 s2;simp only[ResOk,Rep] at q2;obtain⟨w,hw,rw'⟩:=rl.get hd
  exact⟨p,xs,(n:Int),w,e1,q2,.of hp,zY hw,F2,S2,s1.trans s2,rw'⟩)
theorem aMj{ns:List Int}{n:Nat}{z:Int}(ha:PEd X sd a (.val (.scr ns)))(hb:PEd X sd b (.val (.int (n:Int))))(hd:ns[n]? =some z)(hs:pV b):PEd X sd (.Subscript a b pos) (.val (.int z)):=.mk λσ F H S=>
 (aIV aDB fW fW hs).to ((ha σ F H S).imp fun v H1 ⟨F1,S1,s1,q1⟩=>(hb σ F1 H1 S1).imp fun u H2 ⟨F2,S2,s2,q2⟩=>by
  have q1:=Rep.mono (s2.trans S2.sub) q1;simp only[ResOk,Rep] at q1 q2;obtain⟨p,e1,hp⟩:=q1
  exact⟨p,_,(n:Int),.int z,e1,q2,hp,zY (by rw[aQ,hd];rfl),F2,S2,s1.trans s2,by simp only[ResOk,Rep]⟩)
theorem mE{x:Str}{p:Pos}{id:String}{rr:List V->Hp->VK->Prop}{rs:List R}(hc:lY X (.builtin id) rr)(hg:Gl X x)(hm:X.mg x=none)(hv:An x=some (.builtin id))(ha:PAd X sd (e::es) rs)
  (h:∀ (σ:St) (F H:Hp) (vs:List V) (Q:VK),StF X.K X.B₀ F H σ sd->RsOk X.K F H sd rs vs->(∀w F' H',StF X.K X.B₀ F' H' σ sd->Same F F'->ResOk X.K F' H' sd r w->Q w H')->rr vs H Q)
  (hn:x≠"__name__":=by decide) (hdb:(x==("__debug__":Str))=false:=by decide) (he:AG (e::es) X.env=(false,eval e X.env)::AG es X.env:=by rfl) (hpl:(Au pos (AG es X.env)).any (·.1)=false:=by rfl):
  PEd X sd (.Call (.Name x p) (e::es) [] pos) r:=.mk λσ F H S=>
 (rX hc hg hm hv zV hn hdb he hpl).to ((ha σ F H S).imp λvs H1 ⟨F1,S1,s1,q1⟩=>h σ F1 H1 vs _ S1 q1 λw F' H' S' s' q'=>⟨F',S',s1.trans s',q'⟩)
theorem yZ{x:Str}{p:Pos}{T:String}{rr:List V->Hp->VK->Prop}{rs:List R}(hc:lY X (.type T) rr)(hg:Gl X x)(hm:X.mg x=none)(hv:An x=some (.type T))(ha:PAd X sd (e::es) rs)
  (h:∀ (σ:St) (F H:Hp) (vs:List V) (Q:VK),StF X.K X.B₀ F H σ sd->RsOk X.K F H sd rs vs->(∀w F' H',StF X.K X.B₀ F' H' σ sd->Same F F'->ResOk X.K F' H' sd r w->Q w H')->rr vs H Q)
  (hn:x≠"__name__":=by decide) (hdb:(x==("__debug__":Str))=false:=by decide) (he:AG (e::es) X.env=(false,eval e X.env)::AG es X.env:=by rfl) (hpl:(Au pos (AG es X.env)).any (·.1)=false:=by rfl):
  PEd X sd (.Call (.Name x p) (e::es) [] pos) r:=.mk λσ F H S=>
 (aEM hc hg hm hv zV hn hdb he hpl).to ((ha σ F H S).imp λvs H1 ⟨F1,S1,s1,q1⟩=>h σ F1 H1 vs _ S1 q1 λw F' H' S' s' q'=>⟨F',S',s1.trans s',q'⟩)
theorem lV{p:Pos}(hg:Gl X "len")(hm:X.mg "len"=none)(ha:PEd X sd e (.bor ds))(hst:AG [e] X.env=(false,eval e X.env)::AG [] X.env:=by rfl):PEd X sd (.Call (.Name "len" p) [e] [] pos) (.val (.int ds.length)):=
 mE (he:=hst) sG hg hm PySem.boot_len (aD ha aR trivial hst) λσ F H vs Q S q k=>by
  cases q with
  |cons q1 q2=>cases q2;obtain⟨p,xs,rfl,hp,rl,_⟩:=q1;refine⟨p,xs,rfl,.inl (.of hp),k _ F H S (Same.refl _) ?_⟩;simp only[ResOk,Rep,rl.len]
theorem aJb{p:Pos}{ns:List Int}(hg:Gl X "len")(hm:X.mg "len"=none)(ha:PEd X sd e (.val (.scr ns)))(hst:AG [e] X.env=(false,eval e X.env)::AG [] X.env:=by rfl):PEd X sd (.Call (.Name "len" p) [e] [] pos) (.val (.int ns.length)):=
 mE (he:=hst) sG hg hm PySem.boot_len (aD ha aR trivial hst) λσ F H vs Q S q k=>by
  cases q with
  |cons q1 q2=>cases q2;have q1:=Rep.mono S.sub q1;simp only[Rep] at q1;obtain⟨p,rfl,hp⟩:=q1;refine⟨p,_,rfl,.inl hp,k _ F H S (Same.refl _) ?_⟩;simp only[ResOk,Rep,aB]
noncomputable def tyD:D->BJ
 |.non=>.type "NoneType"
 |.bl _=>.type "bool"
 |.int _=>.type "int"
 |.str _=>.type "str"
 |.tup _=>.type "tuple"
 |.lst _=>.type "list"
 |.dic=>.type "dict"
 |.dki _ _=>.type "dict"
 |.any _=>.type "dict"
 |.scr _=>.type "list"
theorem aOj{K:aA}{H:Hp}{d:D}{v:V}(h:∀ns,d≠ .scr ns)(hA:∀G,d≠ .any G)(q:Rep K H d v):rR K H v (tyD d):=by
 cases d with
 |non=>simp only[Rep] at q;subst q;exact .non
 |bl b=>simp only[Rep] at q;subst q;exact .bl b
 |int b=>simp only[Rep] at q;subst q;exact .int b
 |str b=>simp only[Rep] at q;subst q;exact .str b
 |tup ds=>simp only[Rep] at q;obtain⟨a,xs,rfl,h,_⟩:=q;exact .tup h
 |lst ds=>simp only[Rep] at q;obtain⟨a,xs,rfl,h,_⟩:=q;exact .lst h
 |dic=>simp only[Rep] at q;obtain⟨a,rfl,h⟩:=q;exact .dK (.of h)
 |dki ks ds=>simp only[Rep] at q;obtain⟨a,xs,rfl,h,_⟩:=q;exact .dK (.inr h)
 |scr ns=>exact absurd rfl (h ns)
 |any G=>exact absurd rfl (hA G)
theorem aEP:lY X (.builtin "isinstance") (λxs H Q=>∃x t n k,xs=[x,.ty n]/\rR X.K H x t/\fY X.K t (.type n)=some k/\Q (.bl k) H):=by intro pins s σ H xs us Q I r h;obtain⟨x,t,n,k,rfl,ty,e,q⟩:=h;obtain⟨u,u',rfl,ru,ru'⟩:=aOi r;cases(show u'=Value.type n from ru');exact aEB I ru ty e λtk=>⟨.bl k,H,I.tok tk,rfl,q⟩
theorem aJP{x:Str}{n:String}{pos:Pos}(hg:Gl X x)(hm:X.mg x=none)(hv:An x=some (.type n))(hn:x≠"__name__":=by decide)(hd:(x==("__debug__":Str))=false:=by decide):PE X (.Name x pos) (tC (.ty n)):=aKo hg hm hv rfl hn hd
theorem aDA{x:Str}{n:String}{p p2:Pos}{k:Bool}(hg:Gl X "isinstance")(hm:X.mg "isinstance"=none)(hgx:Gl X x)(hmx:X.mg x=none)(hv:An x=some (.type n))(ha:PEd X sd e (.val d))(hd:∀ns,d≠ .scr ns)
  (hk:fY X.K (tyD d) (.type n)=some k) (hA:∀G,d≠ .any G:=by(intro _ h;cases h)) (hn:x≠"__name__":=by decide) (hdb:(x==("__debug__":Str))=false:=by decide)
  (he:AG (e::[.Name x p2]) X.env=(false,eval e X.env)::AG [.Name x p2] X.env:=by rfl) (hpl:(Au pos (AG [.Name x p2] X.env)).any (·.1)=false:=by rfl) (hs2:AG [.Name x p2] X.env=(false,eval (.Name x p2) X.env)::AG [] X.env:=by rfl):
  PEd X sd (.Call (.Name "isinstance" p) [e, .Name x p2] [] pos) (.val (.bl k)):=.mk λσ F H S=>
 (rX aEP hg hm boot_isinstance (fX fW (fX (aJP hgx hmx hv hn hdb) pa_nil hs2) he) (by decide) (by decide) he hpl).to ((ha σ F H S).imp λv H1 ⟨F1,S1,s1,q1⟩=>by exact⟨v,tyD d,n,k,rfl,aOj hd hA (Rep.mono S1.sub q1),hk,F1,S1,s1,by simp only[ResOk,Rep]⟩)
theorem cO(h:E.nx sd):PSd X sd [] E:=.mk λσ F H S=>pss_nil.to ⟨sd,F,S,Same.refl _,h⟩
theorem aJ(h:PSd1 X sd st {E with nx:=λsd'=>PSd X sd' rest E}):PSd X sd (st::rest) E:=.mk λσ F H S=>
 (aGW aOK uE).to (wS.imp (h σ F H S) (fun σ' H' ⟨sd',F',S',s',q⟩=>(q σ' F' H' S').imp (fun σ2 H2 ⟨sd2,F2,S2,s2,q2⟩=>⟨sd2,F2,S2,s'.trans s2,q2⟩) (fun v H2 q2=>q2)
  (λσ2 H2 ⟨sd2,F2,S2,s2,q2⟩=>⟨sd2,F2,S2,s'.trans s2,q2⟩) λσ2 H2 ⟨sd2,F2,S2,s2,q2⟩=>⟨sd2,F2,S2,s'.trans s2,q2⟩) (λv H q=>q) (λσ H q=>q) λσ H q=>q)
theorem bB(h:PSd1 X sd st E):PSd X sd [st] E:=.mk λσ F H S=>(aJy aOK).to (h σ F H S)
theorem bU(h:PEd X sd e r)(hr:match r with | .bor _=>False|_=>True)(hE:E.rt r):PSd1 X sd (.Return (some e) pos) E:=.mk λσ F H S=>
 (aHw fW).to ((h σ F H S).imp fun v H' ⟨F',S',s',q⟩=>⟨r,⟨F',S'.base,S'.sub,S'.smp,by
  cases r with
  |val d=>exact q
  |own ds=>obtain⟨l,xs,a,b,c,d,_⟩:=q;exact⟨l,xs,a,b,c,d,by simp[cH]⟩
  |pr d ls=>obtain⟨t,l,xs,y,a,b,c,d,e,f,_⟩:=q;exact⟨t,l,xs,y,a,b,c,d,e,f,by simp[cH]⟩
  |ox G=>obtain⟨ls,nd,h,g⟩:=q;exact⟨ls,nd,λl hl=>⟨(h l hl).1,(h l hl).2.1,by simp[cH]⟩,g⟩
  |bor ds=>exact hr.elim⟩,hE⟩)
theorem nL(i:Nat){x:Str}{p:Pos}{l:BL}(hs:sd[i]? =some (.own l ds))(h:PE X (.Name x p) (lG i))(hE:E.rt (.own ds)):PSd1 X sd (.Return (some (.Name x p)) pos) E:=.mk λσ F H S=>
 (aHw h).to (by
  obtain⟨o,h1,h2,n,xs,q,rl⟩:=S.slots.get hs
  exact⟨.ref l,by rw[h1,h2],.own ds,⟨F,S.base,S.sub,S.smp,l,xs,rfl,n,q,rl,by simp[cH]⟩,hE⟩)
theorem iP{k:Bool}{a o:List BP}(h:PTd X sd c k)(h1:k=true->PSd X sd a E)(h2:k=false->PSd X sd o E):PSd1 X sd (.If c a o pos) E:=.mk λσ F H S=>
 (aOf aID uE uE).to ((h σ F H S).imp fun k' H' ⟨e,F',S',s'⟩=>by
  have up:∀ {sts:List BP},PSd X sd sts E->wSs X sts (lft X F E) σ H':=λh=>(h σ F' H' S').imp (λσ2 H2 ⟨sd2,F2,S2,s2,q2⟩=>⟨sd2,F2,S2,s'.trans s2,q2⟩) (λv H2 q2=>q2)
   (λσ2 H2 ⟨sd2,F2,S2,s2,q2⟩=>⟨sd2,F2,S2,s'.trans s2,q2⟩) λσ2 H2 ⟨sd2,F2,S2,s2,q2⟩=>⟨sd2,F2,S2,s'.trans s2,q2⟩
  subst e;cases k' with
  |true=>exact aIB (up (h1 rfl))
  |false=>exact aIC (up (h2 rfl)))
theorem lF:∀ {sd:List Slot}{z:Slot} (i:Nat),(cH sd).Nodup->(∀l,l∈iN z->l∉cH sd\/(∃z',sd[i]? =some z'/\l∈iN z'))->(hz:(iN z).Nodup:=by simp[iN])->(cH (sd.set i z)).Nodup/\∀l,l∈cH (sd.set i z)->l∈cH sd\/l∈iN z
 |[],z,i,h,_,_=>⟨h,λl hl=>.inl hl⟩
 |z'::zs,z,0,h,hz,nz=>by
  show(iN z++cH zs).Nodup/\∀l,l∈iN z++cH zs->_;obtain⟨n1,n2,n3⟩:=bF.mp (show(iN z'++cH zs).Nodup from h);refine⟨bF.mpr ⟨nz,n2,λa ha b hb e=> ?_⟩,λl hl=> ?_⟩
  ·subst e
   rcases hz a ha with y|⟨z2,e2,y⟩
   ·exact y (aV _ hb)
   ·have:z'=z2:=by simpa using e2
    subst this;exact n3 a y a hb rfl
  ·rcases aY.mp hl with y|y
   ·exact .inr y
   ·exact .inl (aV _ y)
 |z'::zs,z,i+1,h,hz,nz=>by
  show(iN z'++cH (zs.set i z)).Nodup/\∀l,l∈iN z'++cH (zs.set i z)->_;obtain⟨n1,n2,n3⟩:=bF.mp (show(iN z'++cH zs).Nodup from h)
  obtain ⟨i1,i2⟩:=lF (sd:=zs) (z:=z) i n2 (fun l hl=>by
   rcases hz l hl with y|⟨z2,e2,y⟩
   ·exact .inl λq=>y (aV _ q)
   ·exact .inr ⟨z2,by simpa using e2,y⟩) nz
  refine⟨bF.mpr ⟨n1,i1,λa ha b hb e=> ?_⟩,λl hl=> ?_⟩
  ·subst e
   rcases i2 a hb with y|y
   ·exact n3 a ha a y rfl
   ·rcases hz a y with y|⟨z2,e2,y⟩
    ·exact y (bW _ ha)
    ·have m:a∈cH zs:=dO.mpr ⟨z2,aO (by simpa using e2),y⟩;exact n3 a ha a m rfl
  ·rcases aY.mp hl with y|y
   ·exact .inl (bW _ y)
   ·rcases i2 l y with y|y
    ·exact .inl (aV _ y)
    ·exact .inr y
theorem StF.set{K:aA}{H₀ F H:Hp}{σ:St}{v:V}(S:StF K H₀ F H σ sd)(i:Nat)(q:Rep K F d v):StF K H₀ F H (σ.set i (some v)) (sd.set i (.val d)):=
 ⟨S.base,S.sub,S.smp,S.slots.set (z:=.val d) ⟨v,rfl,q⟩ i,(lF i S.nd λl e=>by simp[iN] at e).1⟩
theorem StF.setO{K:aA}{H₀ F H:Hp}{σ:St}{l:BL}{xs:List V}(S:StF K H₀ F H σ sd)(i:Nat)(n:F l=none)(h:H l=some (.lst xs))(q:RepL K F ds xs)(no:l∉cH sd):StF K H₀ F H (σ.set i (some (.ref l))) (sd.set i (.own l ds)):=
 ⟨S.base,S.sub,S.smp,S.slots.set (z:=.own l ds) ⟨rfl,n,xs,h,q⟩ i,(lF i S.nd λl' e=>by rw[aG.mp e];exact .inl no).1⟩
theorem cR(i:Nat){x:Str}{p:Pos}(hN:X.N.Nodup)(hi:X.N[i]? =some x)(hx:Loc X.env.scope x)(h:PEd X sd e (.val d))(hE:E.nx (sd.set i (.val d)))(hs:Ad e (some (.Name x p)) pos.line X.env=pure false:=by rfl)
  (hf:X.fn x=true\/X.env.scope.names.lookup x=some .local:=by first|exact .inl rfl|exact .inr rfl|assumption):PSd1 X sd (.Assign [.Name x p] e pos) E:=.mk λσ F H S=>
 (qR hN hi hx fW hs hf).to ((h σ F H S).imp λv H' ⟨F',S',s',q⟩=>⟨_,F',S'.set i q,s',hE⟩)
theorem gC(i:Nat){x:Str}{p:Pos}(hN:X.N.Nodup)(hi:X.N[i]? =some x)(hx:Loc X.env.scope x)(h:PEd X sd e (.own ds))(hE:∀l,E.nx (sd.set i (.own l ds)))(hs:Ad e (some (.Name x p)) pos.line X.env=pure false:=by rfl)
  (hf:X.fn x=true\/X.env.scope.names.lookup x=some .local:=by first|exact .inl rfl|exact .inr rfl|assumption):PSd1 X sd (.Assign [.Name x p] e pos) E:=.mk λσ F H S=>
 (qR hN hi hx fW hs hf).to ((h σ F H S).imp λv H' ⟨F',S',s',l,xs,e,n,q,rl,no⟩=>⟨_,F',by subst e;exact S'.setO i n q rl no,s',hE l⟩)
noncomputable def Le:List Slot->List Slot->Prop
 |[],[]=>True
 |x::xs,y::ys=>(y=.un\/x=y)/\Le xs ys
 |_,_=>False
theorem Le.refl:∀ (sd:List Slot),Le sd sd
 |[]=>trivial
 |_::xs=>⟨.inr rfl,Le.refl xs⟩
theorem Le.own:∀ {sd sd':List Slot},Le sd sd'->(cH sd').Sublist (cH sd)
 |[],[],_=>List.Sublist.refl _
 |[],_::_,h=>h.elim
 |_::_,[],h=>h.elim
 |x::xs,y::ys,h=>by
  obtain⟨h1,h2⟩:=h;have ih:=Le.own h2
  rcases h1 with rfl|rfl
  ·exact ih.trans (List.sublist_append_right _ _)
  ·exact List.Sublist.append (List.Sublist.refl _) ih
theorem Le.slots{K:aA}{F H:Hp}:∀ {sd sd':List Slot}{σ:St},Le sd sd'->SlotsOk K F H sd σ->SlotsOk K F H sd' σ
 |[],[],_,_,h=>h
 |[],_::_,_,h,_=>h.elim
 |_::_,[],_,h,_=>h.elim
 |x::xs,y::ys,σ,h,q=>by
  obtain⟨h1,h2⟩:=h;obtain⟨o,r,rfl,a,b⟩:=q;refine⟨o,r,rfl, ?_,Le.slots h2 b⟩
  rcases h1 with rfl|rfl
  ·trivial
  ·exact a
theorem StF.le{K:aA}{H₀ F H:Hp}{σ:St}{sd':List Slot}(S:StF K H₀ F H σ sd)(h:Le sd sd'):StF K H₀ F H σ sd':=⟨S.base,S.sub,S.smp,h.slots S.slots,S.nd.sublist h.own⟩
theorem zW{sd':List Slot}{sts:List BP}(h:Le sd sd')(q:PSd X sd' sts E):PSd X sd sts E:=.mk λσ F H S=>q σ F H (S.le h)
theorem aCJ{F₀ F:Hp}{E:kR}{σ:St}{H:Hp}{sts:List BP}(s:Same F₀ F)(h:wSs X sts (lft X F E) σ H):wSs X sts (lft X F₀ E) σ H:=
 h.imp (λσ2 H2 ⟨sd2,F2,S2,s2,q2⟩=>⟨sd2,F2,S2,s.trans s2,q2⟩) (λv H2 q2=>q2) (λσ2 H2 ⟨sd2,F2,S2,s2,q2⟩=>⟨sd2,F2,S2,s.trans s2,q2⟩) λσ2 H2 ⟨sd2,F2,S2,s2,q2⟩=>⟨sd2,F2,S2,s.trans s2,q2⟩
theorem iG:∀ (sd:List Slot) (i:Nat),Le sd (sd.set i .un)
 |[],_=>trivial
 |_::xs,0=>⟨.inl rfl,Le.refl xs⟩
 |_::xs,i+1=>⟨.inr rfl,iG xs i⟩
theorem jB:∀ {sd:List Slot}{i:Nat}{l:BL}{z:Slot},(cH sd).Nodup->sd[i]? =some z->l∈iN z->l∉cH (sd.set i .un)
 |[],_,_,_,_,e,_=>by simp at e
 |y::zs,0,l,z,h,e,hl=>by
  have:y=z:=by simpa using e
  subst this;obtain⟨n1,n2,n3⟩:=bF.mp (show(iN y++cH zs).Nodup from h);exact λhm=>n3 l hl l hm rfl
 |y::zs,i+1,l,z,h,e,hl=>by
  have e':zs[i]? =some z:=by simpa using e
  obtain⟨n1,n2,n3⟩:=bF.mp (show(iN y++cH zs).Nodup from h);have ml:l∈cH zs:=dO.mpr ⟨_,aO e',hl⟩;intro hm
  rcases aY.mp (show l∈iN y++cH (zs.set i .un) from hm) with q|q
  ·exact n3 l q l ml rfl
  ·exact jB n2 e' hl q
theorem pU{sd:List Slot}{i:Nat}{l:BL}{ds:List D}(h:(cH sd).Nodup)(e:sd[i]? =some (.own l ds)):l∉cH (sd.set i .un):=jB h e (cG l)
theorem lJ{σ:St}{i:Nat}{o:Option V}(h:σ[i]? =some o):σ.set i o=σ:=by obtain⟨hi,e⟩:=aE.mp h;rw[<-e];exact aCC hi
theorem jY(sd:List Slot)(i:Nat)(x y:Slot):(sd.set i x).set i y=sd.set i y:=by simp
theorem StF.wr{K:aA}{H₀ F H:Hp}{σ:St}{i:Nat}{l:BL}{ds':List D}{xs':List V}(S:StF K H₀ F H σ sd)(hs:sd[i]? =some (.own l ds))(rl:RepL K F ds' xs'):StF K H₀ F (upd H l (.lst xs')) σ (sd.set i (.own l ds')):=by
 obtain⟨o,h1,h2,n,xs,q,_⟩:=S.slots.get hs;have no:=pU S.nd hs;have S0:=S.le (iG sd i);refine⟨S.base,λb u e=> ?_,λb u e=> ?_, ?_, ?_⟩
 ·rw[bK (cI e n)];exact S.sub _ _ e
 ·by_cases h:b=l
  ·subst h;rw[bV] at e;cases e;trivial
  ·rw[bK h] at e;exact S.smp _ _ e
 ·have q1:SlotsOk K F (upd H l (.lst xs')) (sd.set i .un) σ:=S0.slots.mono (Same.refl _) λl' hl=>by
   obtain⟨n',ys,q',_⟩:=S0.slots.owns hl;have hne:l'≠l:=λz=>no (z▸hl)
   exact⟨n',λys e=>by rw[bK hne];exact e⟩
  have q2:=q1.set (z:=.own l ds') (o:=some (.ref l)) ⟨rfl,n,xs',bV,rl⟩ i;rw[jY,lJ (by rw[h1,h2])] at q2;exact q2
 ·have:=lF (z:=Slot.own l ds') i S0.nd λl' e=>by rw[aG.mp e];exact .inl no
  rw[jY] at this;exact this.1
theorem jW(i:Nat){l:BL}{sts:List BP}(hs:sd[i]? =some (.own l ds))(h:PSd X (sd.set i (.val (.lst ds))) sts E):PSd X sd sts E:=.mk λσ F H S=>by obtain⟨o,h1,h2,n,xs,q,rl⟩:=S.slots.get hs;have S0:=S.le (iG sd i);obtain⟨S1,s1⟩:=S0.freeze q n (pU S.nd hs);have S2:=S1.set (d:=.lst ds) (v:=.ref l) i (by simp only[Rep];exact⟨l,xs,rfl,bV,rl.mono s1⟩);rw[jY,lJ (by rw[h1,h2])] at S2;exact aCJ s1 (h σ _ H S2)
theorem qX(i:Nat){x:Str}{p ap cp:Pos}{l:BL}(hs:sd[i]? =some (.own l ds))(hx:PE X (.Name x p) (lG i))(h:PEd X sd e (.val d))(hl:ds.length<=1000)(hE:E.nx (sd.set i (.own l (ds++[d]))))
  (hst:AG (e::[]) X.env=(false,eval e X.env)::AG [] X.env:=by rfl)
  (hm:PE X (.Call (.Attribute (.Name x p) "append" ap) [e] [] cp) (tBM X.K "list" qB (lG i) (lD (wE X e) uA)):=by exact zJ iR nD nE tM (pv _) (fX fW pa_nil))
  (hsw:Ad (.Call (.Attribute (.Name x p) "append" ap) [e] [] cp) none pos.line X.env=pure false:=by rfl):
  PSd1 X sd (.Expr (.Call (.Attribute (.Name x p) "append" ap) [e] [] cp) pos) E:=.mk λσ F H S=>
 (pW hm hsw).to (by
  obtain⟨o,h1,h2,n,xs,q,rl⟩:=S.slots.get hs;refine⟨.ref l,by rw[h1,h2],.inl ⟨rfl,xs,.of q⟩,(h σ F H S).imp λv H1 ⟨F1,S1,s1,q1⟩=> ?_⟩;obtain⟨o',h1',h2',n',xs',q',rl'⟩:=S1.slots.get hs
  exact⟨l,xs',v,rfl,rfl,q',by rw[rl'.len];exact hV hl,_,F1,S1.wr hs (rl'.app (.one q1)),s1,hE⟩)
theorem vQ(i:Nat){x:Str}{p ap cp:Pos}{l:BL}{ds2:List D}(hs:sd[i]? =some (.own l ds))(hx:PE X (.Name x p) (lG i))(h:PEd X sd e (.val (.lst ds2)))(hl:ds.length+ds2.length<=1000)(hE:E.nx (sd.set i (.own l (ds++ds2))))
  (hst:AG (e::[]) X.env=(false,eval e X.env)::AG [] X.env:=by rfl)
  (hm:PE X (.Call (.Attribute (.Name x p) "extend" ap) [e] [] cp) (tBM X.K "list" aDv (lG i) (lD (wE X e) uA)):=by exact zJ iR PySem.F.slot_list_extend PySem.F.type_list_extend aEw (pv _) (fX fW pa_nil))
  (hsw:Ad (.Call (.Attribute (.Name x p) "extend" ap) [e] [] cp) none pos.line X.env=pure false:=by rfl):
  PSd1 X sd (.Expr (.Call (.Attribute (.Name x p) "extend" ap) [e] [] cp) pos) E:=.mk λσ F H S=>
 (pW hm hsw).to (by
  obtain⟨o,h1,h2,n,xs,q,rl⟩:=S.slots.get hs;refine⟨.ref l,by rw[h1,h2],.inl ⟨rfl,xs,.of q⟩,(h σ F H S).imp λv H1 ⟨F1,S1,s1,q1⟩=> ?_⟩;obtain⟨o',h1',h2',n',xs',q',rl'⟩:=S1.slots.get hs;simp only[ResOk,Rep] at q1;obtain⟨b,zs,rfl,hb,rb⟩:=q1
  exact⟨l,b,xs',zs,rfl,rfl,q',S1.sub _ _ hb,by rw[rl'.len,rb.len];exact eJ (hV hl),_,F1,S1.wr hs (rl'.app rb),s1,hE⟩)
noncomputable def spC(K:aA)(n:Nat)(C:List D->R->Prop):Sp:=λvs H Q _=>vs.length=n/\Smp H/\∃ds r,RepL K H ds vs/\C ds r/\∀v H',aCH K H H' r v->Q v H'
noncomputable def spF(K:aA)(n:Nat)(C:List D->R->Prop):Sp:=λvs H Q _=>vs.length=n/\Smp H/\∃F ds r,Same F H/\RepL K F ds vs/\C ds r/\∀v F2 F3 H',Same F F2->Same F2 F3->Same F3 H'->Same H H'->Smp H'->(∀b o,H b=some o->F b=none->F3 b=none)->ResOk K F2 F3 [] r v->Q v H'
noncomputable def sA(F H:Hp):Hp:=λb=>match F b with
 |some o=>some o
 |none=>H b
theorem rM{F H:Hp}:Same F (sA F H):=λb o e=>by unfold sA;rw[e]
theorem rY{F H:Hp}{b:BL}(h:F b=none):sA F H b=H b:=by unfold sA;rw[h]
theorem FnOk.framed{P:AD}{w:AM}{K:aA}{mg:Str->Option BJ}{base:BN}{k n:Nat}{f:BL}{fd:AX}{ps:List Str}{C:List D->R->Prop}(G:FnOk P w K mg base CX0 k f fd ps (spC K n C)):FnOk P w K mg base CX0 k f fd ps (spF K n C):=by
 refine⟨λvs H Q E h=> ?_,λA outer s H args us vs Q E hr e0 hb rv h=> ?_⟩
 ·obtain⟨hl,sm,F,ds,r,sF,rl,c,_⟩:=h;exact G.len vs F (λ_ _=>True) E ⟨hl,sm.sub sF,ds,r,rl,c,λ_ _ _=>trivial⟩
 ·obtain⟨hl,sm,F,ds,r,sF,rl,c,q⟩:=h;have e1:aKK P w K mg base A outer s F:=⟨e0.frames,e0.mod,λb o e=>⟨(e0.bs b o e).1,sF.free (e0.bs b o e).2⟩,e0.bsz,e0.funs,λb hb=>sF.free (e0.frf b hb),λb o e=>(e0.hok b o (sF b o e)).smp (sm b o (sF b o e)),e0.bare⟩;refine codeAny_mono (G.run A outer s F args us vs (λv F3=>aCH K F F3 r v) E hr e1 hb rv ⟨hl,sm.sub sF,ds,r,rl,c,λv H' z=>z⟩) λrr s' hrr=> ?_
  cases rr with
  |error e=>exact hrr
  |ok fl=>
   cases fl with
   |ret u=>
    obtain⟨v,F3,ho,ha,un,hk,ru,F2,s1,s2,sm3,res⟩:=hrr
    have keepF:∀b o,H b=some o->F b=none->F3 b=none:=λb o e n=>by
     have lt:=e0.hok.lt e;cases g:s.heap.get? b with
     |none=>
      exfalso;have ob:=e0.hok b o e;have z:=sm b o e;cases o with
      |lst xs=>obtain⟨_,_,_,_,g'⟩:=ob;rw[g] at g';cases g'
      |tup xs=>obtain⟨_,_,_,oo,g',_⟩:=ob;rw[g] at g';cases g'
      |dK kvs=>obtain⟨_,_,_,_,oo,_,_,g',_⟩:=ob;rw[g] at g';cases g'
      |frz o2 u2=>obtain⟨g',_⟩:=ob;rw[g] at g';cases g'
      |ext φ=>obtain⟨_,⟨oo,g'⟩,_⟩:=ob;rw[g] at g';cases g'
      |_=>exact z
     |some ob=>exact un.free b ob g n (by simp)
    have keepO:∀b o,H b=some o->F b=none->∀ob,s.heap.get? b=some ob->s'.heap.get? b=some ob:=λb o e n ob g=>un.keep b ob g n (λhb=>by have:=e0.frf b hb;rw[e] at this;cases this) (by simp)
    have sH:Same H (sA F3 H):=λb o e=>by
     cases g:F b with
     |none=>rw[rY (keepF b o e g)];exact e
     |some o'=>have:=sF b o' g;rw[e] at this;cases this;exact rM _ _ (s2 _ _ (s1 _ _ g))
    have smM:Smp (sA F3 H):=λb o e=>by
     cases g:F3 b with
     |some o'=>have:=rM (H:=H) b o' g;rw[e] at this;cases this;exact sm3 b o g
     |none=>rw[rY g] at e;exact sm b o e
    refine⟨v,sA F3 H,ho,ha,⟨λb o g n hb hx=>un.keep b o g (sF.free n) hb hx,λb o g n hb hx=>un.slot b o g (sF.free n) hb hx,λb o g n hx=> ?_,un.there,λb xs e=>sH _ _ e,λb o u e=>sH _ _ e,λb ps e=>⟨#[],by rw[sH _ _ e];simp⟩⟩,λb o e=> ?_,ru, ?_⟩
    ·rw[rY (un.free b o g (sF.free n) hx)];exact n
    ·have z:=smM b o e;cases g:F3 b with
     |some o'=>have:=rM (H:=H) b o' g;rw[e] at this;cases this;exact(hk b o g).smp z
     |none=>
      rw[rY g] at e
      have n:F b=none:=by
       cases g2:F b with
       |none=>rfl
       |some o2=>rw[s2 _ _ (s1 _ _ g2)] at g;cases g
      have st:=(e0.hok b o e).smp (F:=λ_=>none) z
      have:ObjOk P w (fun _=>none) s'.heap b o:=st.stay (fun b2 u hb2 gg=>by
       rcases hb2 with rfl|hb2
       ·exact keepO _ o e n u gg
       ·cases hb2) (λb2 hb2=>nomatch hb2) λb2 xs hb2=>nomatch hb2
      exact this.smp z
    ·exact q v F2 F3 (sA F3 H) s1 s2 rM sH smM keepF res
   |_=>exact hrr
structure bL(P:AD)(w:AM)(K:aA)(mg:Str->Option BJ)(base:BN)(x:Str)(k n:Nat)(C:List D->R->Prop):Prop where
 ex:∃ (f:BL) (fd:AX) (ps:List Str),mg x=some (.ref f)/\eM K (.ref f)=true/\Binds K fd ps []/\FnOk P w K mg base CX0 k f fd ps (spC K n C)
theorem bQ{x:Str}{p:Pos}{k n:Nat}{C:List D->R->Prop}(G:bL X.prog X.w X.K X.mg X.base x k n C)(hr:Room k X.A)(hg:Gl X x)(ha:PAd X sd (e::es) (ds.map R.val))(hc:C ds r)(hb:match r with | .bor _=>False|_=>True)(hn:ds.length=n)
  (hdb:(x==("__debug__":Str))=false:=by decide) (he:AG (e::es) X.env=(false,eval e X.env)::AG es X.env:=by rfl) (hpl:(Au pos (AG es X.env)).any (·.1)=false:=by rfl):
  PEd X sd (.Call (.Name x p) (e::es) [] pos) r:=.mk λσ F H S=>by
 obtain⟨f,fd,ps,hm,hk,bd,G⟩:=G.ex;refine(aDR (FnOk.framed G) hr hg hm hk bd .nil aLl zV hdb he hpl).to ((ha σ F H S).imp λvs H1 ⟨F1,S1,s1,q1⟩=> ?_);have rl:=q1.vals;refine⟨by rw[dD,rl.len];exact hn,S1.smp,F1,ds,r,S1.sub,by rw[dD];exact rl,hc,λv F2 F3 H' s2 s3 s4 sH sm kp res=> ?_⟩
 have no:∀l,l∈cH sd->F2 l=none/\F3 l=none:=λl hl=>by obtain⟨n1,xs,q,_⟩:=S1.slots.owns hl;have n3:=kp l _ q n1;exact⟨s3.free n3,n3⟩
 refine⟨F2,⟨λb o e=>s2 _ _ (S1.base _ _ e),s3.trans s4,sm,S1.slots.mono s2 λl hl=>⟨(no l hl).1,λys e=>sH _ _ e⟩,S1.nd⟩,s1.trans s2, ?_⟩;cases r with
 |val d=>exact res
 |own ds'=>obtain⟨l,xs,e,n,q,rl',_⟩:=res;exact⟨l,xs,e,n,s4 _ _ q,rl',λhl=>by rw[(no l hl).2] at q;cases q⟩
 |pr d ls=>obtain⟨t,l,xs,y,e,f,g,n,q,rl',_⟩:=res;exact⟨t,l,xs,y,e,f,g,n,s4 _ _ q,rl',λhl=>by rw[(no l hl).2] at q;cases q⟩
 |ox G=>obtain⟨ls,nd,h,g⟩:=res;refine⟨ls,nd,λl hl=> ?_,λF' H'' sF k=>g F' H'' sF λl hl ob q=>k l hl ob (s4 _ _ q)⟩;obtain⟨n,⟨ob,q,w⟩,_⟩:=h l hl;exact⟨n,⟨ob,s4 _ _ q,w⟩,λhm=>by rw[(no l hm).2] at q;cases q⟩
 |bor ds'=>exact hb.elim
noncomputable def R.toD:R->D
 |.val d=>d
 |.own ds=>.lst ds
 |.bor ds=>.lst ds
 |.pr d ls=>.tup [d,.lst ls]
 |.ox _=>.non
noncomputable def init(n:Nat)(ds:List D):List Slot:=ds.map Slot.val++gS (n-ds.length) .un
theorem aBp{K:aA}{F H:Hp}:∀n:Nat,SlotsOk K F H (gS n .un) (gS n none)
 |0=>rfl
 |n+1=>⟨none,gS n none,rfl,trivial,aBp n⟩
theorem qZ{K:aA}{F H:Hp}{m n:Nat}:∀ {ds:List D}{vs:List V},RepL K F ds vs->SlotsOk K F H (ds.map Slot.val++gS n .un) (vs.map some++gS n none)
 |[],vs,r=>by simp only[RepL] at r;subst r;exact aBp n
 |d::ds,vs,r=>by obtain⟨y,ys,rfl,a,rl⟩:=r.uncons;exact⟨some y,_,rfl,⟨y,rfl,a⟩,qZ (m:=m) rl⟩
theorem qS(n:Nat):∀ds:List D,cH (ds.map Slot.val++gS n .un)=[]
 |[]=>by
  induction n with
  |zero=>rfl
  |succ n ih=>exact ih
 |_::ds=>qS n ds
theorem aIp{P:AD}{w:AM}{K:aA}{mg:Str->Option BJ}{base:BN}{x qual:Str}{st:BP}{f:BL}{fd:AX}{N ps:List Str}{k:Nat}{C:List D->R->Prop}(F:Fun K x qual st f fd)(S:pY N ps (bI st))
  (body:∀ (cdv:BJ) (A:BM) (outer:List Env) (s:BK) (H:Hp) (E:XK),Room k (A.deeper (Ah qual (bI st) s.heap.objs.size f cdv))→∀ds r,ds.length=ps.length→C ds r→
   PSd (nO CX0 P w K mg base N qual (bI st) f cdv A outer s H E).nox (init N.length ds) (iX st) {nx:=λ_=>r=.val .non,rt:=λr'=>r'=r}):FnOk P w K mg base CX0 (k+1) f fd ps (spC K ps.length C):=by
 refine F.ok S (λvs H Q E h=>h.1) λcdv A outer s H vs Q E hr h=> ?_
 obtain⟨hl,sm,ds,r,rl,c,q⟩:=h;have hds:ds.length=ps.length:=by rw[<-rl.len];exact hl
 refine⟨_,uE, ?_⟩;have hlen:N.length-vs.length=N.length-ds.length:=by rw[rl.len]
 have S0:StF K H H H (L2.start N vs) (init N.length ds):=by
  refine⟨Same.refl _,Same.refl _,sm, ?_, ?_⟩
  ·unfold L2.start init;rw[hlen];exact qZ (m:=0) rl
  ·unfold init;rw[qS];exact fH
 refine(body cdv A outer s H E hr ds r hds c (L2.start N vs) H H S0).imp ?_ ?_ (λ_ _ ⟨_,_,_,_,z⟩=>z) λ_ _ ⟨_,_,_,_,z⟩=>z
 ·rintro σ' H' ⟨sd',F',S',s',e⟩;have e:r=.val .non:=e;subst e;exact q .non H' ⟨F',S'.base,S'.sub,S'.smp,by simp only[ResOk,Rep]⟩
 ·rintro v H' ⟨r',ro,e⟩;have e:r'=r:=e;subst e;exact q v H' ro
theorem eQ{P:AD}{w:AM}{K:aA}{mg:Str->Option BJ}{base:BN}{x qual:Str}{st:BP}{f:BL}{fd:AX}{N ps:List Str}{k:Nat}{C:List D->R->Prop}(F:Fun K x qual st f fd)(S:pY N ps (bI st))
  (hm:mg x=some (.ref f)) (hb:∀ (kV doc pm:BJ) (an:Option BL) (cdv ct:BJ) (us:List BJ),us.length=ps.length->bindArgs (gK x qual (lH st) (iX st) (bI st) .none kV doc pm an cdv ct) ⟨us,[]⟩=pure (ps.zip us))
  (body:∀ (cdv:BJ) (A:BM) (outer:List Env) (s:BK) (H:Hp) (E:XK),Room k (A.deeper (Ah qual (bI st) s.heap.objs.size f cdv))→∀ds r,ds.length=ps.length→C ds r→
   PSd (nO CX0 P w K mg base N qual (bI st) f cdv A outer s H E).nox (init N.length ds) (iX st) {nx:=λ_=>r=.val .non,rt:=λr'=>r'=r}):bL P w K mg base x (k+1) ps.length C:=
 ⟨f,fd,ps,hm,F.kp,F.binds hb,aIp F S body⟩
end
section
variable {X:Cx}{sd:List Slot}{e a b c tg iter:Expr}{es:List Expr}{pos:Pos}{r ra rb:R}{d:D}{ds:List D}{st:BP}{rest:List BP}{E:kR}
def ItD(K:aA)(F₁:Hp)(P:Hp->Hp->Prop)(J:It)(ds:List D):Prop:=∀ (F H:Hp),Same F₁ F->Same F H->Smp H->P F H->∀i,(i<ds.length->J.go i H)/\(ds.length<=i->J.stop i H)/\
 ∀x H' d,ds[i]? =some d->J.yld i H x H'->∃F',Same F F'/\Rep K F' d x/\∀H₀ σ sd,StF K H₀ F H σ sd->StF K H₀ F' H' σ sd
abbrev PT0:Hp->Hp->Prop:=λ_ _=>True
structure PId(X:Cx)(sd:List Slot)(P:Hp->Hp->Prop)(tg iter:Expr)(ds:List D):Prop where
 run:∀ (σ:St) (F H:Hp),StF X.K X.B₀ F H σ sd->
 wI X tg iter σ H λJ H1=>∃F1,StF X.K X.B₀ F1 H1 σ sd/\Same F F1/\ItD X.K F1 P J ds
instance {X:Cx}{sd:List Slot}{P:Hp→Hp→Prop}{tg iter:Expr}{ds:List D}:CoeFun (PId X sd P tg iter ds) (fun _=>∀ (σ:St) (F H:Hp),StF X.K X.B₀ F H σ sd→
 wI X tg iter σ H λJ H1=>∃F1,StF X.K X.B₀ F1 H1 σ sd/\Same F F1/\ItD X.K F1 P J ds):=⟨PId.run⟩
theorem _root_.L2.PI.to{wi:TI}{σ:St}{H:Hp}{R:It->Hp->Prop}(h:PI X tg iter wi)(q:wi σ H R):wI X tg iter σ H R:=λpins s I=>h pins s σ H R I q
theorem gQ(h:PEd X sd iter (.val (.lst ds))):PId X sd PT0 tg iter ds:=.mk λσ F H S=>
 (aJR fW).to ((h σ F H S).imp fun v H1 ⟨F1,S1,s1,q1⟩=>by
  simp only[ResOk,Rep] at q1;obtain⟨l,xs,rfl,hl,rl⟩:=q1;refine⟨l,rfl,⟨xs,.of (S1.sub _ _ hl)⟩,F1,S1,s1,λF' H' sF sH sm _ i=> ?_⟩;have hl':=sH _ _ (sF _ _ hl);refine⟨λhi=>⟨xs,xs[i]'(by rw[rl.len];exact hi),.of hl',by simp[rl.len,hi]⟩,λhi=>⟨xs,.of hl',by rw[rl.len];exact hi⟩,λx H2 d hd y=> ?_⟩;obtain⟨rfl,y⟩:=y;obtain⟨v,hv,rv⟩:=rl.get hd;have:=y xs (.of hl');rw[hv] at this;cases this
  exact⟨F',Same.refl _,rv.mono sF,λ_ _ _ S=>S⟩)
theorem oN(h:PEd X sd iter (.val (.tup ds))):PId X sd PT0 tg iter ds:=.mk λσ F H S=>
 (aLN fW).to ((h σ F H S).imp fun v H1 ⟨F1,S1,s1,q1⟩=>by
  simp only[ResOk,Rep] at q1;obtain⟨l,xs,rfl,hl,rl⟩:=q1;refine⟨l,rfl,⟨xs,.of (S1.sub _ _ hl)⟩,F1,S1,s1,λF' H' sF sH sm _ i=> ?_⟩;have hl':=sH _ _ (sF _ _ hl);refine⟨λhi=>⟨xs,xs[i]'(by rw[rl.len];exact hi),.of hl',by simp[rl.len,hi]⟩,λhi=>⟨xs,.of hl',by rw[rl.len];exact hi⟩,λx H2 d hd y=> ?_⟩;obtain⟨rfl,y⟩:=y;obtain⟨v,hv,rv⟩:=rl.get hd;have:=y xs (.of hl');rw[hv] at this;cases this
  exact⟨F',Same.refl _,rv.mono sF,λ_ _ _ S=>S⟩)
noncomputable def iQ(lo:Int)(n:Nat):List D:=(bP n).map λ(k:Nat)=>D.int (lo+(k:Int))
theorem iJ(lo:Int)(n:Nat):(iQ lo n).length=n:=by simp[iQ]
theorem jS{lo:Int}{n i:Nat}{d:D}(h:(iQ lo n)[i]? =some d):i<n/\d=.int (lo+(i:Int)):=by
 unfold iQ at h;rw[aQ] at h
 by_cases hi:i<n
 ·rw[aFz hi] at h;exact⟨hi,(cF.inj h).symm⟩
 ·rw[gI (by simpa using hi)] at h;cases h
theorem aEN{K:aA}{F₁:Hp}{lo:Int}{n:Nat}:ItD K F₁ PT0 (Itr lo n) (iQ lo n):=λF H _ _ _ _ i=>by refine⟨λhi=>by rw[iJ] at hi;exact hi,λhi=>by rw[iJ] at hi;exact hi,λx H' d hd y=> ?_⟩;obtain⟨rfl,rfl⟩:=y;obtain⟨_,rfl⟩:=jS hd;exact⟨F,Same.refl _,by simp only[Rep],λ_ _ _ S=>S⟩
theorem jX{p:Pos}{n:Nat}(hg:Gl X "range")(hm:X.mg "range"=none)(h:PEd X sd a (.val (.int (n:Int))))(hn:(n:Int)<2^62)(hs:AG [a] X.env=[(false,eval a X.env)]:=by rfl):PId X sd PT0 tg (.Call (.Name "range" p) [a] [] pos) (iQ 0 n):=.mk λσ F H S=>
 (aEt hg hm zV hs).to ((aD h aR trivial hs σ F H S).imp fun vs H1 ⟨F1,S1,s1,q1⟩=>by
  cases q1 with
  |cons q1 q2=>
   cases q2;simp only[ResOk,Rep] at q1;subst q1
   exact⟨(n:Int),rfl,by omega,hn,F1,S1,s1,by rw[fE];exact aEN⟩)
structure PGd(X:Cx)(sd:List Slot)(tg:Expr)(d:D)(sd':List Slot):Prop where
 run:∀ (σ:St) (F H:Hp) (v:V),StF X.K X.B₀ F H σ sd->Rep X.K F d v->wG X tg v σ H λσ' H'=>∃F',StF X.K X.B₀ F' H' σ' sd'/\Same F F'
instance {X:Cx}{sd:List Slot}{tg:Expr}{d:D}{sd':List Slot}:CoeFun (PGd X sd tg d sd') (λ_=>∀ (σ:St) (F H:Hp) (v:V),StF X.K X.B₀ F H σ sd->Rep X.K F d v->wG X tg v σ H λσ' H'=>∃F',StF X.K X.B₀ F' H' σ' sd'/\Same F F'):=⟨PGd.run⟩
theorem _root_.L2.PG.to{t:TG}{v:V}{σ:St}{H:Hp}{Q:St->Hp->Prop}(h:PG X tg t)(q:t v σ H Q):wG X tg v σ H Q:=λpins s u I r=>h pins s σ H v u Q I r q
theorem fM(j:Nat)(h:PG X tg (aFV j)):PGd X sd tg d (sd.set j (.val d)):=.mk λσ F H v S q=>h.to ⟨F,S.set j q,Same.refl _⟩
noncomputable def gNs:List Nat->TGs
 |[]=>aON
 |j::js=>aLy (aFV j) (gNs js)
noncomputable def aCS:List Slot->List Nat->List D->List Slot
 |sd,j::js,d::ds=>aCS (sd.set j (.val d)) js ds
 |sd,_,_=>sd
theorem aHM{K:aA}{H₀ F H:Hp}{Q:St->Hp->Prop}:∀ {js:List Nat}{ds:List D}{vs:List V}{σ:St}{sd:List Slot},js.length=ds.length->RepL K F ds vs->StF K H₀ F H σ sd->(∀σ',StF K H₀ F H σ' (aCS sd js ds)->Q σ' H)->gNs js vs σ H Q
 |[],[],vs,σ,sd,_,r,S,k=>by simp only[RepL] at r;exact⟨r,k σ S⟩
 |j::js,d::ds,vs,σ,sd,hl,r,S,k=>by obtain⟨y,ys,rfl,q,rl⟩:=r.uncons;exact⟨y,ys,rfl,aHM (by simpa using hl) rl (S.set j q) k⟩
 |[],_::_,_,_,_,hl,_,_,_=>by simp at hl
 |_::_,[],_,_,_,hl,_,_,_=>by simp at hl
theorem jA{k:Nat}{js:List Nat}(hc:X.calm=true)(h:PGs X es (gNs js))(hl:js.length=ds.length)(hn:(BC es X.env).length=ds.length)(hst:(BC es X.env).findIdx? (·.1)=none:=by rfl):PGd X sd (.Tuple es k pos) (.tup ds) (aCS sd js ds):=.mk λσ F H v S q=>
 (aMk hc h hn hst).to (by
  simp only[Rep] at q;obtain⟨a,xs,rfl,ha,rl⟩:=q
  exact⟨a,xs,rfl,.of (S.sub _ _ ha),rl.len,aHM hl rl S λσ' S'=>⟨F,S',Same.refl _⟩⟩)
theorem aJY{sd':List Slot}(h:PEd X sd e (.val d))(hg:PGd X sd tg d sd')(hE:E.nx sd')(hs:swapsWithSole [tg] e pos.line X.env=pure false:=by rfl)(hw:swappedStores [tg] e X.env=pure none:=by rfl)
  (h1:(BC [tg] X.env).map (·.2)=[assign tg X.env]:=by rfl):PSd1 X sd (.Assign [tg] e pos) E:=.mk λσ F H S=>
 (aMU fW aNI hs hw h1).to ((h σ F H S).imp λv H1 ⟨F1,S1,s1,q1⟩=>(hg σ F1 H1 v S1 q1).imp λσ' H' ⟨F',S',s'⟩=>⟨sd',F',S',s1.trans s',hE⟩)
theorem vG{body:List BP}{P:Hp->Hp->Prop}(Sd Td:Nat->List Slot)(hi:PId X sd P tg iter ds)(h0:Le sd (Sd 0))(hg:∀k d,ds[k]? =some d->PGd X (Sd k) tg d (Td k))
  (hb:∀k d,ds[k]? =some d->PSd X (Td k) body {E with nx:=λsd'=>Le sd' (Sd (k+1)),ct:=λsd'=>Le sd' (Sd (k+1)),bk:=E.nx}) (hE:E.nx (Sd ds.length)) (hP:∀k σ F H,StF X.K X.B₀ F H σ (Sd k)->P F H:=by intros;trivial)
  (hc:X.calm=true:=by rfl) (hp:PassesOwn (AH X.prog X.w) X.A X.env X.xe:=by exact PassesOwn.never) (hs:∀x,foldedSetIterable iter X.env x=pure x:=by intro _;rfl):PSd1 X sd (.For tg iter body [] pos) E:=.mk λσ F H S=>
 (aHQ hp hc aOH aNI uE hs).to (by
  intro pins s I;refine thn (hi σ F H S pins s I) λv s1 h1=>thn h1 λitv s2 h2=> ?_
  obtain⟨it,fp,tn,J,H2,e,I2,T,st2,f2,F1,S1,s1',itd⟩:=h2;refine⟨it,fp,tn,J,H2,e,I2,T,st2,f2, ?_⟩;refine⟨λi m σ' H'=>m=ds.length-i/\i<=ds.length/\∃F',StF X.K X.B₀ F' H' σ' (Sd i)/\Same F1 F',⟨ds.length,by simp,bY _,F1,S1.le h0,Same.refl _⟩, ?_⟩;rintro i m σ' H' ⟨rfl,hil,F',S',s'⟩;obtain⟨g1,g2,g3⟩:=itd F' H' s' S'.sub S'.smp (hP _ _ _ _ S') i
  by_cases hlt:i<ds.length
  ·refine .inr ⟨g1 hlt,λσ2 H2=>∃F2,StF X.K X.B₀ F2 H2 σ2 (Sd (i+1))/\Same F1 F2,λσ2 H2 ⟨F2,S2,s2⟩=>⟨ds.length-(i+1),by omega,rfl,hlt,F2,S2,s2⟩,λx H2 y=> ?_⟩;have hd:ds[i]? =some ds[i]:=by simp[hlt]
   obtain⟨F2,s2,rp,up⟩:=g3 x H2 ds[i] hd y;refine(hg i _ hd σ' F2 H2 x (up _ _ _ S') rp).imp λσ3 H3 ⟨F3,S3,s3⟩=> ?_
   have base:Same F1 F3:=(s'.trans s2).trans s3;refine(hb i _ hd σ3 F3 H3 S3).imp ?_ ?_ ?_ ?_
   ·rintro σ4 H4 ⟨sd4,F4,S4,s4,le⟩;exact⟨F4,S4.le le,base.trans s4⟩
   ·exact λv H4 q=>q
   ·rintro σ4 H4 ⟨sd4,F4,S4,s4,q⟩;exact⟨sd4,F4,S4,(s1'.trans base).trans s4,q⟩
   ·rintro σ4 H4 ⟨sd4,F4,S4,s4,le⟩;exact⟨F4,S4.le le,base.trans s4⟩
  ·have e:i=ds.length:=by omega
   subst e
   exact .inl ⟨g2 (aM _),Sd ds.length,F',S',s1'.trans s',hE⟩)
theorem Inv.retrack{pins:List (BL×BO)}{σ:St}{H F:Hp}{s s':BK}(I0:Inv X pins σ H s):∀ (ls:List BL),ls.Nodup->(∀l∈ls,F l=none/\(∃xs,H l=some xs/\Wr l xs)/\∀o,s.heap.get? l=some o->s'.heap.get? l=some o)->Inv X pins σ F s'->Inv X pins σ (λb=>if b∈ls then H b else F b) s'
 |[],_,_,I=>by simpa using I
 |l::ls,nd,h,I=>by
  obtain⟨nl,nd'⟩:=bG.mp nd;have J:=Inv.retrack I0 ls nd' (λl' hl=>h l' (aF _ hl)) I;obtain⟨n,⟨xs,hx,wx⟩,kp⟩:=h l aH
  have e:(λb=>if b∈l::ls then H b else F b)=upd (λb=>if b∈ls then H b else F b) l xs:=by
   funext b;unfold upd
   by_cases hb:b=l
   ·subst hb;simp[hx]
   ·simp[hb]
  rw[e];have n':(λb=>if b∈ls then H b else F b) l=none:=by simp[nl,n]
  have ob:=I0.hok l _ hx;clear e;generalize (λb=>if b∈ls then H b else F b)=G at J n' ⊢;refine⟨J.ok,J.os,J.bare,⟨J.base.keep,J.base.slot,λb u g n0 hx0=> ?_,J.base.there,λb ys g=> ?_,λb u ys g=> ?_,λb ps g=> ?_⟩,J.loc,J.cell, ?_,λx c g=> ?_,λp hp=> ?_,J.hok.track n' ?_,J.len⟩
  ·have hb:b≠l:=λq=>by subst q;have:=I0.base.free b u g n0 hx0;rw[hx] at this;cases this
   rw[bK hb];exact J.base.free b u g n0 hx0
  ·have q:=J.base.tups b ys g;rw[bK (cI q n')];exact q
  ·have q:=J.base.frzs b u ys g;rw[bK (cI q n')];exact q
  ·obtain⟨m,q⟩:=J.base.tbls b ps g;exact⟨m,by rw[bK (cI q n')];exact q⟩
  ·rw[bK (λq=>by have:=I0.free;rw[q,hx] at this;cases this)];exact J.free
  ·rw[bK (λq=>by have:=I0.freeC x c g;rw[q,hx] at this;cases this)];exact J.freeC x c g
  ·obtain⟨g,n0,rr⟩:=J.pin p hp;refine⟨g, ?_,rr⟩;rw[bK (λq=>by have:=(I0.pin p hp).2.1;rw[q,hx] at this;cases this)];exact n0
  ·cases xs with
   |lst xs=>obtain⟨z,its,nn,rv,ho⟩:=ob;exact⟨z,its,nn,rv,kp _ ho⟩
   |dK kvs=>obtain⟨z,y,vs,r,o,es,ep,e,c⟩:=ob;exact⟨z,y,vs,r,o,es,ep,kp _ e,c⟩
   |ext φ=>obtain⟨h1,⟨o1,h2⟩,h3⟩:=ob;exact⟨h3 _ _ h1 kp,⟨o1,kp _ h2⟩,h3⟩
   |_=>exact wx.elim
theorem aLD{P:AD}{w:AM}{H:Hp}{h:BN}{l:BL}{xs:HO}(wx:Wr l xs)(q:H l=some xs)(ok:ObjOk P w H h l xs):∃ys o,H l=some ys/\Wr l ys/\h.get? l=some o/\∀v,o.data≠ .cell v:=by
 cases xs with
 |lst xs=>obtain⟨_,its,nn,_,ho⟩:=ok;exact⟨_,_,q,trivial,ho,λv z=>by cases z⟩
 |dK kvs=>obtain⟨_,_,_,_,o,es,ep,e,_,d,_⟩:=ok;exact⟨_,_,q,trivial,e,λv z=>by rw[d] at z;cases z⟩
 |ext φ=>obtain⟨o,e,n⟩:=id wx;subst e;exact⟨_,o,q,wx,ok.1,n⟩
 |_=>exact wx.elim
theorem aGH{σ:St}{F H:Hp}(S:StF X.K X.B₀ F H σ sd)(hr:match r with | .bor _=>False|_=>True)(h:wE X e σ F λv F3=>aCH X.K F F3 r v):wE X e σ H λv H'=>∃F',StF X.K X.B₀ F' H' σ sd/\Same F F'/\ResOk X.K F' H' sd r v:=λpins s I=>by
 have I1:Inv X pins σ F s:=I.less S.sub S.base (S.smp.sub S.sub)
 have ob:∀l∈cH sd,∃xs o,H l=some xs/\Wr l xs/\s.heap.get? l=some o/\∀v,o.data≠ .cell v:=λl hl=>by obtain⟨n,xs,q,wx⟩:=S.slots.owns hl;exact aLD wx q (I.hok l _ q)
 have I2:Inv X (pins++oR (cH sd) s.heap) σ F s:=I1.pins_of λp hp=>(aY.mp hp).elim (λz=>I1.pin p (aV _ z)) λz=>by
  obtain⟨hb,g⟩:=tJ z;obtain⟨xs,o,q,_,ho,hc⟩:=ob p.1 hb;rw[g] at ho;cases ho;refine⟨g,(S.slots.owns hb).1,λy=> ?_,λy=> ?_,hc⟩
  ·have:=I.free;rw[<-y,q] at this;cases this
  ·obtain⟨_,o',ho',_⟩:=I.ok.funs.mem y;have:=I.base.free p.1 o' ho' (I.ok.frf p.1 y) λz=>I.ok.exfs p.1 z y
   rw[q] at this;cases this
 refine thn (h _ s I2) λu s' ⟨v,F3,I3,rv,F2,s1,s2,sm3,res⟩=> ?_
 have kp:∀l∈cH sd,F3 l=none/\(∃xs,H l=some xs/\Wr l xs)/\∀o,s.heap.get? l=some o->s'.heap.get? l=some o:=λl hl=>by obtain⟨xs,o,q,wx,ho,_⟩:=ob l hl;have:=I3.pin (l,o) (aV _ (aV _ (kM hl ho)));exact⟨this.2.1,⟨xs,q,wx⟩,λo' g=>by rw[ho] at g;cases g;exact this.1⟩
 have I4:=Inv.retrack I (cH sd) S.nd kp I3.unpinned;refine⟨v,_,I4,rv,F2,⟨λb o g=>s1 _ _ (S.base _ _ g),λb o g=> ?_,λb o g=> ?_,S.slots.mono s1 λl hl=>⟨s2.free (kp l hl).1,λxs g=>by simpa[hl] using g⟩,S.nd⟩,s1, ?_⟩
 ·have g3:=s2 _ _ g;have:b∉cH sd:=λhb=>by rw[(kp b hb).1] at g3;cases g3
  simp[this,g3]
 ·by_cases hb:b∈cH sd
  ·simp[hb] at g;exact S.smp _ _ g
  ·simp[hb] at g;exact sm3 _ _ g
 ·cases r with
  |val d=>exact res
  |own ds'=>
   obtain⟨l,xs,e,n,q,rl',_⟩:=res;have:l∉cH sd:=λhl=>by rw[(kp l hl).1] at q;cases q
   exact⟨l,xs,e,n,by simp[this,q],rl',this⟩
  |pr d ls=>
   obtain⟨t,l,xs,y,e,f,g,n,q,rl',_⟩:=res;have:l∉cH sd:=λhl=>by rw[(kp l hl).1] at q;cases q
   exact⟨t,l,xs,y,e,f,g,n,by simp[this,q],rl',this⟩
  |ox G=>
   obtain⟨ls,nd,h,g⟩:=res
   have no:∀l∈ls,l∉cH sd:=λl hl hm=>by obtain⟨n,⟨ob,q,w⟩,_⟩:=h l hl;rw[(kp l hm).1] at q;cases q
   refine⟨ls,nd,λl hl=> ?_,λF' H' sF k=>g F' H' sF λl hl ob q=>k l hl ob (by simp[no l hl,q])⟩;obtain⟨n,⟨ob,q,w⟩,_⟩:=h l hl;exact⟨n,⟨ob,by simp[no l hl,q],w⟩,no l hl⟩
  |bor ds'=>exact hr.elim
noncomputable def aKR:Option Slot->Slot
 |some (.val d)=>.val d
 |some (.ox [] G)=>.ox [] G
 |_=>.un
noncomputable def tS(cap:List (Option Nat))(sd:List Slot):List Slot:=cap.map λo=>match o with
 |none=>.un
 |some k=>aKR sd[k]?
theorem aDL{K:aA}{F H F' H':Hp}{σ:St}(h:SlotsOk K F H sd σ)(s:Same F F'):∀cap:List (Option Nat),SlotsOk K F' H' (tS cap sd) (yB cap σ)
 |[]=>rfl
 |o::cap=>by
  refine⟨_,_,rfl, ?_,aDL h s cap⟩;cases o with
  |none=>trivial
  |some k=>
   show iZ K F' H' (aKR sd[k]?) _;cases q:sd[k]? with
   |none=>trivial
   |some z=>
    cases z with
    |un=>trivial
    |own l ds=>trivial
    |od l ks ds=>trivial
    |ox ls G=>
     cases ls with
     |cons a ls=>trivial
     |nil=>obtain⟨o,h1,v,h2,h3,h4⟩:=h.get q;subst h2;exact⟨v,by simp[h1],λl hl=>(nomatch hl),λF2 H2 s2 _=>h4 F2 H2 (s.trans s2) λl hl=>(nomatch hl)⟩
    |gh d G=>trivial
    |val d=>obtain⟨o,h1,v,h2,rv⟩:=h.get q;subst h2;exact⟨v,by simp[h1],rv.mono s⟩
theorem xE:∀ (cap:List (Option Nat)) (sd:List Slot),cH (tS cap sd)=[]
 |[],_=>rfl
 |o::cap,sd=>by
  have ih:=xE cap sd;cases o with
  |none=>exact ih
  |some k=>
   show cH (aKR sd[k]? ::tS cap sd)=[];cases q:sd[k]? with
   |none=>exact ih
   |some z=>
    cases z with
    |ox ls G=>cases ls<;>exact ih
    |_=>exact ih
noncomputable def unS:Slot->Slot
 |.own _ _=>.un
 |.od _ _ _=>.un
 |.ox [] G=>.ox [] G
 |.ox _ _=>.un
 |z=>z
noncomputable def unO(sd:List Slot):List Slot:=sd.map unS
theorem kO:∀sd:List Slot,cH (unO sd)=[]
 |[]=>rfl
 |.un::r=>kO r
 |.val _::r=>kO r
 |.gh _ _::r=>kO r
 |.own _ _::r=>kO r
 |.od _ _ _::r=>kO r
 |.ox [] _::r=>kO r
 |.ox (_::_) _::r=>kO r
theorem aGw(cap:List (Option Nat))(sd:List Slot):tS cap (unO sd)=tS cap sd:=by
 unfold tS;refine bZ λo _=> ?_
 cases o with
 |none=>rfl
 |some k=>
  show aKR (unO sd)[k]? =aKR sd[k]?;unfold unO;rw[aQ];cases q:sd[k]? with
  |none=>rfl
  |some z=>
   cases z with
   |ox ls G=>cases ls<;>rfl
   |_=>rfl
theorem zF{K:aA}{F H H':Hp}:∀ {sd:List Slot}{σ:St},SlotsOk K F H sd σ->SlotsOk K F H' (unO sd) σ
 |[],_,h=>h
 |z::zs,σ,h=>by
  obtain⟨o,r,rfl,a,b⟩:=h;refine⟨o,r,rfl, ?_,zF b⟩;cases z with
  |un=>trivial
  |val d=>exact a
  |gh d G=>exact a
  |od l ks ds=>trivial
  |ox ls G=>
   cases ls with
   |cons a ls=>trivial
   |nil=>obtain⟨v,h2,h3,h4⟩:=a;exact⟨v,h2,λl hl=>(nomatch hl),λF2 H2 s2 _=>h4 F2 H2 s2 λl hl=>(nomatch hl)⟩
  |own l ds=>trivial
theorem tQ{ds:List D}{i:Nat}{d:D}(p:D->Bool)(h:ds[i]? =some d):(ds.take (i+1)).filter p=(ds.take i).filter p++(if p d then[d] else[]):=by rw[eZ,h,sZ];cases hp:p d<;>simp[hp]
theorem jK{elt:Expr}{ifs:List Expr}{scope:Scope}{N M:List Str}{cap:List (Option Nat)}{sc:Scope}{Tb:D->List Slot}(p:D->Bool)(f:D->D)
  (hi:PId X (unO sd) PT0 tg iter ds) (hl:ds.length<=1000)
  (hsc:X.env.scope=sc) (hcn:tG scope sc=true) (hM:X.N=M) (hcap:pI N M scope sc cap=true) (hk:scope.kind=.function)
  (hg:∀cl C fp s H d,d∈ds->PGd (cxB X N scope cl C fp s H) (tS cap sd) tg d (Tb d))
  (hle:∀d,d∈ds->Le (Tb d) (tS cap sd))
  (ht:∀cl C fp s H d,d∈ds->(ifs=[]/\p d=true)\/∃c,ifs=[c]/\PTd (cxB X N scope cl C fp s H) (Tb d) c (p d))
  (he:∀cl C fp s H d,d∈ds->p d=true->PEd (cxB X N scope cl C fp s H) (Tb d) elt (.val (f d)))
  (hc:X.calm=true:=by rfl) (hs:∀x,foldedSetIterable iter X.env x=pure x:=by intro _;rfl):
  PEd X sd (.ListComp elt [⟨tg,iter,ifs,0⟩] scope pos) (.own ((ds.filter p).map f)):=.mk λσ F H S=>by
 refine aGH S trivial ?_;have S0:StF X.K X.B₀ F F σ (unO sd):=⟨S.base,Same.refl _,S.smp.sub S.sub,zF S.slots,by rw[kO];exact fH⟩;intro pins s I
 have nm:∀y∈scope.names,(y.2=NameKind.free->sc.names.lookup y.1=some NameKind.cell)/\(y.2=NameKind.local->scope.names.lookup y.1=some NameKind.local):=λy hy=>by have q:=cX.mp hcn y hy;simp only[bH,xX,uK,beq_eq_false_iff_ne,ne_eq,beq_iff_eq] at q;exact⟨λe=>q.1.1.resolve_left λz=>z e,λe=>q.2.resolve_left λz=>z e⟩
 have fre:∀y∈scope.names,y.2=.free->∃c,X.env.cells.lookup y.1=some c:=λy hy e=>I.ok.has y.1 (.inl (by show X.env.scope.names.lookup y.1=_;rw[hsc];exact(nm y hy).1 e))
 rw[eval_ListComp];refine wpAny_comprehension_free (use:=none) rfl hs (aCk fre) hk (λy hy=>(nm y hy).2) ?_;refine thn (hi σ F F S0 pins s I) λv s1 h1=>thn h1 λitv s2 h2=> ?_
 obtain⟨it,fp,tn,J,H2,e,I2,T,st2,f2,F1,S1,s1',itd⟩:=h2;subst e
 have S1b:StF X.K H2 H2 H2 (yB cap σ) (tS cap sd):=⟨Same.refl _,Same.refl _,S1.smp,by
  have q:=aDL (sd:=unO sd) (H':=H2) S1.slots S1.sub cap;rw[aGw] at q
  exact q,by rw[xE];exact fH⟩
 refine aGU (N:=N) (cap:=cap) (g:=λv σ2 H3 Q=>∀cl C,wG (cxB X N scope cl C fp s2 H2) tg v σ2 H3 Q) (tt:=λσ2 H3 Q=>∀cl C,aNE (cxB X N scope cl C fp s2 H2) ifs σ2 H3 Q) (te:=λσ2 H3 Q=>∀cl C,wE (cxB X N scope cl C fp s2 H2) elt σ2 H3 Q)
  hc hsc hcn (by rw[hM];exact hcap) hk I2 T st2 f2 (λcl C pi s3 σ3 H3 v u Q I3 ru q=>q cl C pi s3 u I3 ru) (λcl C pi s3 σ3 H3 Q I3 q=>q cl C pi s3 I3) (λcl C pi s3 σ3 H3 Q I3 q=>q cl C pi s3 I3)
  (λi m ys σb H3=>m=ds.length-i/\i<=ds.length/\∃Fb,StF X.K H2 Fb H3 σb (tS cap sd)/\RepL X.K Fb (((ds.take i).filter p).map f) ys) ds.length
  ⟨by simp,bY _,H2,S1b,by simpa using RepL.nil⟩ _ ?_
 rintro i m ys σb H3 ⟨rfl,hil,Fb,Sb,rl⟩;have sF1:Same F1 Fb:=λb o g=>Sb.base _ _ (S1.sub _ _ g)
 obtain⟨g1,g2,g3⟩:=itd Fb H3 sF1 Sb.sub Sb.smp trivial i
 by_cases hlt:i<ds.length
 ·have hd:ds[i]? =some ds[i]:=by simp[hlt]
  have hm:ds[i]∈ds:=iT hlt
  have ylen:ys.length<=i:=by rw[rl.len,aB];exact cK (aCD _ _) (by simp;omega)
  refine .inr ⟨g1 hlt,hV (by omega),λys' σ' H'=>∃Fb',StF X.K H2 Fb' H' σ' (tS cap sd)/\RepL X.K Fb' (((ds.take (i+1)).filter p).map f) ys',λys' σ' H' ⟨Fb',Sb',rl'⟩=>⟨ds.length-(i+1),by omega,rfl,hlt,Fb',Sb',rl'⟩,λx H4 y cl C=> ?_⟩;obtain⟨F4,s4,rp,up⟩:=g3 x H4 ds[i] hd y;refine(hg cl C fp s2 H2 _ hm σb F4 H4 x (up _ _ _ Sb) rp).imp λσ5 H5 ⟨F5,S5,s5⟩ cl2 C2=> ?_
  have rl5:=rl.mono (s4.trans s5)
  have fin:∀ (b:Bool) (H6:Hp) (F6:Hp),b=p ds[i]->StF X.K H2 F6 H6 σ5 (Tb ds[i])->Same F5 F6->if b=true then(∀cl C,wE (cxB X N scope cl C fp s2 H2) elt σ5 H6 λv H5=>∃Fb',StF X.K H2 Fb' H5 σ5 (tS cap sd)/\RepL X.K Fb' (((ds.take (i+1)).filter p).map f) (ys++[v])) else ∃Fb',StF X.K H2 Fb' H6 σ5 (tS cap sd)/\RepL X.K Fb' (((ds.take (i+1)).filter p).map f) ys:=λb H6 F6 eb S6 s6=>by
   rw[tQ p hd,<-eb];cases b with
   |false=>exact aIC ⟨F6,S6.le (hle _ hm),by simpa using rl5.mono s6⟩
   |true=>
    refine aIB λcl3 C3=>(he cl3 C3 fp s2 H2 _ hm eb.symm σ5 F6 H6 S6).imp λv H7 ⟨F7,S7,s7,q7⟩=>⟨F7,S7.le (hle _ hm), ?_⟩
    simp only[if_true,aW,bC,eY];exact((rl5.mono s6).mono s7).app (.one q7)
  rcases ht cl2 C2 fp s2 H2 _ hm with⟨e1,e2⟩|⟨c,e1,q⟩
  ·subst e1;exact aGJ (fin true H5 F5 e2.symm S5 (Same.refl _))
  ·subst e1;exact aGt ((q σ5 F5 H5 S5).imp λb H6 ⟨eb,F6,S6,s6⟩=>fin b H6 F6 eb S6 s6)
 ·have e:i=ds.length:=by omega
  subst e;refine .inl ⟨g2 (aM _),λD C s' hD hC hDC h0 hL hcc hpp hst ⟨m',ns'⟩ J'=>⟨m',ns',λh' sb=> ?_⟩⟩;have J2:Inv X pins σ (upd H3 D (.lst ys)) {s' with heap:=h',toks:=s'.toks}:=J'.turned (it:=C) (λb o hb g=>sb.extBut b o hb g) (by rw[bK (Ne.symm hDC)];exact hC) hL (.inr h0) hcc hpp;refine⟨.ref D,_,J2,rfl,Fb,λb o g=>Sb.base _ _ (S1.sub _ _ (s1' _ _ g)),λb o g=> ?_,λb o g=> ?_,D,ys,rfl,Sb.sub.free hD,bV, ?_,by simp[cH]⟩
  ·have g3:=Sb.sub _ _ g;rw[bK (cI g3 hD)];exact g3
  ·by_cases hb:b=D
   ·subst hb;rw[bV] at g;cases g;trivial
   ·rw[bK hb] at g;exact Sb.smp _ _ g
  ·simpa using rl
end
noncomputable def isIB:D->Bool
 |.int _=>true
 |.bl _=>true
 |_=>false
noncomputable def isB:D->Bool
 |.bl _=>true
 |_=>false
noncomputable def isT:D->Bool
 |.tup _=>true
 |_=>false
noncomputable def isL:D->Bool
 |.lst _=>true
 |.scr _=>true
 |_=>false
theorem aJe(K:aA)(d:D):fY K (tyD d) (.type "int")=some (isIB d):=by cases d<;>with_unfolding_all rfl
theorem aHg(K:aA)(d:D):fY K (tyD d) (.type "bool")=some (isB d):=by cases d<;>with_unfolding_all rfl
section
variable {X:Cx}{sd:List Slot}{e a b c:Expr}{es:List Expr}{pos:Pos}{r ra rb:R}{d:D}{ds:List D}{st:BP}{rest:List BP}{E:kR}
theorem PEd.cast{r':R}(h:PEd X sd e r)(q:r=r'):PEd X sd e r':=q▸h
theorem fR{k:Bool}{x o:List BP}(h:PTd X sd c k)(hk:k=false)(h2:PSd X sd o E):PSd1 X sd (.If c x o pos) E:=iP h (λe=>by rw[hk] at e;cases e) λ_=>h2
theorem jZ{k:Bool}{x o:List BP}(h:PTd X sd c k)(hk:k=true)(h2:PSd X sd x E):PSd1 X sd (.If c x o pos) E:=iP h (λ_=>h2) λe=>by rw[hk] at e;cases e
theorem sR{i:Int}(ha:PEd X sd a (.bor ds))(hb:PEd X sd b (.val (.int i)))(h0:0<=i)(hd:ds[i.toNat]? =some d)(hs:pV b):PEd X sd (.Subscript a b pos) (.val d):=by
 have e:i=(i.toNat:Int):=by omega
 rw[e] at hb;exact qV ha hb hd hs
theorem oJ{i:Int}(ha:PEd X sd a (.val (.tup ds)))(hb:PEd X sd b (.val (.int i)))(h0:0<=i)(hd:ds[i.toNat]? =some d)(hs:pV b):PEd X sd (.Subscript a b pos) (.val d):=by
 have e:i=(i.toNat:Int):=by omega
 rw[e] at hb;exact eX ha hb hd hs
end
theorem wK{i:Int}(h:i.natAbs<2^250):Builtin.Int.intBits i<=2^20:=by
 unfold Builtin.Int.intBits
 split
 ·exact bY _
 ·rename_i hz
  have hne:i.natAbs≠0:=by
   intro z;apply hz;have:i=0:=by omega
   subst this;rfl
  have:=(Nat.log2_lt hne).mpr h;have e:(250:Nat)+1<=2^20:=by decide
  omega
theorem kP{i j:Int}(h1:i.natAbs<2^250)(h2:j.natAbs<2^250):IntMulOk i j:=.of_bits (wK h1) (wK h2)
noncomputable def most:Int:=1000*10^64
noncomputable def cJ:List (Int×Int):=[(2,2),(1,1),(1,2),(2,1),(1,3),(3,1),(2,3),(3,2),(1,4),(4,1),(1,5),(5,1),(1,6),(6,1)]
noncomputable def cP(p:Int×Int):D:=.tup [.int p.1,.int p.2]
def aNo:List D->R->Prop:=λds r=>∃ns:List Int,ds=[.scr ns]/\ns.length<=63/\r=.val (.bl true)
theorem aBH{ns:List Int}{k:Nat}{d:D}(h:(ns.map D.int)[k]? =some d):k<ns.length/\d=.int (ns.getD k 0):=by
 rw[aQ] at h;cases e:ns[k]? with
 |none=>rw[e] at h;cases h
 |some z=>rw[e] at h;refine⟨(aE.mp e).1, ?_⟩;rw[<-cF.inj h,cA,e];rfl
theorem getD_mem{α:Type}{l:List α}{i:Nat}{d:α}(h:i<l.length):l.getD i d∈l:=by
 have e:l.getD i d=l[i]:=by simp[cA,h]
 rw[e];exact iT h
theorem aGu{H:Hp}(h:aNq H):Smp H:=λb o e=>by
 rcases h b with z|⟨o',xs,z⟩
 ·rw[z] at e;cases e
 ·rw[z] at e;cases e;trivial
theorem walkD{l:PySem.W.OpenLaw}{k:Nat}{x:Str}{q:AD}{loose:List Str}{XP:(Str->Option BJ)->BN->Prop}{YP:AM->BN->Prop}{d:DefRec}{K:Params->aA}(hn:l.most=some 63)(hdf:d.params.defaults=[])
  (hr:Room k callerA) (hY:∀ (w:AM) (h:BN),YP w h->(K w.params).In h)
  (F:∀ (w:AM) (mg:Str→Option BJ) (fa:BL) (h:BN),(K w.params).In h→h.Ns AQ mg→mg d.name=some (.ref fa)→
   ∃fd:AX,(∀ (s:BK) (u:BJ),BindsTo s fd ⟨[u],[]⟩ [(x,u)])/\∀base:BN,(K w.params).In base->base.Ns AQ mg->FnOk l.prog w (K w.params) mg base CX0 k fa fd [x] (spC (K w.params) 1 aNo)):
  PySem.W.WalkO q loose XP YP l.row.toRowW d [] (λf vs=>PySem.call f vs):=
 L2.walk_of (n:=63) (k:=k) (x:=x) (CX:=λ_=>CX0) (sp:=λw=>spC (K w.params) 1 aNo) hn (by decide) hdf hr hY F
  (λw H a ns hl ho hS=>⟨rfl,aGu ho,[.scr ns],.val (.bl true),.one (by simp only[Rep];exact⟨a,rfl,hS⟩),⟨ns,rfl,hl,rfl⟩,λv H' ⟨F,_,_,_,res⟩=>by simpa only[ResOk,Rep] using res⟩) λ_ _ _ _ _ z=>z
mutual
noncomputable def deq:D->D->Bool
 |.non,.non=>true
 |.bl a,.bl b=>a==b
 |.bl a,.int b=>(if a then 1 else 0)==b
 |.int a,.bl b=>a==(if b then 1 else 0)
 |.int a,.int b=>a==b
 |.str a,.str b=>a==b
 |.tup a,.tup b=>kA a b
 |.lst a,.lst b=>kA a b
 |_,_=>false
noncomputable def kA:List D->List D->Bool
 |[],[]=>true
 |x::xs,y::ys=>deq x y&&kA xs ys
 |_,_=>false
end
mutual
noncomputable def pl:D->Bool
 |.dic=>false
 |.dki _ _=>false
 |.any _=>false
 |.scr _=>false
 |.tup ds=>plL ds
 |.lst ds=>plL ds
 |_=>true
noncomputable def plL:List D->Bool
 |[]=>true
 |d::ds=>pl d&&plL ds
end
mutual
noncomputable def dep:D->Nat
 |.tup ds=>jP ds+1
 |.lst ds=>jP ds+1
 |_=>0
noncomputable def jP:List D->Nat
 |[]=>0
 |d::ds=>max (dep d) (jP ds)
end
theorem zS:∀ {ds:List D}{i:Nat}{d:D},plL ds=true->ds[i]? =some d->pl d=true
 |[],i,d,_,e=>by simp at e
 |d'::ds,i,d,h,e=>by
  simp only[plL,bH] at h;cases i with
  |zero=>simp at e;subst e;exact h.1
  |succ i=>exact zS h.2 (by simpa using e)
theorem xJ:∀ {ds:List D}{i:Nat}{d:D},ds[i]? =some d->dep d<=jP ds
 |[],i,d,e=>by simp at e
 |d'::ds,i,d,e=>by
  simp only[jP];cases i with
  |zero=>simp at e;subst e;exact Nat.le_max_left _ _
  |succ i=>exact cK (xJ (i:=i) (by simpa using e)) (Nat.le_max_right _ _)
theorem deqL_iff:∀ {xs ys:List D},kA xs ys=true↔xs.length=ys.length/\∀ (j:Nat) (x y:D),xs[j]? =some x->ys[j]? =some y->deq x y=true
 |[],[]=>by simp[kA]
 |[],y::ys=>by simp[kA]
 |x::xs,[]=>by simp[kA]
 |x::xs,y::ys=>by
  simp only[kA,bH,bS,deqL_iff (xs:=xs) (ys:=ys)]
  constructor
  ·rintro⟨h1,h2,h3⟩;refine⟨by omega,λj a b ea eb=> ?_⟩;cases j with
   |zero=>simp at ea eb;subst ea eb;exact h1
   |succ j=>exact h3 j a b (by simpa using ea) (by simpa using eb)
  ·rintro⟨h1,h2⟩;exact⟨h2 0 x y rfl rfl,by omega,λj a b ea eb=>h2 (j+1) a b (by simpa using ea) (by simpa using eb)⟩
mutual
theorem wB{K:aA}{H:Hp}:∀ {d1 d2:D}{v:V},pl d1=true->Rep K H d1 v->Rep K H d2 v->pl d2=true->deq d1 d2=true
 |.non,d2,v,_,r1,r2,_=>by simp only[Rep] at r1;subst r1;cases d2<;>simp_all[Rep,deq]
 |.bl b,d2,v,_,r1,r2,_=>by simp only[Rep] at r1;subst r1;cases d2<;>simp_all[Rep,deq]
 |.int b,d2,v,_,r1,r2,_=>by simp only[Rep] at r1;subst r1;cases d2<;>simp_all[Rep,deq]
 |.str b,d2,v,_,r1,r2,_=>by simp only[Rep] at r1;subst r1;cases d2<;>simp_all[Rep,deq]
 |.dic,_,_,h,_,_,_=>by simp[pl] at h
 |.dki _ _,_,_,h,_,_,_=>by simp[pl] at h
 |.any _,_,_,h,_,_,_=>by simp[pl] at h
 |.scr _,_,_,h,_,_,_=>by simp[pl] at h
 |.tup ds,d2,v,p1,r1,r2,p2=>by
  simp only[Rep] at r1;obtain⟨a,xs,rfl,ha,rl⟩:=r1;cases d2 with
  |tup es=>simp only[Rep] at r2;obtain⟨a',xs',e,ha',rl'⟩:=r2;cases e;rw[ha] at ha';cases ha';simp only[deq];exact qA (by simpa[pl] using p1) rl rl' (by simpa[pl] using p2)
  |lst es=>simp only[Rep] at r2;obtain⟨a',xs',e,ha',rl'⟩:=r2;cases e;rw[ha] at ha';cases ha'
  |dic=>simp[pl] at p2
  |dki=>simp[pl] at p2
  |any=>simp[pl] at p2
  |scr=>simp[pl] at p2
  |_=>simp[Rep] at r2
 |.lst ds,d2,v,p1,r1,r2,p2=>by
  simp only[Rep] at r1;obtain⟨a,xs,rfl,ha,rl⟩:=r1;cases d2 with
  |lst es=>simp only[Rep] at r2;obtain⟨a',xs',e,ha',rl'⟩:=r2;cases e;rw[ha] at ha';cases ha';simp only[deq];exact qA (by simpa[pl] using p1) rl rl' (by simpa[pl] using p2)
  |tup es=>simp only[Rep] at r2;obtain⟨a',xs',e,ha',rl'⟩:=r2;cases e;rw[ha] at ha';cases ha'
  |dic=>simp[pl] at p2
  |dki=>simp[pl] at p2
  |any=>simp[pl] at p2
  |scr=>simp[pl] at p2
  |_=>simp[Rep] at r2
theorem qA{K:aA}{H:Hp}:∀ {ds es:List D}{xs:List V},plL ds=true->RepL K H ds xs->RepL K H es xs->plL es=true->kA ds es=true
 |[],es,xs,_,r1,r2,_=>by
  simp only[RepL] at r1;subst r1;cases es with
  |nil=>rfl
  |cons e es=>obtain⟨y,ys,z,_⟩:=r2.uncons;cases z
 |d::ds,es,xs,p1,r1,r2,p2=>by
  obtain⟨y,ys,rfl,a,rl⟩:=r1.uncons;cases es with
  |nil=>simp only[RepL] at r2;cases r2
  |cons e es=>obtain⟨y',ys',z,a',rl'⟩:=r2.uncons;cases z;simp only[plL,bH] at p1 p2;simp only[kA,bH];exact⟨wB p1.1 a a' p2.1,qA p1.2 rl rl' p2.2⟩
end
noncomputable def sN:D->Bool
 |.non=>true
 |.bl _=>true
 |.int _=>true
 |.str _=>true
 |_=>false
theorem uX{K:aA}{H:Hp}{d:D}{v:V}(h:sN d=true)(r:Rep K H d v):oY v=true/\flt d=some v:=by cases d<;>simp_all[sN,Rep,oY,flt]
section
variable {P:AD}{w:AM}{K:aA}{H:Hp}{s:BK}
theorem jR(hok:HOk P w H s.heap){ds:List D}{v:V}{u:BJ}(r:Rep K H (.tup ds) v)(ru:RelV v u):∃a xs its,u=.ref a/\v=.ref a/\RepL K H ds xs/\Vals xs its/\s.heap.IsTuple a its.toArray:=by simp only[Rep] at r;obtain⟨a,xs,rfl,ha,rl⟩:=r;cases ru;obtain⟨_,its,rv,p⟩:=(show ObjOk P w H s.heap a (.tup xs) from hok a _ ha);exact⟨a,xs,its,rfl,rfl,rl,rv,p.tup⟩
theorem lM(hok:HOk P w H s.heap){ds:List D}{v:V}{u:BJ}(r:Rep K H (.lst ds) v)(ru:RelV v u):∃a xs its,u=.ref a/\v=.ref a/\RepL K H ds xs/\Vals xs its/\s.heap.IsList a its.toArray:=by simp only[Rep] at r;obtain⟨a,xs,rfl,ha,rl⟩:=r;cases ru;obtain⟨_,its,n,rv,p⟩:=(show ObjOk P w H s.heap a (.lst xs) from hok a _ ha);exact⟨a,xs,its,rfl,rfl,rl,rv,_,p,rfl,n,rfl⟩
noncomputable def dAt(ds es:List D)(j:Nat):Bool:=match ds[j]?,es[j]? with
 |some x,some y=>deq x y
 |_,_=>false
theorem sQ(ds es:List D):((bP (min ds.length es.length)).all (dAt ds es)&&ds.length==es.length)=kA ds es:=by
 rw[iL,deqL_iff,bH,cX,beq_iff_eq]
 constructor
 ·rintro⟨h1,h2⟩;refine⟨h2,λj x y ex ey=> ?_⟩;have hj:j<ds.length:=(aE.mp ex).1;have:=h1 j (cM.mpr (by omega));unfold dAt at this;rw[ex,ey] at this;exact this
 ·rintro⟨h1,h2⟩;refine⟨λj hj=> ?_,h1⟩;have hj':=cM.mp hj;have e1:ds[j]? =some (ds[j]'(by omega)):=by simp
  have e2:es[j]? =some (es[j]'(by omega)):=by simp
  unfold dAt;rw[e1,e2];exact h2 j _ _ e1 e2
theorem uB{ds es:List D}(h:ds.length=es.length):(bP ds.length).all (dAt ds es)=kA ds es:=by have:=sQ ds es;rw[h] at this ⊢;simpa using this
theorem wD{ds es:List D}(h:ds.length≠es.length):kA ds es=false:=by
 cases e:kA ds es with
 |false=>rfl
 |true=>exact absurd (deqL_iff.mp e).1 h
mutual
theorem aAV(hok:HOk P w H s.heap):∀ (d1:D) {d2:D}{v1 v2:V}{u1 u2:BJ}{A:BM},pl d1=true->pl d2=true->Rep K H d1 v1->Rep K H d2 v2->RelV v1 u1->RelV v2 u2->A.units+dep d1<AO->SeqAt.EqAt A s u1 u2 (deq d1 d2)
 |.tup ds,d2,v1,v2,u1,u2,A,p1,p2,r1,r2,ru1,ru2,hu=>by
  have hu':A.units<AO:=by omega
  obtain⟨a,xs,its,rfl,rfl,rl,rv,ht⟩:=jR hok r1 ru1;cases d2 with
  |non=>simp only[Rep] at r2;subst r2;cases ru2;exact SeqAt.EqAt.tuple_none ht hu'
  |bl b=>simp only[Rep] at r2;subst r2;cases ru2;exact SeqAt.EqAt.tuple_bool b ht hu'
  |int b=>simp only[Rep] at r2;subst r2;obtain⟨t,rfl⟩:=ru2;exact SeqAt.EqAt.tuple_int b t ht hu'
  |str b=>simp only[Rep] at r2;subst r2;obtain⟨t,rfl⟩:=ru2;exact SeqAt.EqAt.tuple_str b t ht hu'
  |dic=>simp[pl] at p2
  |dki=>simp[pl] at p2
  |any=>simp[pl] at p2
  |scr=>simp[pl] at p2
  |lst es=>obtain⟨b,ys,jts,rfl,rfl,rl2,rv2,hl2⟩:=lM hok r2 ru2;exact SeqAt.EqAt.tuple_list ht hl2 hu'
  |tup es=>
   obtain⟨b,ys,jts,rfl,e2,rl2,rv2,ht2⟩:=jR hok r2 ru2
   by_cases hab:a=b
   ·subst hab;have:=wB p1 r1 (e2▸r2) p2;rw[this];exact SeqAt.EqAt.same _
   ·simp only[deq];rw[<-sQ];have l1:its.toArray.size=ds.length:=by rw[aS,<-rv.length,rl.len]
    have l2:jts.toArray.size=es.length:=by rw[aS,<-rv2.length,rl2.len]
    rw[<-l1,<-l2];simp only[pl] at p1 p2;simp only[dep] at hu;refine .of_refs hab (.tuples ht ht2 hu' λj h1 h2=> ?_);exact qY hok ds p1 p2 rl rl2 rv rv2 (A:=A.in1) (by show A.units+1+_<AO;omega) (by simp) (by simp)
 |.lst ds,d2,v1,v2,u1,u2,A,p1,p2,r1,r2,ru1,ru2,hu=>by
  have hu':A.units<AO:=by omega
  obtain⟨a,xs,its,rfl,rfl,rl,rv,ht⟩:=lM hok r1 ru1;cases d2 with
  |non=>simp only[Rep] at r2;subst r2;cases ru2;exact SeqAt.EqAt.list_none ht hu'
  |bl b=>simp only[Rep] at r2;subst r2;cases ru2;exact SeqAt.EqAt.list_bool b ht hu'
  |int b=>simp only[Rep] at r2;subst r2;obtain⟨t,rfl⟩:=ru2;exact SeqAt.EqAt.list_int b t ht hu'
  |str b=>simp only[Rep] at r2;subst r2;obtain⟨t,rfl⟩:=ru2;exact SeqAt.EqAt.list_str b t ht hu'
  |dic=>simp[pl] at p2
  |dki=>simp[pl] at p2
  |any=>simp[pl] at p2
  |scr=>simp[pl] at p2
  |tup es=>obtain⟨b,ys,jts,rfl,rfl,rl2,rv2,hl2⟩:=jR hok r2 ru2;exact SeqAt.EqAt.list_tuple ht hl2 hu'
  |lst es=>
   obtain⟨b,ys,jts,rfl,e2,rl2,rv2,ht2⟩:=lM hok r2 ru2
   by_cases hab:a=b
   ·subst hab;have:=wB p1 r1 (e2▸r2) p2;rw[this];exact SeqAt.EqAt.same _
   ·simp only[deq];have l1:its.toArray.size=ds.length:=by rw[aS,<-rv.length,rl.len]
    have l2:jts.toArray.size=es.length:=by rw[aS,<-rv2.length,rl2.len]
    simp only[pl] at p1 p2;simp only[dep] at hu
    by_cases hl:ds.length=es.length
    ·rw[<-uB hl,<-l1];refine .of_refs hab (.lists ht ht2 (by rw[l1,l2,hl]) hu' λj h1 h2=> ?_);exact qY hok ds p1 p2 rl rl2 rv rv2 (A:=A.in1) (by show A.units+1+_<AO;omega) (by simp) (by simp)
    ·rw[wD hl];exact .of_refs hab (.lists_lengths ht ht2 (by rw[l1,l2];simpa using hl) hu')
 |.dic,_,_,_,_,_,_,p1,_,_,_,_,_,_=>by simp[pl] at p1
 |.dki _ _,_,_,_,_,_,_,p1,_,_,_,_,_,_=>by simp[pl] at p1
 |.any _,_,_,_,_,_,_,p1,_,_,_,_,_,_=>by simp[pl] at p1
 |.scr _,_,_,_,_,_,_,p1,_,_,_,_,_,_=>by simp[pl] at p1
 |.non,d2,v1,v2,u1,u2,A,p1,p2,r1,r2,ru1,ru2,hu=>by
  have hu':A.units<AO:=by omega
  simp only[Rep] at r1;subst r1;cases hf:sN d2 with
  |true=>obtain⟨h1,h2⟩:=uX hf r2;have:=wY (A:=A) (s:=s) ru1 ru2 rfl h1;cases d2<;>simp_all[sN,flt,Rep,deq,eqV]
  |false=>
   cases ru1;cases d2 with
   |tup es=>obtain⟨b,ys,jts,rfl,e2,rl2,rv2,ht2⟩:=jR hok r2 ru2;exact SeqAt.EqAt.none_tuple ht2 hu'
   |lst es=>obtain⟨b,ys,jts,rfl,e2,rl2,rv2,ht2⟩:=lM hok r2 ru2;exact SeqAt.EqAt.none_list ht2 hu'
   |dic=>simp[pl] at p2
   |dki=>simp[pl] at p2
   |any=>simp[pl] at p2
   |scr=>simp[pl] at p2
   |_=>simp[sN] at hf
 |.bl q,d2,v1,v2,u1,u2,A,p1,p2,r1,r2,ru1,ru2,hu=>by
  have hu':A.units<AO:=by omega
  simp only[Rep] at r1;subst r1;cases hf:sN d2 with
  |true=>obtain⟨h1,h2⟩:=uX hf r2;have:=wY (A:=A) (s:=s) ru1 ru2 rfl h1;cases d2<;>simp_all[sN,flt,Rep,deq,eqV]
  |false=>
   cases ru1;cases d2 with
   |tup es=>obtain⟨b,ys,jts,rfl,e2,rl2,rv2,ht2⟩:=jR hok r2 ru2;exact SeqAt.EqAt.bool_tuple q ht2 hu'
   |lst es=>obtain⟨b,ys,jts,rfl,e2,rl2,rv2,ht2⟩:=lM hok r2 ru2;exact SeqAt.EqAt.bool_list q ht2 hu'
   |dic=>simp[pl] at p2
   |dki=>simp[pl] at p2
   |any=>simp[pl] at p2
   |scr=>simp[pl] at p2
   |_=>simp[sN] at hf
 |.int q,d2,v1,v2,u1,u2,A,p1,p2,r1,r2,ru1,ru2,hu=>by
  have hu':A.units<AO:=by omega
  simp only[Rep] at r1;subst r1;cases hf:sN d2 with
  |true=>obtain⟨h1,h2⟩:=uX hf r2;have:=wY (A:=A) (s:=s) ru1 ru2 rfl h1;cases d2<;>simp_all[sN,flt,Rep,deq,eqV]
  |false=>
   obtain⟨t,rfl⟩:=ru1;cases d2 with
   |tup es=>obtain⟨b,ys,jts,rfl,e2,rl2,rv2,ht2⟩:=jR hok r2 ru2;exact SeqAt.EqAt.int_tuple q t ht2 hu'
   |lst es=>obtain⟨b,ys,jts,rfl,e2,rl2,rv2,ht2⟩:=lM hok r2 ru2;exact SeqAt.EqAt.int_list q t ht2 hu'
   |dic=>simp[pl] at p2
   |dki=>simp[pl] at p2
   |any=>simp[pl] at p2
   |scr=>simp[pl] at p2
   |_=>simp[sN] at hf
 |.str q,d2,v1,v2,u1,u2,A,p1,p2,r1,r2,ru1,ru2,hu=>by
  have hu':A.units<AO:=by omega
  simp only[Rep] at r1;subst r1;cases hf:sN d2 with
  |true=>obtain⟨h1,h2⟩:=uX hf r2;have:=wY (A:=A) (s:=s) ru1 ru2 rfl h1;cases d2<;>simp_all[sN,flt,Rep,deq,eqV]
  |false=>
   obtain⟨t,rfl⟩:=ru1;cases d2 with
   |tup es=>obtain⟨b,ys,jts,rfl,e2,rl2,rv2,ht2⟩:=jR hok r2 ru2;exact SeqAt.EqAt.str_tuple q t ht2 hu'
   |lst es=>obtain⟨b,ys,jts,rfl,e2,rl2,rv2,ht2⟩:=lM hok r2 ru2;exact SeqAt.EqAt.str_list q t ht2 hu'
   |dic=>simp[pl] at p2
   |dki=>simp[pl] at p2
   |any=>simp[pl] at p2
   |scr=>simp[pl] at p2
   |_=>simp[sN] at hf
theorem qY(hok:HOk P w H s.heap):∀ (ds:List D) {es:List D}{xs ys:List V}{its jts:List BJ}{j:Nat}{x y:BJ}{A:BM},plL ds=true->plL es=true->RepL K H ds xs->RepL K H es ys->Vals xs its->Vals ys jts->A.units+jP ds<AO->its[j]? =some x->jts[j]? =some y->SeqAt.EqAt A s x y (dAt ds es j)
 |[],es,xs,ys,its,jts,j,x,y,A,_,_,r1,_,v1,_,_,e1,_=>by simp only[RepL] at r1;subst r1;cases v1;simp at e1
 |d::ds,es,xs,ys,its,jts,j,x,y,A,p1,p2,r1,r2,v1,v2,hu,e1,e2=>by
  obtain⟨a,as,rfl,ra,rl⟩:=r1.uncons;cases v1 with
  |cons va vas=>
   cases es with
   |nil=>simp only[RepL] at r2;subst r2;cases v2;simp at e2
   |cons e es=>
    obtain⟨b,bs,rfl,rb,rl2⟩:=r2.uncons;cases v2 with
    |cons vb vbs=>
     simp only[plL,bH] at p1 p2;simp only[jP] at hu;cases j with
     |zero=>simp at e1 e2;subst e1 e2;exact aAV hok d p1.1 p2.1 ra rb va vb (by omega)
     |succ j=>exact qY hok ds p1.2 p2.2 rl rl2 vas vbs (by omega) (by simpa using e1) (by simpa using e2)
end
end
section
variable {X:Cx}{sd:List Slot}{e a b c:Expr}{es:List Expr}{pos:Pos}{r ra rb:R}{d:D}{ds:List D}{st:BP}{rest:List BP}{E:kR}
theorem rc_D{pins:List (BL×BO)}{σ:St}{H:Hp}{s:BK}{K:aA}{d1 d2:D}{v u:V}{x y:BJ}{Q:BJ->BK->Prop}(I:Inv X pins σ H s)(hs:(isT d1=true/\isT d2=true)\/(isL d1=true/\isL d2=true))(p1:pl d1=true)(p2:pl d2=true)(r1:Rep K H d1 v)(r2:Rep K H d2 u)(rx:RelV v x)(ry:RelV u y)
  (hu:X.A.units+dep d1+1<AO) (q:Q (.bool (deq d1 d2)) s):AK (AH X.prog X.w) X.A (AT .Eq x y) Q X.xe s:=by
 have hu':X.A.units<AO:=by omega
 rcases hs with⟨t1,t2⟩|⟨t1,t2⟩
 ·cases d1<;>first|(simp[isT] at t1;done)|skip
  cases d2<;>first|(simp[isT] at t2;done)|skip
  rename_i ds es;obtain⟨a,xs,its,rfl,rfl,rl,rv,ht⟩:=jR I.hok r1 rx;obtain⟨b,ys,jts,rfl,rfl,rl2,rv2,ht2⟩:=jR I.hok r2 ry;have l1:its.toArray.size=ds.length:=by rw[aS,<-rv.length,rl.len]
  have l2:jts.toArray.size=es.length:=by rw[aS,<-rv2.length,rl2.len]
  simp only[pl] at p1 p2;simp only[dep] at hu;simp only[deq] at q;rw[<-sQ,<-l1,<-l2] at q;exact SeqAt.eq_tupleAt ht ht2 hu' (λj h1 h2=>qY I.hok ds p1 p2 rl rl2 rv rv2 (A:=X.A.in1) (by show X.A.units+1+_<AO;omega) (by simp) (by simp)) q
 ·cases d1<;>first|(simp[isL] at t1;done)|(simp[pl] at p1;done)|skip
  cases d2<;>first|(simp[isL] at t2;done)|(simp[pl] at p2;done)|skip
  rename_i ds es;obtain⟨a,xs,its,rfl,rfl,rl,rv,ht⟩:=lM I.hok r1 rx;obtain⟨b,ys,jts,rfl,rfl,rl2,rv2,ht2⟩:=lM I.hok r2 ry;have l1:its.toArray.size=ds.length:=by rw[aS,<-rv.length,rl.len]
  have l2:jts.toArray.size=es.length:=by rw[aS,<-rv2.length,rl2.len]
  simp only[pl] at p1 p2;simp only[dep] at hu;simp only[deq] at q
  by_cases hl:ds.length=es.length
  ·rw[<-uB hl,<-l1] at q;exact SeqAt.eq_listAt ht ht2 (by rw[l1,l2,hl]) hu' (λj h1 h2=>qY I.hok ds p1 p2 rl rl2 rv rv2 (A:=X.A.in1) (by show X.A.units+1+_<AO;omega) (by simp) (by simp)) q
  ·rw[wD hl] at q;exact SeqAt.eq_list_lengthsAt ht ht2 (by rw[l1,l2];simpa using hl) hu' q
theorem aOv{pins:List (BL×BO)}{σ:St}{H:Hp}{s:BK}{K:aA}{d1 d2:D}{v u:V}{x y:BJ}{Q:BJ->BK->Prop}(I:Inv X pins σ H s)(hs:(isT d1=true/\isT d2=true)\/(isL d1=true/\isL d2=true))(p1:pl d1=true)(p2:pl d2=true)(r1:Rep K H d1 v)(r2:Rep K H d2 u)(rx:RelV v x)(ry:RelV u y)
  (hu:X.A.units+dep d1+1<AO) (q:Q (.bool (!deq d1 d2)) s):AK (AH X.prog X.w) X.A (AT .NotEq x y) Q X.xe s:=by
 have hu':X.A.units<AO:=by omega
 rcases hs with⟨t1,t2⟩|⟨t1,t2⟩
 ·cases d1<;>first|(simp[isT] at t1;done)|skip
  cases d2<;>first|(simp[isT] at t2;done)|skip
  rename_i ds es;obtain⟨a,xs,its,rfl,rfl,rl,rv,ht⟩:=jR I.hok r1 rx;obtain⟨b,ys,jts,rfl,rfl,rl2,rv2,ht2⟩:=jR I.hok r2 ry;have l1:its.toArray.size=ds.length:=by rw[aS,<-rv.length,rl.len]
  have l2:jts.toArray.size=es.length:=by rw[aS,<-rv2.length,rl2.len]
  simp only[pl] at p1 p2;simp only[dep] at hu;simp only[deq] at q;rw[<-sQ,<-l1,<-l2] at q;exact SeqAt.RcNeAt.tuples ht ht2 hu' (λj h1 h2=>qY I.hok ds p1 p2 rl rl2 rv rv2 (A:=X.A.in1) (by show X.A.units+1+_<AO;omega) (by simp) (by simp)) _ _ _ _ q
 ·cases d1<;>first|(simp[isL] at t1;done)|(simp[pl] at p1;done)|skip
  cases d2<;>first|(simp[isL] at t2;done)|(simp[pl] at p2;done)|skip
  rename_i ds es;obtain⟨a,xs,its,rfl,rfl,rl,rv,ht⟩:=lM I.hok r1 rx;obtain⟨b,ys,jts,rfl,rfl,rl2,rv2,ht2⟩:=lM I.hok r2 ry;have l1:its.toArray.size=ds.length:=by rw[aS,<-rv.length,rl.len]
  have l2:jts.toArray.size=es.length:=by rw[aS,<-rv2.length,rl2.len]
  simp only[pl] at p1 p2;simp only[dep] at hu;simp only[deq] at q
  by_cases hl:ds.length=es.length
  ·rw[<-uB hl,<-l1] at q;exact SeqAt.RcNeAt.lists ht ht2 (by rw[l1,l2,hl]) hu' (λj h1 h2=>qY I.hok ds p1 p2 rl rl2 rv rv2 (A:=X.A.in1) (by show X.A.units+1+_<AO;omega) (by simp) (by simp)) _ _ _ _ q
  ·rw[wD hl] at q;exact SeqAt.RcNeAt.lists_lengths ht ht2 (by rw[l1,l2];simpa using hl) hu' _ _ _ _ q
theorem ResOk.rep{K:aA}{H₀ F H:Hp}{σ:St}{v:V}(S:StF K H₀ F H σ sd)(hk:r.keeps)(q:ResOk K F H sd r v):Rep K H r.toD v:=by
 cases r with
 |val d=>exact Rep.mono S.sub q
 |own ds=>exact hk.elim
 |pr d ls=>exact hk.elim
 |ox G=>exact hk.elim
 |bor ds=>obtain⟨l,xs,e,hl,rl,_⟩:=q;simp only[R.toD,Rep];exact⟨l,xs,e,hl,rl.mono S.sub⟩
theorem aMm(K:aA)(d1 d2:D)(hs:(isT d1=true/\isT d2=true)\/(isL d1=true/\isL d2=true))(p1:pl d1=true)(p2:pl d2=true)(hu:X.A.units+dep d1+1<AO):OpR X (AT .Eq) (λx y H Q=>Rep K H d1 x/\Rep K H d2 y/\Q (.bl (deq d1 d2)) H):=by intro pins s σ H x y v u Q I rx ry h;obtain⟨h1,h2,q⟩:=h;exact rc_D I hs p1 p2 h1 h2 rx ry hu ⟨.bl (deq d1 d2),H,I,rfl,q⟩
theorem aLV(K:aA)(d1 d2:D)(hs:(isT d1=true/\isT d2=true)\/(isL d1=true/\isL d2=true))(p1:pl d1=true)(p2:pl d2=true)(hu:X.A.units+dep d1+1<AO):OpR X (AT .NotEq) (λx y H Q=>Rep K H d1 x/\Rep K H d2 y/\Q (.bl (!deq d1 d2)) H):=by intro pins s σ H x y v u Q I rx ry h;obtain⟨h1,h2,q⟩:=h;exact aOv I hs p1 p2 h1 h2 rx ry hu ⟨.bl (!deq d1 d2),H,I,rfl,q⟩
theorem aMt(ha:PEd X sd a ra)(hb:PEd X sd b rb)(ka:ra.keeps)(kb:rb.keeps)(hs:(isT ra.toD=true/\isT rb.toD=true)\/(isL ra.toD=true/\isL rb.toD=true))(p1:pl ra.toD=true)(p2:pl rb.toD=true)(hu:X.A.units+dep ra.toD+1<AO):PEd X sd (.Compare a [.Eq] [b] pos) (.val (.bl (deq ra.toD rb.toD))):=
 aAD (aMm X.K _ _ hs p1 p2 hu) ha hb ka (jI _) λσ F H v u Q S q1 q2 k=>⟨q1.rep S ka,q2.rep S kb,k F H S (Same.refl _)⟩
theorem uY(ha:PEd X sd a ra)(hb:PEd X sd b rb)(ka:ra.keeps)(kb:rb.keeps)(hs:(isT ra.toD=true/\isT rb.toD=true)\/(isL ra.toD=true/\isL rb.toD=true))(p1:pl ra.toD=true)(p2:pl rb.toD=true)(hu:X.A.units+dep ra.toD+1<AO):PTd X sd (.Compare a [.NotEq] [b] pos) (!deq ra.toD rb.toD):=
 nK (aLV X.K _ _ hs p1 p2 hu) ha hb ka (jI _) λσ F H v u Q S q1 q2 k=>⟨q1.rep S ka,q2.rep S kb,k F H S (Same.refl _)⟩
noncomputable def aLS(K:aA):R2:=λx y H Q=>∃a b ys,x=.ref a/\y=.ref b/\SqT K H a []/\SqT K H b ys/\Q (.ref b) H
theorem op_catT0:OpR X (Ak .Add) (aLS X.K):=by
 intro pins s σ H x y v u Q I rx ry h;obtain⟨a,b,ys,rfl,rfl,ha,hb,q⟩:=h;cases rx;cases ry;obtain⟨its,r1,p1,_⟩:=I.tuple ha;obtain⟨its2,r2,p2,_⟩:=I.tuple hb;cases r1;obtain⟨⟨cls,dd,data,sl⟩,ho,hc,n,hd⟩:=id p1;obtain⟨⟨cls2,dd2,data2,sl2⟩,ho2,hc2,n2,hd2⟩:=id p2;simp only at hc hd hc2 hd2;subst hc hd hc2 hd2
 exact concat_meets ⟨_,ho,rfl⟩ ⟨_,ho2,rfl⟩ noFill_tuple_add seq_tuple_add oW oA (nC _ _)
  (tuple_addW0 a b ([]:List BJ).toArray its2.toArray n n2 dd dd2 sl sl2 (by simp)) ⟨ho,ho2,⟨.ref b,H,I,rfl,q⟩⟩
theorem mU{d1 d2:List D}(ha:PEd X sd a (.val (.tup d1)))(hb:PEd X sd b (.val (.tup d2)))(hl:d1.length+d2.length<=1000):PEd X sd (.BinOp a .Add b pos) (.val (.tup (d1++d2))):=
 aCW (op_catT0.or aJn) ha hb trivial λσ F H v u Q S q1 q2 k=>by
  simp only[ResOk,Rep] at q1 q2;obtain⟨p,xs,e1,hp,rl⟩:=q1;obtain⟨q,ys,e2,hq,rl2⟩:=q2;cases d1 with
  |nil=>simp only[RepL] at rl;subst rl;refine .inl ⟨p,q,ys,e1,e2,.of (S.sub _ _ hp),.of (S.sub _ _ hq),k _ F H S (Same.refl _) ?_⟩;simp only[ResOk,Rep,xV];exact⟨q,ys,rfl,hq,rl2⟩
  |cons z zs=>
   refine .inr ⟨p,q,xs,ys,e1,e2,.of (S.sub _ _ hp),.of (S.sub _ _ hq), ?_,by rw[rl.len,rl2.len];exact eJ (hV hl),λhy=> ?_,λhy p2 hp2=> ?_⟩
   ·intro hx;subst hx;obtain⟨_,_,w,_⟩:=rl.uncons;cases w
   ·subst hy
    have:d2=[]:=by
     cases d2 with
     |nil=>rfl
     |cons w ws=>obtain⟨_,_,w,_⟩:=rl2.uncons;cases w
    subst this;refine k _ F H S (Same.refl _) ?_;simp only[ResOk,Rep,dD];exact⟨p,xs,rfl,hp,rl⟩
   ·obtain⟨S2,s2⟩:=S.lay (o:=.tup (xs++ys)) hp2 trivial;refine k _ _ _ S2 s2 ?_;simp only[ResOk,Rep];exact⟨p2,_,rfl,bV,(rl.app rl2).mono s2⟩
theorem nH{p:Pos}(hg:Gl X "tuple")(hm:X.mg "tuple"=none)(ha:PEd X sd e (.bor ds))(hst:AG [e] X.env=(false,eval e X.env)::AG [] X.env:=by rfl):PEd X sd (.Call (.Name "tuple" p) [e] [] pos) (.val (.tup ds)):=
 yZ (he:=hst) yA hg hm PyProof.Rows.boot_tuple (aD ha aR trivial hst) λσ F H vs Q S q k=>by
  cases q with
  |cons q1 q2=>cases q2;obtain⟨p,xs,rfl,hp,rl,_⟩:=q1;refine⟨p,xs,rfl,.inl ⟨.of hp,λl hl=> ?_⟩⟩;obtain⟨S2,s2⟩:=S.lay (o:=.tup xs) hl trivial;refine k _ _ _ S2 s2 ?_;simp only[ResOk,Rep];exact⟨l,xs,rfl,bV,rl.mono s2⟩
end
noncomputable def Ite(K:aA)(a:BL):It:=
 ⟨λi H=>∃xs x,SqL K H a xs/\xs[i]? =some x,λi H x H'=>∃p v,x=.ref p/\H p=none/\H'=upd H p (.tup [.int i,v])/\∀xs,SqL K H a xs->xs[i]? =some v,λi H=>∃xs,SqL K H a xs/\xs.length<=i⟩
theorem aKa{X:Cx}{pins:List (BL×BO)}{σ:St}{H:Hp}{s:BK}{h':BN}{t':Nat}{e it:BL}(I:Inv X pins σ H s)(k:∀b o,b≠e->b≠it->s.heap.get? b=some o->h'.get? b=some o)(f1:wC X pins H e)(f2:wC X pins H it):Inv X pins σ H {s with heap:=h',toks:=t'}:=by
 have nit:∀b u,H b=some u->b≠e/\b≠it:=λb u q=>⟨λz=>(by rw[z,f1.1] at q;cases q),λz=>(by rw[z,f2.1] at q;cases q)⟩
 have ne:∀b,b∉[e,it]->b≠e/\b≠it:=λb hc=>⟨λz=>hc (by simp[z]),λz=>hc (by simp[z])⟩
 refine I.step (g':=s.gens) (d':=s.drawn) (ch:=[e,it]) (λb hb=> ?_) (λb o _ _ hc q _=>k b o (ne b hc).1 (ne b hc).2 q) (λb o _ _ hc q _=>⟨o.slots,k b o (ne b hc).1 (ne b hc).2 q⟩) (λ_ _ _ _ n=>n)
  (λb o hc q=>⟨o,k b o (ne b hc).1 (ne b hc).2 q⟩) (λ_ _ q=>q) (λ_ _ _ q=>q) (λb ps q=>⟨#[],by rw[q];simp⟩) (λm hm=> ?_) (λb u q=> ?_) I.bare
 ·rcases aX.mp hb with z|hb
  ·subst z;exact⟨f1.2.2.2.1,f1.2.1,f1.2.2.2.2.1,f1.2.2.2.2.2⟩
  ·have z:b=it:=by simpa using hb
   subst z;exact⟨f2.2.2.2.1,f2.2.1,f2.2.2.2.2.1,f2.2.2.2.2.2⟩
 ·obtain⟨o,es,ep,ho,r⟩:=hm;exact⟨o,es,ep,k _ o (Ne.symm f1.2.1) (Ne.symm f2.2.1) ho,r⟩
 ·refine(I.hok b u q).stay (λc v hc g=> ?_) (λ_ g=>g) λ_ _ g=>g
  rcases hc with z|z
  ·rw[z] at g ⊢;exact k b v (nit b u q).1 (nit b u q).2 g
  ·exact k c v (nit c _ z).1 (nit c _ z).2 g
theorem aFl{P:AD}{w:AM}{K:aA}{elts:List Expr}{kk:Nat}{pos:Pos}(a e it:BL)(hei:e≠it):aFG P w K (.Tuple elts kk pos) (Ite K a) [e,it] e (λi h=>(∃old,IsEnum h e it i old)/\h.IsListIter it a i) where
 mem:=by simp
 obj:=λi h st b hb=>by
  obtain⟨⟨old,he⟩,hit⟩:=st
  rcases aX.mp hb with z|hb
  ·subst z;exact⟨_,he,λv z=>by cases z⟩
  ·have z:b=it:=by simpa using hb
   subst z;obtain⟨o,q,c,d⟩:=hit;exact⟨o,q,λv z=>by rw[d] at z;cases z⟩
 keep:=λi h h' st k=>by obtain⟨⟨old,he⟩,hit⟩:=st;exact⟨⟨old,k e (by simp) _ he⟩,hit.at λo q=>k it (by simp) o q⟩
 item:=by
  intro X hP hw hK hc i pins s σ H E I hf st hg;subst hP hw hK;obtain⟨⟨old,he⟩,hit⟩:=st;obtain⟨xs,x,hq,hx⟩:=hg;obtain⟨its,rv,p,hz⟩:=I.list hq;obtain⟨u,hu,ru⟩:=rv.get hx;have f1:=hf e (by simp);have f2:=hf it (by simp);refine wpAny_pyNext_enum_item he hit p.isList (x:=u) (by simpa using hu) hei λh1 heo hit1 ht1 hz1 hk1=> ?_
  refine⟨_,rfl,wpAny_letOwnedTupleGo_enum heo λh2 he2 hs2=> ?_⟩;have hs2:Heap.SameBut e h1 h2:=hs2;have esz:e<s.heap.objs.size:=aU he;have isz:it<s.heap.objs.size:=by obtain⟨_,q,_⟩:=hit;exact aU q
  have I1:Inv X pins σ H {s with heap:=h2,toks:=s.toks+1}:=aKa I (λb o h1' h2' q=>(hs2.2 b h1').trans (hk1 b o h1' h2' q)) f1 f2;have hn:H s.heap.objs.size=none:=I.hok.fresh (aM _);have g2:h2.get? s.heap.objs.size=some {cls:=.type "tuple",data:=.seq #[.int i s.toks,u]}:=(hs2.2 _ (iA esz)).trans ht1
  have I2:Inv X pins σ (upd H s.heap.objs.size (.tup [.int i,x])) {s with heap:=h2,toks:=s.toks+1}:=by
   refine I1.track hn I.sz (iA I.lt) (λy c q=> ?_) (λy hy=> ?_) ⟨by show 2<=AL;decide,[.int i s.toks,u],.cons ⟨_,rfl⟩ (.cons ru .nil),⟨_,g2,rfl,⟨_,rfl⟩,rfl⟩⟩
   ·obtain⟨v,o,ho,_⟩:=I.cell y c q;exact bO (aU ho)
   ·exact bO (aU (I.pin y hy).1)
  refine⟨.ref s.heap.objs.size,_,I2,rfl,⟨_,x,rfl,hn,rfl,λys hy=>by rw[I.list_inj hy hq];exact hx⟩,⟨⟨u, ?_⟩, ?_⟩,λb hb=> ?_⟩
  ·have:((i+1:Nat):Int)=(i:Int)+1:=by push_cast;rfl
   rw[this];exact he2
  ·exact hit1.at λo q=>(hs2.2 it (Ne.symm hei)).trans q
  ·rcases aX.mp hb with z|hb
   ·subst z;rw[bK (bO esz)];exact f1.1
   ·have z:b=it:=by simpa using hb
    subst z;rw[bK (bO isz)];exact f2.1
 done:=by intro X hP hw hK hc i pins s σ H E I hf st hg;subst hP hw hK;obtain⟨⟨old,he⟩,hit⟩:=st;obtain⟨xs,hq,hx⟩:=hg;obtain⟨its,rv,p,hz⟩:=I.list hq;obtain⟨f0,f1,f2,f3,f4,f5⟩:=hf it (by simp);have hl:=rv.length;exact wpAny_pyNext_enum_end (I.ok.hd hc) he hit p.isList (by simp;omega) λh' eb=>⟨rfl,I.turned (t':=s.toks) (λb o hb q=>eb b o hb q) f0 f1 f3 f4 f5⟩
 self:=λ_ _ _ _ _ st h=>by obtain⟨⟨old,he⟩,_⟩:=st;exact wpAny_pyIter_enum he h
section
variable {X:Cx}{sd:List Slot}{e a b c tg iter:Expr}{es:List Expr}{pos:Pos}{r ra rb:R}{d:D}{ds:List D}{st:BP}{rest:List BP}{E:kR}
noncomputable def aNT(K:aA)(ta:TA):TI:=λσ H R=>ta σ H λvs H1=>∃l,vs=[.ref l]/\(∃xs,SqL K H1 l xs)/\R (Ite K l) H1
theorem aJL{elts:List Expr}{kk:Nat}{tp:Pos}{ta:TA}{p:Pos}(hg:Gl X "enumerate")(hm:X.mg "enumerate"=none)(ha:PA X [a] ta)(hs:AG [a] X.env=[(false,eval a X.env)]:=by rfl):PI X (.Tuple elts kk tp) (.Call (.Name "enumerate" p) [a] [] pos) (aNT X.K ta):=by
 intro pins s σ H R I h;refine Call_ (pK I hg hm boot_enumerate (PyProof.Rows.callWith_type1 (thn (ha pos pins s σ H _ I h) λus s1 ⟨vs,H1,I1,r1,q1⟩=> ?_) hs rfl));obtain⟨l,rfl,⟨xs,hq⟩,q⟩:=q1;cases r1 with
 |cons r rr=>
  cases rr;cases r;obtain⟨its,rv,p,hz⟩:=I1.list hq;refine call_enumerate_list p.isList λh' he hit hsz hk=> ?_
  refine wpAny_pyIter_enum he ?_;have I2:Inv X pins σ H1 {s1 with heap:=h'}:=I1.kept (t':=s1.toks) hk;refine⟨s1.heap.objs.size+1,[s1.heap.objs.size+1,s1.heap.objs.size],_,Ite X.K l,H1,rfl,I2,aFl l _ _ (Nat.succ_ne_self _),⟨⟨_,he⟩,hit⟩,λb hb=> ?_,q⟩
  rcases aX.mp hb with z|hb
  ·subst z;exact I1.fpOk (kG _) (I1.hok.fresh (kG _))
  ·have z:b=s1.heap.objs.size:=by simpa using hb
   subst z;exact I1.fpOk (aM _) (I1.hok.fresh (aM _))
noncomputable def vO(ds:List D):List D:=(bP ds.length).map λ(i:Nat)=>D.tup [.int (i:Int),ds.getD i .non]
theorem tN(ds:List D):(vO ds).length=ds.length:=by simp[vO]
theorem yK{ds:List D}{i:Nat}{d:D}(h:(vO ds)[i]? =some d):∃x,ds[i]? =some x/\d=.tup [.int (i:Int),x]:=by
 unfold vO at h;rw[aQ] at h
 by_cases hi:i<ds.length
 ·rw[aFz hi] at h;refine⟨ds[i],by simp[hi], ?_⟩;rw[<-cF.inj h];simp[cA,hi]
 ·rw[gI (by simpa using hi)] at h;cases h
def LP(K:aA)(l:BL)(ds:List D):Hp->Hp->Prop:=λF H=>∃xs,H l=some (.lst xs)/\RepL K F ds xs
theorem aHd{F₁:Hp}{l:BL}:ItD X.K F₁ (LP X.K l ds) (Ite X.K l) (vO ds):=λF H _ sH sm hP i=>by
 obtain⟨xs,hl,rl⟩:=hP;refine⟨λhi=> ?_,λhi=> ?_,λx H' d hd y=> ?_⟩
 ·rw[tN] at hi;exact⟨xs,xs[i]'(by rw[rl.len];exact hi),.of hl,by simp[rl.len,hi]⟩
 ·rw[tN] at hi;exact⟨xs,.of hl,by rw[rl.len];exact hi⟩
 ·obtain⟨p,v,rfl,hp,rfl,hv⟩:=y;obtain⟨z,hz,rfl⟩:=yK hd;have hv:=hv xs (.of hl);obtain⟨v',h1,rz⟩:=rl.get hz;rw[hv] at h1;cases h1;have fp:F p=none:=sH.free hp;have s1:Same F (upd F p (.tup [.int i,v])):=λb u q=>by rw[bK (cI q fp)];exact q
  refine⟨upd F p (.tup [.int i,v]),s1, ?_,λH₀ σ sd S=>(S.lay (o:=.tup [.int i,v]) hp trivial).1⟩;simp only[Rep];exact⟨p,_,rfl,bV,.cons (by simp only[Rep]) (.one (rz.mono s1))⟩
theorem aGc{elts:List Expr}{kk:Nat}{tp p:Pos}(hg:Gl X "enumerate")(hm:X.mg "enumerate"=none)(ha:PEd X sd a (.val (.lst ds)))(hst:AG [a] X.env=[(false,eval a X.env)]:=by rfl):
  PId X sd PT0 (.Tuple elts kk tp) (.Call (.Name "enumerate" p) [a] [] pos) (vO ds):=.mk λσ F H S=>
 (aJL hg hm zV hst).to ((aD ha aR trivial (by rw [hst]; rfl) σ F H S).imp fun vs H1 ⟨F1,S1,s1,q1⟩=>by
  cases q1 with
  |cons q1 q2=>
   cases q2;simp only[ResOk,Rep] at q1;obtain⟨l,xs,rfl,hl,rl⟩:=q1;refine⟨l,rfl,⟨xs,.of (S1.sub _ _ hl)⟩,F1,S1,s1,λF' H' sF sH sm _ i=> ?_⟩
   exact aHd (X:=X) (F₁:=F1) F' H' sF sH sm ⟨xs,sH _ _ (sF _ _ hl),rl.mono sF⟩ i)
theorem aKw{ns:List Int}{us:List BJ}(r:Vals (ns.map V.int) us){i:Nat}{u:BJ}(h:us[i]? =some u):i<ns.length/\∃t,u=.int (ns.getD i 0) t:=by
 have hl:=r.length;rw[aB] at hl;have hi:i<us.length:=(aE.mp h).1
 have e:(ns.map V.int)[i]? =some (.int (ns.getD i 0)):=by
  rw[aQ];have:i<ns.length:=by omega
  simp[cA,this]
 obtain⟨u',h1,t,h2⟩:=r.get e;rw[h] at h1;cases h1;exact⟨by omega,t,h2⟩
noncomputable def cutD(ds:List D)(lo hi:Option Int):List D:=(ds.drop (HT.sIx ds.length 0 lo)).take (HT.sIx ds.length ds.length hi-HT.sIx ds.length 0 lo)
theorem RepL.cut{K:aA}{H:Hp}{xs:List V}(r:RepL K H ds xs)(lo hi:Option Int):RepL K H (cutD ds lo hi) (yC xs lo hi):=by unfold cutD yC;rw[r.len];exact(r.drop _).take _
def POd(X:Cx)(sd:List Slot)(e:Option Expr)(o:Option Int):Prop:=match e,o with
 |none,none=>True
 |some e,some i=>PEd X sd e (.val (.int i))
 |_,_=>False
theorem oK{eo:Option Expr}{o:Option Int}(h:POd X sd eo o):∃t:TO,PO X eo t/\∀ (σ:St) (F H:Hp),StF X.K X.B₀ F H σ sd->∀Q:Option Int->Hp->Prop,(∀F' H',StF X.K X.B₀ F' H' σ sd->Same F F'->Q o H')->t σ H Q:=by
 cases eo with
 |none=>
  cases o with
  |none=>exact⟨_,aJf,λσ F H S Q k=>k F H S (Same.refl _)⟩
  |some i=>exact h.elim
 |some e=>
  cases o with
  |none=>exact h.elim
  |some i=>have h:PEd X sd e (.val (.int i)):=h;refine⟨_,aKl fW,λσ F H S Q k=>(h σ F H S).imp λv H1 ⟨F1,S1,s1,q1⟩=> ?_⟩;simp only[ResOk,Rep] at q1;exact⟨i,q1,k F1 H1 S1 s1⟩
theorem aMQ{lo hi:Option Expr}{ol oh:Option Int}{p2:Pos}(ha:PEd X sd a (.bor ds))(hl:POd X sd lo ol)(hh:POd X sd hi oh):PEd X sd (.Subscript a (.Slice lo hi none p2) pos) (.own (cutD ds ol oh)):=.mk λσ F H S=>by obtain⟨tl,pl,kl⟩:=oK hl;obtain⟨th,ph,kh⟩:=oK hh;refine(aBK aJg fW pl ph).to ((ha σ F H S).imp λv H1 ⟨F1,S1,s1,q1⟩=>kl σ F1 H1 S1 _ λF2 H2 S2 s2=>kh σ F2 H2 S2 _ λF3 H3 S3 s3=> ?_);obtain⟨l,xs,rfl,hl',rl,_⟩:=ResOk.keep (r:=.bor ds) trivial q1 S3 (s2.trans s3);refine⟨l,xs,rfl,.of hl',λp hp=> ?_⟩;obtain⟨S4,fp,no⟩:=S3.layO (xs:=yC xs ol oh) hp;exact⟨F3,S4,(s1.trans s2).trans s3,p,_,rfl,fp,bV,rl.cut ol oh,no⟩
theorem aAW{lo hi:Option Expr}{ol oh:Option Int}{p2:Pos}(ha:PEd X sd a (.val (.tup ds)))(hl:POd X sd lo ol)(hh:POd X sd hi oh)(hn:¬ (HT.sIx ds.length 0 ol=0/\HT.sIx ds.length ds.length oh=ds.length)):PEd X sd (.Subscript a (.Slice lo hi none p2) pos) (.val (.tup (cutD ds ol oh))):=.mk λσ F H S=>by obtain⟨tl,pl,kl⟩:=oK hl;obtain⟨th,ph,kh⟩:=oK hh;refine(aBK aLQ fW pl ph).to ((ha σ F H S).imp λv H1 ⟨F1,S1,s1,q1⟩=>kl σ F1 H1 S1 _ λF2 H2 S2 s2=>kh σ F2 H2 S2 _ λF3 H3 S3 s3=> ?_);have q1:=Rep.mono (s2.trans s3) q1;simp only[Rep] at q1;obtain⟨l,xs,rfl,hl',rl⟩:=q1;refine⟨l,xs,rfl,.of (S3.sub _ _ hl'),by rw[rl.len];exact hn,λp hp=> ?_⟩;obtain⟨S4,s4⟩:=S3.lay (o:=.tup (yC xs ol oh)) hp trivial;refine⟨_,S4,((s1.trans s2).trans s3).trans s4, ?_⟩;simp only[ResOk,Rep];exact⟨p,_,rfl,bV,(rl.cut ol oh).mono s4⟩
theorem aHU{i:Int}(ha:PEd X sd a (.val (.int i))):PEd X sd (.UnaryOp .USub a pos) (.val (.int (-i))):=.mk λσ F H S=>
 (aNQ aMS fW).to ((ha σ F H S).imp fun v H1 ⟨F1,S1,s1,q1⟩=>by
  simp only[ResOk,Rep] at q1
  exact⟨i,q1,F1,S1,s1,by simp only[ResOk,Rep]⟩)
theorem gB{body:List BP}{P:Hp->Hp->Prop}(Sd:Nat->List Slot->Prop)(hi:PId X sd P tg iter ds)(h0:∃sd0,Le sd sd0/\Sd 0 sd0)
  (hb:∀k d sdk,ds[k]? =some d->Sd k sdk->∃sdt,PGd X sdk tg d sdt/\PSd X sdt body {E with nx:=λsd'=>∃sd2,Le sd' sd2/\Sd (k+1) sd2,ct:=λsd'=>∃sd2,Le sd' sd2/\Sd (k+1) sd2,bk:=E.nx}) (hE:∀sdn,Sd ds.length sdn->E.nx sdn) (hP:∀k sdk σ F H,Sd k sdk->StF X.K X.B₀ F H σ sdk->P F H:=by intros;trivial)
  (hc:X.calm=true:=by rfl) (hp:PassesOwn (AH X.prog X.w) X.A X.env X.xe:=by exact PassesOwn.never) (hs:∀x,foldedSetIterable iter X.env x=pure x:=by intro _;rfl):PSd1 X sd (.For tg iter body [] pos) E:=.mk λσ F H S=>
 (aHQ hp hc aOH aNI uE hs).to (by
  intro pins s I;refine thn (hi σ F H S pins s I) λv s1 h1=>thn h1 λitv s2 h2=> ?_
  obtain⟨it,fp,tn,J,H2,e,I2,T,st2,f2,F1,S1,s1',itd⟩:=h2;refine⟨it,fp,tn,J,H2,e,I2,T,st2,f2, ?_⟩;obtain⟨sd0,le0,q0⟩:=h0;refine⟨λi m σ' H'=>m=ds.length-i/\i<=ds.length/\∃sdi F',StF X.K X.B₀ F' H' σ' sdi/\Same F1 F'/\Sd i sdi,⟨ds.length,by simp,bY _,sd0,F1,S1.le le0,Same.refl _,q0⟩, ?_⟩;rintro i m σ' H' ⟨rfl,hil,sdi,F',S',s',qi⟩;obtain⟨g1,g2,g3⟩:=itd F' H' s' S'.sub S'.smp (hP _ _ _ _ _ qi S') i
  by_cases hlt:i<ds.length
  ·refine .inr ⟨g1 hlt,λσ2 H2=>∃sd2 F2,StF X.K X.B₀ F2 H2 σ2 sd2/\Same F1 F2/\Sd (i+1) sd2,λσ2 H2 ⟨sd2,F2,S2,s2,q2⟩=>⟨ds.length-(i+1),by omega,rfl,hlt,sd2,F2,S2,s2,q2⟩,λx H2 y=> ?_⟩;have hd:ds[i]? =some ds[i]:=by simp[hlt]
   obtain⟨F2,s2,rp,up⟩:=g3 x H2 ds[i] hd y;obtain⟨sdt,hg,hbb⟩:=hb i _ sdi hd qi;refine(hg σ' F2 H2 x (up _ _ _ S') rp).imp λσ3 H3 ⟨F3,S3,s3⟩=> ?_
   have base:Same F1 F3:=(s'.trans s2).trans s3;refine(hbb σ3 F3 H3 S3).imp ?_ ?_ ?_ ?_
   ·rintro σ4 H4 ⟨sd4,F4,S4,s4,sd5,le,q5⟩;exact⟨sd5,F4,S4.le le,base.trans s4,q5⟩
   ·exact λv H4 q=>q
   ·rintro σ4 H4 ⟨sd4,F4,S4,s4,q⟩;exact⟨sd4,F4,S4,(s1'.trans base).trans s4,q⟩
   ·rintro σ4 H4 ⟨sd4,F4,S4,s4,sd5,le,q5⟩;exact⟨sd5,F4,S4.le le,base.trans s4,q5⟩
  ·have e:i=ds.length:=by omega
   subst e
   exact .inl ⟨g2 (aM _),sdi,F',S',s1'.trans s',hE sdi qi⟩)
end
noncomputable def jC(m:Nat):Nat->List (List Int)
 |0=>[[]]
 |k+1=>(jC m k).flatMap λs=>(bP m).map λ(w:Nat)=>s++[(w:Int)]
noncomputable def bJ(s:List Int):D:=.tup (s.map D.int)
noncomputable def uM(m:Int)(ws:List Int):Int:=ws.foldl (λn w=>n*m+w) 0
noncomputable def aNB(b k:Nat):Bool:=let L:=jC (2^b) k;L.length==2^(b*k)&&(bP L.length).all λi=>let f:=L.getD i [];f.length==k&&f.all (λw=>decide (0<=w)&&decide (w<2^b))&&decide (uM (2^b) f=i)&&(i==0||HT.lexLt (L.getD (i-1) []) f)
theorem aLw:∀p∈cJ,aNB p.1.toNat p.2.toNat=true:=by decide+kernel
theorem xY:∀p∈cJ,1<=p.1/\p.1<=6/\1<=p.2/\p.2<=6/\p.1*p.2<=6:=by decide+kernel
theorem aDl{m:Nat}:∀ {k:Nat}{ws:List Int},ws.length=k->(∀w∈ws,0<=w/\w<m)->ws∈jC m k
 |0,ws,h,_=>by have:ws=[]:=aBO.mp h;subst this;simp[jC]
 |k+1,ws,h,hw=>by
  have hne:ws≠[]:=by intro z;subst z;simp at h
  have e:ws=ws.dropLast++[ws.getLast hne]:=(jN hne).symm;have hl:=hw (ws.getLast hne) (List.getLast_mem hne);have ih:ws.dropLast∈jC m k:=aDl (by rw[List.length_dropLast,h];rfl) λw hm=>hw w (List.dropLast_subset _ hm)
  show ws∈(jC m k).flatMap λs=>(bP m).map λ(w:Nat)=>s++[(w:Int)]
  refine dO.mpr ⟨_,ih,aN.mpr ⟨(ws.getLast hne).toNat,cM.mpr (by omega), ?_⟩⟩;have:(((ws.getLast hne).toNat:Nat):Int)=ws.getLast hne:=by omega
  rw[this];exact e.symm
structure aKY(b k:Nat):Prop where
 len:(jC (2^b) k).length=2^(b*k)
 at_:∀i,i<2^(b*k)->((jC (2^b) k).getD i []).length=k/\(∀w∈(jC (2^b) k).getD i [],0<=w/\w<2^b)/\uM (2^b) ((jC (2^b) k).getD i [])=i/\(i=0\/HT.lexLt ((jC (2^b) k).getD (i-1) []) ((jC (2^b) k).getD i [])=true)
theorem aHZ{b k:Nat}(h:aNB b k=true):aKY b k:=by unfold aNB at h;simp only[bH,beq_iff_eq,cX,cM,decide_eq_true_eq,xX] at h;obtain⟨h1,h2⟩:=h;refine⟨h1,λi hi=> ?_⟩;obtain⟨⟨⟨a,b⟩,c⟩,d⟩:=h2 i (by omega);exact⟨a,b,c,d⟩
theorem aMH{b k:Nat}(h:aKY b k){ws:List Int}(hl:ws.length=k)(hw:∀w∈ws,0<=w/\w<((2^b:Nat):Int)):0<=uM (2^b) ws/\(uM (2^b) ws).toNat<2^(b*k)/\(jC (2^b) k).getD (uM (2^b) ws).toNat []=ws:=by
 have hm:=aDl hl hw;obtain⟨i,hi,e⟩:=List.mem_iff_getElem.mp hm;have e':(jC (2^b) k).getD i []=ws:=by simp[cA,hi,e]
 rw[h.len] at hi;have hn:=(h.at_ i hi).2.2.1;rw[e'] at hn;rw[hn];refine⟨by omega,by simpa using hi, ?_⟩;simpa using e'
theorem aBv:∀ (ws vs:List Int),kA (ws.map D.int) (vs.map D.int)=decide (ws=vs)
 |[],[]=>by simp[kA]
 |[],_::_=>by simp[kA]
 |_::_,[]=>by simp[kA]
 |w::ws,v::vs=>by
  simp only[bC,kA,deq,aBv ws vs]
  by_cases h1:w=v<;>by_cases h2:ws=vs<;>simp[h1,h2]
theorem vP(ws vs:List Int):deq (bJ ws) (bJ vs)=decide (ws=vs):=by unfold bJ;simp only[deq,aBv]
theorem aBt:∀ws:List Int,plL (ws.map D.int)=true
 |[]=>rfl
 |w::ws=>by simp[plL,pl,aBt ws]
theorem yL:∀ws:List Int,jP (ws.map D.int)=0
 |[]=>rfl
 |w::ws=>by simp[jP,dep,yL ws]
theorem zX(ws:List Int):pl (bJ ws)=true:=by simp[bJ,pl,aBt]
theorem xB(ws:List Int):dep (bJ ws)=1:=by simp[bJ,dep,yL]
theorem nQ:∀L:List (List Int),plL (L.map bJ)=true
 |[]=>rfl
 |w::ws=>by simp[plL,zX,nQ ws]
theorem nV:∀L:List (List Int),jP (L.map bJ)<=1
 |[]=>by simp[jP]
 |w::ws=>by have:=nV ws;simp only[bC,jP,xB];omega
theorem vN:∀ (L M:List (List Int)),kA (L.map bJ) (M.map bJ)=decide (L=M)
 |[],[]=>by simp[kA]
 |[],_::_=>by simp[kA]
 |_::_,[]=>by simp[kA]
 |w::ws,v::vs=>by
  simp only[bC,kA,vP,vN ws vs]
  by_cases h1:w=v<;>by_cases h2:ws=vs<;>simp[h1,h2]
theorem aIH{i j:Int}(h1: -(2^64)<j)(h2:j<2^64):IntMulOk i j:=.of_right (intBits_le_64 h1 h2)
theorem rO{L:List (List Int)}{k:Nat}{d:D}(h:(L.map bJ)[k]? =some d):k<L.length/\d=bJ (L.getD k []):=by
 rw[aQ] at h;cases e:L[k]? with
 |none=>rw[e] at h;cases h
 |some z=>rw[e] at h;refine⟨(aE.mp e).1, ?_⟩;rw[<-cF.inj h,cA,e];rfl
section
variable {X:Cx}{sd:List Slot}{e a b c tg iter:Expr}{es:List Expr}{pos:Pos}{r ra rb:R}{d:D}{ds:List D}{st:BP}{rest:List BP}{E:kR}
theorem aDX{g:Str}{ad:BL}{xs:List V}{v:V}{p:Pos}(hg:Gl X g)(hm:X.mg g=some (.ref ad))(hq:∀H,SqT X.K H ad xs)(ha:PEd X sd a (.val d))(hd:flt d=some v)(fv:oY v=true)(fx:xs.all oY=true)
  (hk:AV .In (.Name g p)=false:=by with_unfolding_all rfl) (hdb:(g==("__debug__":Str))=false:=by decide):PTd X sd (.Compare a [.In] [.Name g p] pos) (inV v xs):=.mk λσ F H S=>
 (vI aEX fW (aDE (v:= .ref ad) hg hm rfl hdb) hk).to ((ha σ F H S).imp fun x H1 ⟨F1,S1,s1,q1⟩=>by
  have e:=zQ hd q1;subst e
  exact⟨ad,xs,rfl,.inr (hq H1),fv,fx,_,rfl,rfl,F1,S1,s1⟩)
end
noncomputable def stepNames:List Str:=["and","or","xor","add","take","copy","put","not","up","down"]
noncomputable def nm(k:Nat):Str:=stepNames.getD k "down"
noncomputable def kC(k:Nat)(i j n:Int):D:=if k<6 then .tup [.str (nm k),.int i,.int j] else if k=6 then .tup [.str (nm k),.int i,.int n] else .tup [.str (nm k),.int i]
noncomputable def aLs(k:Nat)(m a:Int):Int:=match k with
 |7=>m-1-a
 |8=>a*2%m
 |_=>a / 2
noncomputable def aFJ(k:Nat)(m a c:Int):Int:=match k with
 |0=>Builtin.bitAnd a c
 |1=>Builtin.bitOr a c
 |2=>Builtin.bitXor a c
 |3=>(a+c)%m
 |4=>(a-c)%m
 |_=>c
noncomputable def newW(k:Nat)(m a c n:Int):Int:=if k=6 then n else if 7<=k then aLs k m a else aFJ k m a c
theorem aDk:∀k,k<10->decide (V.str (nm k)=V.str "and")=decide (k=0):=by decide+kernel
theorem aIN:∀k,k<10->decide (V.str (nm k)=V.str "or")=decide (k=1):=by decide+kernel
theorem aCZ:∀k,k<10->decide (V.str (nm k)=V.str "xor")=decide (k=2):=by decide+kernel
theorem aCK:∀k,k<10->decide (V.str (nm k)=V.str "add")=decide (k=3):=by decide+kernel
theorem aAx:∀k,k<10->decide (V.str (nm k)=V.str "take")=decide (k=4):=by decide+kernel
theorem tP:∀k,k<10->decide (V.str (nm k)=V.str "put")=decide (k=6):=by decide+kernel
theorem aBb:∀k,k<10->decide (V.str (nm k)=V.str "not")=decide (k=7):=by decide+kernel
theorem aFY:∀k,k<10->decide (V.str (nm k)=V.str "up")=decide (k=8):=by decide+kernel
theorem aDD:∀k,k<10->inV (V.str (nm k)) [V.str "not",V.str "up",V.str "down"]=decide (7<=k):=by decide+kernel
theorem aGQ:∀b,b<7->∀a,a<2^b->∀c,c<2^b->∀k,k<3->0<=aFJ k 0 ((a:Nat):Int) ((c:Nat):Int)/\aFJ k 0 ((a:Nat):Int) ((c:Nat):Int)<((2^b:Nat):Int):=by decide+kernel
theorem aOs{k:Nat}(h:k<3)(m a c:Int):aFJ k m a c=aFJ k 0 a c:=by
 match k,h with
 |0,_=>rfl
 |1,_=>rfl
 |2,_=>rfl
theorem aGT{b k:Nat}{a c n:Int}(hb:b<7)(hk:k<10)(ha:0<=a/\a<((2^b:Nat):Int))(hc:0<=c/\c<((2^b:Nat):Int))(hn:0<=n/\n<((2^b:Nat):Int)):0<=newW k ((2^b:Nat):Int) a c n/\newW k ((2^b:Nat):Int) a c n<((2^b:Nat):Int):=by
 have ea:a=((a.toNat:Nat):Int):=by omega
 have ec:c=((c.toNat:Nat):Int):=by omega
 have la:a.toNat<2^b:=by have:=ha.2;generalize 2^b=q at *;omega
 have lc:c.toNat<2^b:=by have:=hc.2;generalize 2^b=q at *;omega
 have tab:∀k,k<3->0<=aFJ k ((2^b:Nat):Int) a c/\aFJ k ((2^b:Nat):Int) a c<((2^b:Nat):Int):=λk hk=>by rw[aOs hk,ea,ec];exact aGQ b hb _ la _ lc k hk
 have mpos:(0:Int)<((2^b:Nat):Int):=by omega
 match k,hk with
 |0,_=>exact tab 0 (by decide)
 |1,_=>exact tab 1 (by decide)
 |2,_=>exact tab 2 (by decide)
 |3,_=>exact⟨dG _ (mO mpos),cE _ mpos⟩
 |4,_=>exact⟨dG _ (mO mpos),cE _ mpos⟩
 |5,_=>exact hc
 |6,_=>exact hn
 |7,_=>show 0<=((2^b:Nat):Int)-1-a/\((2^b:Nat):Int)-1-a<((2^b:Nat):Int);generalize ((2^b:Nat):Int)=q at *;omega
 |8,_=>exact⟨dG _ (mO mpos),cE _ mpos⟩
 |9,_=>show 0<=a / 2/\a / 2<((2^b:Nat):Int);generalize ((2^b:Nat):Int)=q at *;omega
section
variable {X:Cx}{sd:List Slot}{e a b c tg iter:Expr}{es:List Expr}{pos:Pos}{d:D}
theorem aER{op op':CmpOp}{g g':Int->Int->Bool}{i j l:Int}(ho:OpR X (AT op) (rI0 λi j=>.bl (g i j)))(ho':OpR X (AT op') (rI0 λi j=>.bl (g' i j)))(ha:PEd X sd a (.val (.int i)))(hb:PEd X sd b (.val (.int j)))(hc:PEd X sd c (.val (.int l)))(hm:lastMarks [op,op'] [b,c]=false:=by with_unfolding_all rfl):PEd X sd (.Compare a [op,op'] [b,c] pos) (.val (.bl (g i j&&g' j l))):=.mk λσ F H S=>
 (aGq ho ho' fW fW fW hm).to ((ha σ F H S).imp fun v H1 ⟨F1,S1,s1,q1⟩=>(hb σ F1 H1 S1).imp fun u H2 ⟨F2,S2,s2,q2⟩=>by
  simp only[ResOk,Rep] at q1 q2;refine⟨i,j,q1,q2,g i j,rfl, ?_⟩;cases hk:g i j with
  |true=>
   rw[if_pos rfl];refine(hc σ F2 H2 S2).imp λw H3 ⟨F3,S3,s3,q3⟩=> ?_
   simp only[ResOk,Rep] at q3;exact⟨j,l,q2,q3,F3,S3,s1.trans (s2.trans s3),by simp only[ResOk,Rep,aBR]⟩
  |false=>
   rw[if_neg (by decide)]
   exact⟨F2,S2,s1.trans s2,by simp only[ResOk,Rep,qL]⟩)
theorem aHx{i j:Int}(ha:PEd X sd a (.val (.int i)))(hb:PEd X sd b (.val (.int j))):PEd X sd (.Compare a [.Eq] [b] pos) (.val (.bl (decide (i=j)))):=
 aAD aLd ha hb trivial (jI _) λσ F H v u Q S q1 q2 k=>by
  simp only[ResOk,Rep] at q1 q2;subst q1;subst q2;refine⟨rfl, ?_⟩;have e:decide (V.int i=V.int j)=decide (i=j):=by rw[aAy,aCE]
  rw[e];exact k F H S (Same.refl _)
end
section
variable {X:Cx}{sd:List Slot}{e a b c tg iter o:Expr}{es:List Expr}{pos:Pos}{r ra rb:R}{d:D}{ds:List D}{st:BP}{rest:List BP}{E:kR}
theorem PEd.ic{i j:Int}(h:PEd X sd e (.val (.int i)))(q:i=j):PEd X sd e (.val (.int j)):=q▸h
end
mutual
noncomputable def noL:D->Bool
 |.tup ds=>aKL ds
 |.lst _=>false
 |.scr _=>false
 |.dic=>false
 |.dki _ _=>false
 |.any _=>false
 |_=>true
noncomputable def aKL:List D->Bool
 |[]=>true
 |d::ds=>noL d&&aKL ds
end
noncomputable def del(F:Hp)(l:BL):Hp:=λb=>if b=l then none else F b
theorem wX{F:Hp}{l b:BL}(h:b≠l):del F l b=F b:=by unfold del;rw[if_neg h]
theorem aBh{F:Hp}{l:BL}:del F l l=none:=by unfold del;rw[if_pos rfl]
mutual
theorem Rep.del{K:aA}{F:Hp}{l:BL}{xs:List V}(hl:F l=some (.lst xs)):∀ {d:D}{v:V},noL d=true->Rep K F d v->Rep K (del F l) d v
 |.non,_,_,r=>by simpa only[Rep] using r
 |.bl _,_,_,r=>by simpa only[Rep] using r
 |.int _,_,_,r=>by simpa only[Rep] using r
 |.str _,_,_,r=>by simpa only[Rep] using r
 |.tup ds,v,h,r=>by
  simp only[Rep] at r ⊢;obtain⟨a,ys,e,q,rl⟩:=r
  have ne:a≠l:=λz=>by rw[z,hl] at q;cases q
  exact⟨a,ys,e,by rw[wX ne];exact q,RepL.del hl (by simpa only[noL] using h) rl⟩
 |.lst _,_,h,_=>by simp[noL] at h
 |.dic,_,h,_=>by simp[noL] at h
 |.dki _ _,_,h,_=>by simp[noL] at h
 |.any _,_,h,_=>by simp[noL] at h
 |.scr _,_,h,_=>by simp[noL] at h
theorem RepL.del{K:aA}{F:Hp}{l:BL}{xs:List V}(hl:F l=some (.lst xs)):∀ {ds:List D}{ys:List V},aKL ds=true->RepL K F ds ys->RepL K (del F l) ds ys
 |[],_,_,r=>by simpa only[RepL] using r
 |d::ds,ys,h,r=>by simp only[aKL,bH] at h;obtain⟨y,zs,rfl,a,rl⟩:=r.uncons;exact .cons (Rep.del hl h.1 a) (RepL.del hl h.2 rl)
end
theorem aBE{K:aA}{F H:Hp}:∀ {sd:List Slot}{σ:St},σ.length=sd.length->(∀ (k:Nat) (z:Slot),sd[k]? =some z->∃o,σ[k]? =some o/\iZ K F H z o)->SlotsOk K F H sd σ
 |[],[],_,_=>rfl
 |z::zs,o::r,hl,h=>by
  obtain⟨o',e,q⟩:=h 0 z rfl;have:o=o':=by simpa using e
  subst this
  exact ⟨o,r,rfl,q,aBE (by simpa using hl) fun k z hz=>by
   obtain⟨o',e,q⟩:=h (k+1) z (by simpa using hz)
   exact⟨o',by simpa using e,q⟩⟩
 |[],_::_,hl,_=>by simp at hl
 |_::_,[],hl,_=>by simp at hl
noncomputable def okS:Slot->Bool
 |.own _ ds=>aKL ds
 |.od _ _ ds=>aKL ds
 |.ox _ _=>false
 |_=>true
def Oth(sd:List Slot)(i:Nat):Prop:=∀ (k:Nat) (z:Slot),k≠i->sd[k]? =some z->okS z=true
section
variable {K:aA}{H₀ F F' H H':Hp}{σ:St}{sd:List Slot}{i:Nat}{l:BL}{ds:List D}{xs:List V}
theorem StF.lend(S:StF K H₀ F H σ sd)(hs:sd[i]? =some (.own l ds))(hx:H l=some (.lst xs)):StF K H₀ (upd F l (.lst xs)) H σ (sd.set i (.val (.lst ds))):=by obtain⟨o,h1,h2,n,ys,q,rl⟩:=S.slots.get hs;rw[hx] at q;cases q;have S0:=S.le (iG sd i);obtain⟨S1,s1⟩:=S0.freeze hx n (pU S.nd hs);have S2:=S1.set (d:=.lst ds) (v:=.ref l) i (by simp only[Rep];exact⟨l,xs,rfl,bV,rl.mono s1⟩);rw[jY,lJ (by rw[h1,h2])] at S2;exact S2
theorem StF.back(S:StF K H₀ F H σ sd)(hs:sd[i]? =some (.own l ds))(hx:H l=some (.lst xs))(ho:Oth sd i)(S':StF K H₀ F' H' σ (sd.set i (.val (.lst ds))))(s:Same (upd F l (.lst xs)) F'):StF K H₀ (del F' l) H' σ sd/\Same F (del F' l)/\F' l=some (.lst xs):=by
 obtain⟨o,h1,h2,n,ys,q,rl⟩:=S.slots.get hs;rw[hx] at q;cases q;have fl:F' l=some (.lst xs):=s _ _ bV
 have sF:Same F (del F' l):=λb u e=>by have ne:b≠l:=cI e n;rw[wX ne];exact s _ _ (by rw[bK ne];exact e)
 refine⟨⟨λb u e=>sF _ _ (S.base _ _ e),λb u e=> ?_,S'.smp, ?_,S.nd⟩,sF,fl⟩
 ·by_cases h:b=l
  ·subst h;rw[aBh] at e;cases e
  ·rw[wX h] at e;exact S'.sub _ _ e
 ·refine aBE S.slots.len λk z hz=> ?_
  by_cases hk:k=i
  ·subst hk;rw[hs] at hz;cases hz;exact⟨o,h1,h2,aBh,xs,S'.sub _ _ fl,rl.mono sF⟩
  ·obtain⟨o1,g1,g2⟩:=S.slots.get hz;obtain⟨o2,g3,g4⟩:=S'.slots.get (i:=k) (z:=z) (by rw[lQ (Ne.symm hk)];exact hz);rw[g1] at g3;cases g3;refine⟨o1,g1, ?_⟩;cases z with
   |un=>trivial
   |val d=>obtain⟨v,e,r⟩:=g2;exact⟨v,e,r.mono sF⟩
   |gh d G=>obtain⟨v,e,r,g⟩:=g2;exact⟨v,e,r.mono sF,λF2 s2=>g F2 (sF.trans s2)⟩
   |own l' ds'=>
    obtain⟨e,n',ys,q',rl'⟩:=g4
    have ne:l'≠l:=λe2=>by rw[e2,fl] at n';cases n'
    exact⟨e,by rw[wX ne];exact n',ys,q',RepL.del fl (ho k _ hk hz) rl'⟩
   |od l' ks ds'=>
    obtain⟨e,n',ys,q',ln,rl'⟩:=g4
    have ne:l'≠l:=λe2=>by rw[e2,fl] at n';cases n'
    exact⟨e,by rw[wX ne];exact n',ys,q',ln,RepL.del fl (ho k _ hk hz) rl'⟩
   |ox ls G=>exact absurd (ho k _ hk hz) (by simp[okS])
end
section
variable {X:Cx}{sd:List Slot}{e a b c tg iter o:Expr}{es:List Expr}{pos:Pos}{r ra rb:R}{d:D}{ds:List D}{st:BP}{rest:List BP}{E:kR}
theorem PTd.lend(i:Nat){l:BL}{k:Bool}(hs:sd[i]? =some (.own l ds))(ho:Oth sd i)(h:PTd X (sd.set i (.val (.lst ds))) e k):PTd X sd e k:=.mk λσ F H S=>by
 obtain⟨o,h1,h2,n,xs,q,rl⟩:=S.slots.get hs;refine(h σ _ H (S.lend hs q)).imp λv H' ⟨e,F',S',s'⟩=> ?_
 obtain⟨S2,s2,fl⟩:=S.back hs q ho S' s';exact⟨e,del F' l,S2,s2⟩
theorem PTd.cast{k k':Bool}(h:PTd X sd e k)(q:k=k'):PTd X sd e k':=q▸h
noncomputable def aNy:List Slot->Nat->Bool
 |[],_=>true
 |_::zs,0=>zs.all okS
 |z::zs,i+1=>okS z&&aNy zs i
theorem aLq:∀ {sd:List Slot}{i:Nat},aNy sd i=true->Oth sd i
 |[],_,_,k,y,_,hz=>by simp at hz
 |z::zs,0,h,k,y,hk,hz=>by
  cases k with
  |zero=>exact absurd rfl hk
  |succ k=>exact cX.mp (show zs.all okS=true from h) _ (aO (by simpa using hz))
 |z::zs,i+1,h,k,y,hk,hz=>by
  have h':(okS z&&aNy zs i)=true:=h;rw[bH] at h';cases k with
  |zero=>
   have:z=y:=by simpa using hz
   subst this;exact h'.1
  |succ k=>exact aLq h'.2 k y (λq=>hk (by rw[q])) (by simpa using hz)
theorem aHj(i j:Nat){x y:Str}{p q:Pos}{l:BL}(hs:sd[j]? =some (.own l ds))(hN:X.N.Nodup)(hi:X.N[i]? =some x)(hx:Loc X.env.scope x)(hy:PE X (.Name y q) (lG j))(hE:E.nx ((sd.set j .un).set i (.own l ds)))(hsw:Ad (.Name y q) (some (.Name x p)) pos.line X.env=pure false:=by rfl)
  (hf:X.fn x=true\/X.env.scope.names.lookup x=some .local:=by first|exact .inl rfl|exact .inr rfl|assumption):PSd1 X sd (.Assign [.Name x p] (.Name y q) pos) E:=.mk λσ F H S=>
 (qR hN hi hx hy hsw hf).to (by
  obtain⟨o,h1,h2,n,xs,g,rl⟩:=S.slots.get hs
  exact⟨.ref l,by rw[h1,h2],_,F,(S.le (iG sd j)).setO i n g rl (pU S.nd hs),Same.refl _,hE⟩)
theorem aEp:lY X (.type "int") (λxs H Q=>∃k,xs=[.bl k]/\Q (.int (if k then 1 else 0)) H):=by intro pins s σ H xs us Q I r h;obtain⟨k,rfl,q⟩:=h;obtain⟨u,rfl,ru⟩:=pO r;cases(show u=Value.bool k from ru);exact call_int_bool ⟨.int _,H,I.kept λb o g=>g,⟨_,rfl⟩,q⟩
theorem aJE{p:Pos}{k:Bool}(hg:Gl X "int")(hm:X.mg "int"=none)(ha:PEd X sd e (.val (.bl k)))(hst:AG [e] X.env=(false,eval e X.env)::AG [] X.env:=by rfl):PEd X sd (.Call (.Name "int" p) [e] [] pos) (.val (.int (if k then 1 else 0))):=
 yZ (he:=hst) aEp hg hm PyProof.Rows.boot_int (aD ha aR trivial hst) λσ F H vs Q S q kk=>by
  cases q with
  |cons q1 q2=>cases q2;simp only[ResOk,Rep] at q1;subst q1;exact⟨k,rfl,kk _ F H S (Same.refl _) (by simp only[ResOk,Rep])⟩
theorem aEJ(hc:X.calm=true):lY X (.builtin "sum") (λxs H Q=>∃ (a:BL) (ns:List Int),xs=[.ref a]/\SqL X.K H a (ns.map V.int)/\Q (.int (preSum (λi=>ns.getD i 0) ns.length)) H):=by
 intro pins s σ H xs us Q I r h;obtain⟨a,ns,rfl,ha,q⟩:=h;obtain⟨u,rfl,ru⟩:=pO r;cases ru;obtain⟨its,rv,p,hz⟩:=I.list ha;have hl:=rv.length;rw[aB] at hl;have isl:s.heap.IsList a its.toArray:=p.isList;have alt:a<s.heap.objs.size:=by obtain⟨o,ho,_⟩:=isl;exact aU ho
 refine call_sum_walkAnyS (BB isl ?_);refine⟨s.heap.objs.size,_,_,_,its.toArray.size,_,_,λi=>ns.getD i 0,rfl,(Walks.list (A:=X.A.in1) (I.ok.hd hc) s.heap.objs.size a (bO alt) its.toArray).toS,⟨⟨_,bD _ rfl,rfl,rfl⟩,isl.push _⟩,λb hb=> ?_,λi v hv=>(aKw rv (by simpa using hv)).2,λs' t' hm=> ?_⟩
 ·show b<(s.heap.push _).objs.size;rw[size_push']
  rcases aX.mp hb with e|hb
  ·rw[e];exact lO _
  ·have e:b=a:=by simpa using hb
   rw[e];exact oD alt
 ·rw[Moved.eq_with hm];have sz:its.toArray.size=ns.length:=by rw[aS,hl]
  rw[sz];refine⟨.int _,H,I.kept λb o g=>hm.heap b o (λhI=> ?_) (aI _ g),⟨_,rfl⟩,q⟩;have e:b=s.heap.objs.size:=by simpa using hI
  exact absurd (aU g) (by rw[e];exact fJ _)
theorem aKp{p:Pos}{ns:List Int}(hg:Gl X "sum")(hm:X.mg "sum"=none)(ha:PEd X sd e (.bor (ns.map D.int)))(hc:X.calm=true:=by rfl)(hst:AG [e] X.env=(false,eval e X.env)::AG [] X.env:=by rfl):PEd X sd (.Call (.Name "sum" p) [e] [] pos) (.val (.int (preSum (λi=>ns.getD i 0) ns.length))):=
 mE (he:=hst) (aEJ hc) hg hm boot_sum (aD ha aR trivial hst) λσ F H vs Q S q k=>by
  cases q with
  |cons q1 q2=>cases q2;obtain⟨p,xs,rfl,hp,rl,_⟩:=q1;exact⟨p,ns,rfl,.of (by rw[<-rl.ints];exact hp),k _ F H S (Same.refl _) (by simp only[ResOk,Rep])⟩
end
def aIP:List D->R->Prop:=λds r=>∃ (ns:List Int) (k:Nat),ds=[.scr ns,.int (k:Int)]/\k<=1000/\r=.val (.int (ns.getD k 0))
noncomputable abbrev SQ:=Nat×Int×Int×Int
noncomputable def sqD(q:SQ):D:=kC q.1 q.2.1 q.2.2.1 q.2.2.2
structure qE(p:Int×Int)(q:SQ):Prop where
 sz:p∈cJ
 k10:q.1<10
 i0:0<=q.2.1/\q.2.1<p.2
 j0:0<=q.2.2.1/\q.2.2.1<p.2
 n0:0<=q.2.2.2/\q.2.2.2<((2^p.1.toNat:Nat):Int)
theorem pw0(n:Nat):(0:Int)<((2^n:Nat):Int):=by have:0<2^n:=Nat.pow_pos (by decide);generalize 2^n=q at this ⊢;omega
noncomputable abbrev SK:=SQ×Int
noncomputable def skD(s:SK):D:=.tup [sqD s.1,.int s.2]
structure StkOk(p:Int×Int)(L:List SK):Prop where
 pos:0<L.length
 le:L.length<=8
 st:∀s∈L,qE p s.1/\1<=s.2/\s.2<=9
structure Fil(p:Int×Int)(ws:List Int):Prop where
 len:ws.length=p.2.toNat
 wd:∀w∈ws,0<=w/\w<((2^p.1.toNat:Nat):Int)
noncomputable def nwQ(p:Int×Int)(q:SQ)(ws:List Int):Int:=newW q.1 ((2^p.1.toNat:Nat):Int) (ws.getD q.2.1.toNat 0) (ws.getD q.2.2.1.toNat 0) q.2.2.2
noncomputable def onQ(p:Int×Int)(q:SQ)(ws:List Int):List Int:=ws.set q.2.1.toNat (nwQ p q ws)
noncomputable def aNC(p:Int×Int)(L:List SK)(row:List Nat)(ws:List Int):List Int:=row.foldl (λf t=>onQ p (L.getD t AN).1 f) ws
theorem aKs{p:Int×Int}{q:SQ}{ws:List Int}(O:qE p q)(G:Fil p ws):0<=nwQ p q ws/\nwQ p q ws<((2^p.1.toNat:Nat):Int):=by obtain⟨h1,h2,h3,h4,h5⟩:=xY p O.sz;exact aGT (by omega) O.k10 (G.wd _ (getD_mem (by have:=O.i0;rw[G.len];omega))) (G.wd _ (getD_mem (by have:=O.j0;rw[G.len];omega))) O.n0
theorem aAB{p:Int×Int}{q:SQ}{ws:List Int}(O:qE p q)(G:Fil p ws):Fil p (onQ p q ws):=by
 refine⟨by unfold onQ;rw[List.length_set];exact G.len,λw hw=> ?_⟩
 rcases List.mem_or_eq_of_mem_set hw with hw|rfl
 ·exact G.wd w hw
 ·exact aKs O G
theorem aAw{p:Int×Int}(hp:p∈cJ){ws:List Int}(h:ws∈jC (2^p.1.toNat) p.2.toNat):Fil p ws:=by
 have g:∀ (m k:Nat),∀s∈jC m k,s.length=k/\∀x∈s,0<=x/\x<(m:Int):=λm k=>by
  induction k with
  |zero=>
   intro s h;have:s=[]:=by simpa[jC] using h
   subst this;exact⟨rfl,λx hx=>by cases hx⟩
  |succ k ih=>
   intro s h;obtain⟨t,ht,hs⟩:=dO.mp h;obtain⟨w,hw,rfl⟩:=aN.mp hs;obtain⟨a,b⟩:=ih t ht;refine⟨by rw[aP,a];rfl,λx hx=> ?_⟩
   rcases aY.mp hx with hx|hx
   ·exact b x hx
   ·have e:x=(w:Int):=by simpa using hx
    have:=cM.mp hw;omega
 obtain⟨a,b⟩:=g _ _ ws h;exact⟨a,b⟩
noncomputable def bM(row:List Nat):List D:=row.map λ(t:Nat)=>D.int (t:Int)
noncomputable def aHv(L:List SK)(row:List Nat):List Int:=row.map λt=>(L.getD t AN).2
noncomputable def aHt(l:List Int):Int:=preSum (λi=>l.getD i 0) l.length
def aIj:List D->R->Prop:=λds r=>∃ (L:List SK) (row:List Nat),(∀t∈row,t<L.length)/\row.length<=500/\ds=[.lst (L.map skD),.tup (bM row)]/\r=.val (.int (aHt (aHv L row)))
theorem wR{f g:Nat->Int}:∀n,(∀i,i<n->f i=g i)->preSum f n=preSum g n
 |0,_=>rfl
 |n+1,h=>by show preSum f n+f n=preSum g n+g n;rw[wR n λi hi=>h i (by omega),h n (by omega)]
theorem aEl(l:List Int)(x:Int):aHt (l++[x])=aHt l+x:=by unfold aHt;rw[aP];show preSum _ l.length+_=_;rw[wR (g:=λi=>l.getD i 0) l.length λi hi=>by simp[cA,cT hi]];simp[cA]
mutual
theorem xI:∀d:D,pl d=true->deq d d=true
 |.non,_=>rfl
 |.bl b,_=>by simp[deq]
 |.int i,_=>by simp[deq]
 |.str x,_=>by simp[deq]
 |.tup ds,h=>by simp only[deq];exact nI ds (by simpa only[pl] using h)
 |.lst ds,h=>by simp only[deq];exact nI ds (by simpa only[pl] using h)
 |.dic,h=>by simp[pl] at h
 |.dki _ _,h=>by simp[pl] at h
 |.any _,h=>by simp[pl] at h
 |.scr _,h=>by simp[pl] at h
theorem nI:∀ds:List D,plL ds=true->kA ds ds=true
 |[],_=>rfl
 |d::ds,h=>by simp only[plL,bH] at h;simp only[kA,bH];exact⟨xI d h.1,nI ds h.2⟩
end
theorem aKy{row:List Nat}{k:Nat}{d:D}(h:(bM row)[k]? =some d):k<row.length/\d=.int ((row.getD k 0:Nat):Int):=by
 unfold bM at h;rw[aQ] at h;cases e:row[k]? with
 |none=>rw[e] at h;cases h
 |some z=>rw[e] at h;refine⟨(aE.mp e).1, ?_⟩;rw[<-cF.inj h,cA,e];rfl
theorem aHH{L:List SK}{t:Nat}(h:t<L.length):(L.map skD)[t]? =some (skD (L.getD t AN)):=by rw[aQ];simp[cA,h]
noncomputable def itO(tp:Bool)(l:BL):BO:=match tp with
 |true=>{cls:=.type "tuple_iterator",data:=.fields #[.ref l,.int 0 0]}
 |false=>{cls:=.type "list_iterator",data:=.fields #[.ref l,.int 0 0]}
noncomputable abbrev zA(p:Bool)(h:BN)(l:BL):BN:=h.push (itO p l)
noncomputable abbrev zB(p q:Bool)(h:BN)(l m:BL):BN:=(zA p h l).push (itO q m)
noncomputable abbrev zC(p q:Bool)(h:BN)(l m:BL):BN:=(zB p q h l m).push {cls:=.type "tuple",data:=.seq #[.ref h.objs.size,.ref (zA p h l).objs.size]}
noncomputable abbrev zD(p q:Bool)(h:BN)(l m:BL):BN:=(zC p q h l m).push {cls:=.type "tuple",data:=.seq #[.none,.none]}
noncomputable abbrev zE(p q:Bool)(h:BN)(l m:BL):BN:=(zD p q h l m).push {cls:=.type "zip",data:=.fields #[.none,.bool false,.bool false,.ref (zB p q h l m).objs.size,.ref (zC p q h l m).objs.size]}
theorem pM(L:List (List Int))(m:Nat):(L.flatMap λs=>(bP m).map λ(w:Nat)=>s++[(w:Int)]).length=L.length*m:=by
 induction L with
 |nil=>simp
 |cons s L ih=>rw[List.flatMap_cons,aP,ih,aB,jT,bS,aFt,Nat.add_comm]
theorem vH:∀ (m k:Nat),(jC m k).length=m^k
 |_,0=>rfl
 |m,k+1=>by show((jC m k).flatMap _).length=_;rw[pM,vH m k,aPe]
theorem vX:∀ (m k:Nat),∀s∈jC m k,s.length=k
 |_,0,s,h=>by
  have:s=[]:=by simpa[jC] using h
  subst this;rfl
 |m,k+1,s,h=>by obtain⟨t,ht,hs⟩:=dO.mp h;obtain⟨w,_,rfl⟩:=aN.mp hs;rw[aP,vX m k t ht];rfl
theorem yV:∀p∈cJ,∀k,k<p.2.toNat->((2^p.1.toNat)^k)*2^p.1.toNat<=900:=by decide+kernel
noncomputable def tabQ(p:Int×Int)(L:List SK)(row:List Nat):List (List Int):=(jC (2^p.1.toNat) p.2.toNat).map λws=>aNC p L row ws
theorem lU{p:Int×Int}(hp:p∈cJ):(jC (2^p.1.toNat) p.2.toNat).length<=64:=by
 have:∀p∈cJ,(2^p.1.toNat)^p.2.toNat<=64:=by decide+kernel
 rw[vH];exact this p hp
theorem aBI{L:List (List Int)}{d:D}(h:d∈L.map bJ):∃ws∈L,d=bJ ws:=by obtain⟨ws,hw,rfl⟩:=aN.mp h;exact⟨ws,hw,rfl⟩
noncomputable def qQ:D->List Int
 |.tup ds=>ds.map λd=>match d with | .int i=>i|_=>0
 |_=>[]
theorem oF(ws:List Int):qQ (bJ ws)=ws:=by
 show(ws.map D.int).map _=ws;rw[bA]
 induction ws with
 |nil=>rfl
 |cons w ws ih=>rw[bC,ih];rfl
section
variable {X:Cx}{sd:List Slot}{e a b c tg iter o:Expr}{es:List Expr}{pos:Pos}{r ra rb:R}{d:D}{ds:List D}{st:BP}{rest:List BP}{E:kR}
noncomputable def isN:D->Bool
 |.non=>true
 |_=>false
theorem aJw{K:aA}{H:Hp}{d:D}{v:V}(h:Rep K H d v):decide (v=.non)=isN d:=by
 cases d with
 |non=>simp only[Rep] at h;subst h;rfl
 |bl=>simp only[Rep] at h;subst h;rfl
 |int=>simp only[Rep] at h;subst h;rfl
 |str=>simp only[Rep] at h;subst h;rfl
 |tup=>simp only[Rep] at h;obtain⟨a,xs,rfl,_⟩:=h;rfl
 |lst=>simp only[Rep] at h;obtain⟨a,xs,rfl,_⟩:=h;rfl
 |dic=>simp only[Rep] at h;obtain⟨a,rfl,_⟩:=h;rfl
 |dki=>simp only[Rep] at h;obtain⟨a,xs,rfl,_⟩:=h;rfl
 |any=>simp only[Rep] at h;obtain⟨⟨a,rfl⟩,_⟩:=h;rfl
 |scr=>simp only[Rep] at h;obtain⟨a,rfl,_⟩:=h;rfl
theorem aDt(ha:PEd X sd a (.val d))(hb:PEd X sd b (.val .non)):PTd X sd (.Compare a [.Is] [b] pos) (isN d):=
 nK aLO ha hb trivial (jI _) λσ F H v u Q S q1 q2 k=>by simp only[ResOk,Rep] at q2;have q1:Rep _ _ _ _:=q1;exact⟨q2,by rw[aJw q1];exact k F H S (Same.refl _)⟩
structure FunD(K:aA)(x qual:Str)(st:BP)(f:BL)(fd:AX):Prop where
 ex:∃ (oc:BJ) (od:Option BL) (T:BL) (kV doc pm:BJ) (an:Option BL) (cdv ct:BJ) (osl:Array (Option BJ)) (tc:BJ) (td:Option BL) (n:Nat) (tsl:Array (Option BJ)),
  fd=gK x qual (lH st) (iX st) (bI st) (.ref T) kV doc pm an cdv ct/\K.lookup f=some ⟨oc,od,.func fd,osl⟩/\kX K cdv qual=true/\K.lookup T=some ⟨tc,td,.seq #[.none] n,tsl⟩
 kp:eM K (.ref f)=true
structure aOw(P:AD)(w:AM)(K:aA)(mg:Str->Option BJ)(base:BN)(x:Str)(k n:Nat)(C:List D->R->Prop):Prop where
 ex:∃ (f:BL) (fd:AX) (ps:List Str),mg x=some (.ref f)/\eM K (.ref f)=true/\Binds K fd ps []/\Binds K fd ps [.none]/\FnOk P w K mg base CX0 k f fd ps (spC K n C)
end
theorem aCG{u d n c:Nat}(h:u+n<c)(hd:d+1<=n):u+d+1<c:=by omega
noncomputable def dH(p:Int×Int):List (List Int):=jC (2^p.1.toNat) p.2.toNat
structure TabOk(p:Int×Int)(T:List (List Int)):Prop where
 len:T.length=(dH p).length
 fil:∀ws∈T,Fil p ws
theorem aJK{V:List (List Int)}{k:Nat}(h:k<V.length):(V.map bJ)[k]? =some (bJ (V.getD k [])):=by simp[cA,h]
theorem yS{α:Type}{L:List α}{k:Nat}(d:α)(h:k<L.length):L.take (k+1)=L.take k++[L.getD k d]:=by rw[eZ];simp[cA,h]
section
variable {X:Cx}{sd:List Slot}{e a b c tg iter o:Expr}{es:List Expr}{pos:Pos}{r ra rb:R}{d:D}{ds:List D}{st:BP}{rest:List BP}{E:kR}
theorem aES(d:D)(ds:List D)(p1:pl d=true)(p2:plL ds=true)(hu:X.A.units+1+jP ds<AO):OpR X (AT .NotIn) (λx y H Q=>Rep X.K H (.lst ds) y/\Rep X.K H d x/\Q (.bl (!ds.any λz=>deq z d)) H):=by
 intro pins s σ H x y v u Q I rx ry h;obtain⟨hl,hd,k⟩:=h;obtain⟨a,xs,its,rfl,rfl,rl,rv,ht⟩:=lM I.hok hl ry
 have hat:∀ (j:Nat) (w:BJ),its[j]? =some w->∃z v,ds[j]? =some z/\xs[j]? =some v/\Rep X.K H z v/\RelV v w:=λj w hw=>by
  have hj:j<its.length:=(aE.mp hw).1;have hx:j<xs.length:=by rw[Vals.length rv];exact hj
  have hd:j<ds.length:=by rw[<-rl.len];exact hx
  obtain⟨v,hv,rz⟩:=rl.get (i:=j) (d:=ds[j]) (by simp[hd])
  exact ⟨ds[j],v,by simp [hd],hv,rz,by
   have:=rv.get hv;obtain⟨w',hw',r⟩:=this;rw[hw] at hw';cases hw'
   exact r⟩
 have dc:=λw:BJ=>Classical.propDecidable (∃ (j:Nat) (z:D),its[j]? =some w/\ds[j]? =some z/\deq z d=true)
 refine SeqAt.notIn_listAt (λw=> @decide _ (dc w)) ht (λw hw=> ?_) ⟨.bl _,H,I,rfl, ?_⟩
 ·by_cases q:∃ (j:Nat) (z:D),its[j]? =some w/\ds[j]? =some z/\deq z d=true
  ·obtain⟨j,z,e1,e2,e3⟩:=q;obtain⟨z',v,f1,f2,f3,f4⟩:=hat j w e1;rw[e2] at f1;cases f1;have: @decide _ (dc w)=true:=by rw[decide_eq_true_eq];exact⟨j,z,e1,e2,e3⟩
   rw[this,<-e3];exact aAV I.hok z (zS p2 e2) p1 f3 hd f4 rx (by have:=xJ e2;show X.A.units+1+dep z<AO;omega)
  ·have hw':w∈its:=by simpa using hw
   obtain⟨j,hj,rfl⟩:=cV hw';obtain⟨z,v,f1,f2,f3,f4⟩:=hat j its[j] (by simp[hj])
   have e3:deq z d=false:=by
    cases h:deq z d with
    |false=>rfl
    |true=>exact(q ⟨j,z,by simp[hj],f1,h⟩).elim
   have: @decide _ (dc its[j])=false:=by rw[decide_eq_false_iff_not];exact q
   rw[this,<-e3];exact aAV I.hok z (zS p2 f1) p1 f3 hd f4 rx (by have:=xJ f1;show X.A.units+1+dep z<AO;omega)
 ·have e:its.toArray.any (λw=> @decide _ (dc w))=ds.any λz=>deq z d:=by
   rw[iL,List.any_toArray,gL,gL]
   constructor
   ·rintro⟨w,hw,q⟩;rw[decide_eq_true_eq] at q;obtain⟨j,z,e1,e2,e3⟩:=q;exact⟨z,aO e2,e3⟩
   ·rintro⟨z,hz,e3⟩;obtain⟨j,hj,rfl⟩:=cV hz;have hi:j<its.length:=by rw[<-Vals.length rv,rl.len];exact hj
    exact⟨its[j],iT hi,by rw[decide_eq_true_eq];exact⟨j,ds[j],by simp[hi],by simp[hj],e3⟩⟩
  rw[e];exact k
theorem aGv(ha:PEd X sd a (.val d))(hb:PEd X sd b (.val (.lst ds)))(p1:pl d=true)(p2:plL ds=true)(hu:X.A.units+1+jP ds<AO)(hk:AV .NotIn b=false:=by with_unfolding_all rfl):PTd X sd (.Compare a [.NotIn] [b] pos) (!ds.any λz=>deq z d):=
 nK (aES d ds p1 p2 hu) ha hb trivial hk λσ F H x u Q S q1 q2 k=>⟨Rep.mono S.sub q2,Rep.mono S.sub q1,k F H S (Same.refl _)⟩
end
theorem aMd{τ:List Nat}{b:Nat}(h:b<τ.length):(bM τ)[b]? =some (.int ((τ.getD b 0:Nat):Int)):=by unfold bM;rw[aQ];simp[cA,h]
section
variable {X:Cx}{sd:List Slot}{b:Expr}{pos:Pos}
theorem aAs{k:Nat}{q:Nat}{p:Pos}(hb:PEd X sd b (.val (.int (k:Int))))(hk:k<=1000):PEd X sd (.BinOp (.Constant (.int 1) q p) .LShift b pos) (.val (.int ((2^k:Nat):Int))):=
 PEd.ic (dM aIm bE hb ⟨by omega,by omega,by decide⟩) (by rw[Int.one_mul,fE];push_cast;rfl)
end
noncomputable def byT(w:AM):Bool:=w.params.followText "set-order"
noncomputable def insK(k:Nat)(ks:List Nat):List Nat:=ks.filter (λi=>decide (i<k))++k::ks.filter (λi=>decide (k<i))
noncomputable def aOT(led:Bool)(m mv:Nat)(ks:List Nat):BR:={mask:=m,place:=ks.toArray,dummies:= #[],finger:=0,led:=led,moves:=mv,plain:=true}
noncomputable def aOW(led:Bool)(ks:List Nat):BR:=if ks.length<5 then aOT led 7 0 ks else aOT led 31 1 ks
structure SmS(w:AM)(o:BO)(ks:List Nat):Prop where
 ex:∃ (es:List (Int×BJ)) (ep:Nat),o={cls:=.type "set",dict:=none,data:=.set es.toArray ep (aOW (!byT w) ks)}/\es.map (·.1)=ks.map Int.ofNat/\∀e∈es,∃t,e.2=.int e.1 t
noncomputable def aDf:List Nat->List Nat->List Nat
 |ks,[]=>ks
 |ks,v::vs=>aDf (insK v ks) vs
section
variable {prog:AD}{w:AM}{A:BM}{s:BK}
noncomputable abbrev set0(w:AM):BO:={cls:=.type "set",dict:=none,data:=.set #[] 0 (aOW (!byT w) [])}
end
noncomputable def rdQ(q:SQ):List Nat:=if q.1=6 then[] else if q.1=5 then[q.2.2.1.toNat] else if 7<=q.1 then[q.2.1.toNat] else aDf [] [q.2.1.toNat,q.2.2.1.toNat]
noncomputable def ahQ(q:SQ)(bs:List Nat):List Nat:=if bs.contains q.2.1.toNat then aDf [] (bs.filter (λb=> !decide (b=q.2.1.toNat))++rdQ q) else bs
noncomputable def bqQ(L:List SK)(look:List Nat):List Nat->List Nat
 |[]=>look
 |t::row=>ahQ (L.getD t AN).1 (bqQ L look row)
noncomputable def prQ(L:List SK)(look:List Nat):List Nat->List Nat
 |[]=>[]
 |t::row=>if(bqQ L look row).contains (L.getD t AN).1.2.1.toNat then t::prQ L look row else prQ L look row
def gV(K:aA)(F0:Hp)(d:D):V->Hp->Prop:=λv F=>Rep K F0 d v/\Same F0 F
theorem xD:∀ {sd:List Slot}{i:Nat}{z:Slot},(cH sd).Nodup->sd[i]? =some z->(iN z).Nodup
 |[],_,_,_,e=>by simp at e
 |y::zs,0,z,h,e=>by
  have:y=z:=by simpa using e
  subst this;exact(bF.mp (show(iN y++cH zs).Nodup from h)).1
 |y::zs,i+1,z,h,e=>xD (sd:=zs) (i:=i) (bF.mp (show(iN y++cH zs).Nodup from h)).2.1 (by simpa using e)
section
variable {K:aA}{H₀ F F' H H':Hp}{σ:St}{sd:List Slot}{i:Nat}{l:BL}{ls:List BL}{nss:List (List Int)}
theorem StF.reX{z z':Slot}{o:Option V}(S:StF K H₀ F H σ sd)(hs:sd[i]? =some z)(ho:σ[i]? =some o)(keep:∀b ob,b∉iN z->H b=some ob->H' b=some ob)(sm:Smp H')(q:iZ K F H' z' o)(nd:(iN z').Nodup)(no:∀a∈iN z',a∈iN z\/a∉cH sd):StF K H₀ F H' σ (sd.set i z'):=by
 have S0:=S.le (iG sd i);have mz:∀a∈iN z,a∈cH sd:=λa ha=>dO.mpr ⟨z,aO hs,ha⟩
 refine⟨S.base,λb u e=> ?_,sm, ?_, ?_⟩
 ·refine keep b u (λhb=> ?_) (S.sub _ _ e);have:=(S.slots.owns (mz b hb)).1;rw[e] at this;cases this
 ·have q1:SlotsOk K F H' (sd.set i .un) σ:=S0.slots.mono (Same.refl _) λa ha=>⟨(S0.slots.owns ha).1,λob e=>keep a ob (λhb=>jB S.nd hs hb ha) e⟩
  have q2:=q1.set (z:=z') (o:=o) q i;rw[jY,lJ ho] at q2;exact q2
 ·have:=lF (z:=z') i S0.nd (fun a ha=>by
   rcases no a ha with h|h
   ·exact .inl (jB S.nd hs h)
   ·exact .inl λhm=>h ((iG sd i).own.subset hm)) nd
  rw[jY] at this;exact this.1
noncomputable def inF(F H:Hp)(as:List BL):Hp:=λb=>if b∈as then H b else F b
theorem aDi{as:List BL}{b:BL}(h:b∈as):inF F H as b=H b:=if_pos h
theorem aAZ{as:List BL}{b:BL}(h:b∉as):inF F H as b=F b:=if_neg h
theorem aKn{as:List BL}(h:∀a∈as,F a=none):Same F (inF F H as):=λb u e=>by rw[aAZ (λhb=>by rw[h b hb] at e;cases e)];exact e
theorem StF.inN(S:StF K H₀ F H σ sd)(h0:∀a∈l::ls,F a=none)(no:∀a∈l::ls,a∉cH sd):StF K H₀ (inF F H (l::ls)) H σ sd/\Same F (inF F H (l::ls)):=by
 have s1:=aKn (H:=H) h0;refine⟨⟨λb u e=>s1 _ _ (S.base _ _ e),λb u e=> ?_,S.smp,S.slots.mono s1 λa ha=>⟨?_,λob e=>e⟩,S.nd⟩,s1⟩
 ·by_cases h:b∈l::ls
  ·rw[aDi h] at e;exact e
  ·rw[aAZ h] at e;exact S.sub _ _ e
 ·rw[aAZ (λhb=>no a hb ha)];exact(S.slots.owns ha).1
end
section
variable {X:Cx}{sd:List Slot}{e a b c tg iter o:Expr}{es:List Expr}{pos:Pos}{r ra rb:R}{d:D}{ds:List D}{st:BP}{rest:List BP}{E:kR}{l:BL}{ls:List BL}{nss:List (List Int)}{ns:List Int}
theorem aJc{H:Hp}{xs:List V}(h:Smp H)(a:BL):Smp (upd H a (.lst xs)):=λb u e=>by
 by_cases z:b=a
 ·subst z;rw[bV] at e;cases e;trivial
 ·rw[bK z] at e;exact h _ _ e
end
noncomputable def InD(K:aA)(F H:Hp):List BL->List (List D)->Prop
 |[],[]=>True
 |a::as,ds::dss=>(∃xs,H a=some (.lst xs)/\RepL K F ds xs)/\InD K F H as dss
 |_,_=>False
section
variable {K:aA}{F F' H H':Hp}
theorem InD.len:∀ {as:List BL}{dss:List (List D)},InD K F H as dss->as.length=dss.length
 |[],[],_=>rfl
 |[],_::_,h=>h.elim
 |_::_,[],h=>h.elim
 |_::as,_::dss,h=>by rw[bS,bS,InD.len h.2]
theorem InD.of:∀ {as:List BL}{dss:List (List D)},InD K F H as dss->∀a∈as,∃xs,H a=some (.lst xs)
 |[],[],_,a,ha=>by cases ha
 |[],_::_,h,_,_=>h.elim
 |_::_,[],h,_,_=>h.elim
 |b::as,_::dss,h,a,ha=>by
  rcases aX.mp ha with rfl|ha
  ·exact⟨h.1.choose,h.1.choose_spec.1⟩
  ·exact InD.of h.2 a ha
end
def GD(K:aA)(l:BL)(ls:List BL)(dss:List (List D)):V->Hp->Hp->Prop:=λv F H=>v=.ref l/\H l=some (.lst (ls.map V.ref))/\InD K F H ls dss
section
variable {K:aA}{H₀ F F' H H':Hp}{σ:St}{sd:List Slot}{i:Nat}{l:BL}{ls:List BL}{dss:List (List D)}
theorem InD.mono2:∀ {as:List BL}{dss:List (List D)},InD K F H as dss->Same F F'->(∀a∈as,∀ob,H a=some ob->H' a=some ob)->InD K F' H' as dss
 |[],[],_,_,_=>trivial
 |[],_::_,h,_,_=>h.elim
 |_::_,[],h,_,_=>h.elim
 |a::as,_::dss,h,s,k=>by obtain⟨⟨xs,e,r⟩,h2⟩:=h;exact⟨⟨xs,k a aH _ e,r.mono s⟩,InD.mono2 h2 s λb hb=>k b (aF _ hb)⟩
theorem InD.get:∀ {as:List BL}{dss:List (List D)}{t:Nat}{a:BL},InD K F H as dss->as[t]? =some a->∃ds xs,dss[t]? =some ds/\H a=some (.lst xs)/\RepL K F ds xs
 |[],[],t,a,_,e=>by simp at e
 |[],_::_,_,_,h,_=>h.elim
 |_::_,[],_,_,h,_=>h.elim
 |b::as,ds::dss,0,a,h,e=>by
  have:b=a:=by simpa using e
  subst this;obtain⟨⟨xs,e1,r⟩,_⟩:=h;exact⟨ds,xs,rfl,e1,r⟩
 |b::as,ds::dss,t+1,a,h,e=>by obtain⟨ms,xs,e1,e2⟩:=InD.get (t:=t) h.2 (by simpa using e);exact⟨ms,xs,by simpa using e1,e2⟩
theorem InD.set:∀ {as:List BL}{dss:List (List D)}{t:Nat}{a:BL}{es:List D}{ys:List V},as.Nodup->InD K F H as dss->as[t]? =some a->RepL K F es ys->InD K F (upd H a (.lst ys)) as (dss.set t es)
 |[],[],t,a,_,_,_,_,e,_=>by simp at e
 |[],_::_,_,_,_,_,_,h,_,_=>h.elim
 |_::_,[],_,_,_,_,_,h,_,_=>h.elim
 |b::as,ds::dss,0,a,es,ys,nd,h,e,r=>by
  have:b=a:=by simpa using e
  subst this;refine⟨⟨ys,bV,r⟩,h.2.mono2 (Same.refl _) λc hc ob q=> ?_⟩;rw[bK (show c≠b from λz=>(bG.mp nd).1 (z▸hc))];exact q
 |b::as,ds::dss,t+1,a,es,ys,nd,h,e,r=>by
  have e':as[t]? =some a:=by simpa using e
  obtain⟨⟨xs,e1,r1⟩,h2⟩:=h;refine⟨⟨xs, ?_,r1⟩,InD.set (bG.mp nd).2 h2 e' r⟩;rw[bK (show b≠a from λz=>(bG.mp nd).1 (z▸aO e'))];exact e1
end
theorem vV{α:Type}(f:α->D)(h:∀a,pl (f a)=true):∀l:List α,plL (l.map f)=true
 |[]=>rfl
 |a::l=>by show(pl (f a)&&plL (l.map f))=true;rw[h a,vV f h l];rfl
theorem tU{α:Type}(f:α->D)(n:Nat)(h:∀a,dep (f a)<=n):∀l:List α,jP (l.map f)<=n
 |[]=>bY _
 |a::l=>Nat.max_le.mpr ⟨h a,tU f n h l⟩
def WsOk(p:Int×Int)(o:Option (List (List Int))):Prop:=∀L,o=some L->0<L.length/\L.length<=100/\∀ws∈L,Fil p ws
structure aPb(p:Int×Int)(w:List (Option (List (List Int)))):Prop where
 len:w.length=(dH p).length
 ok:∀o∈w,WsOk p o
theorem pG:∀a:List Nat,plL (bM a)=true/\jP (bM a)=0
 |[]=>⟨rfl,rfl⟩
 |a::as=>by obtain⟨h1,h2⟩:=pG as;unfold bM at h1 h2 ⊢;simp only[bC,plL,jP,pl,dep,h1,h2];exact⟨rfl,rfl⟩
structure aPd(n:Nat)(τ:List Nat):Prop where
 len:τ.length=n
 lt:∀b∈τ,b<n
 mem:∀b,b<n->b∈τ
 nd:τ.Nodup
structure SqN(n:Nat)(q:SQ):Prop where
 k10:q.1<10
 i0:0<=q.2.1/\q.2.1<n
 j0:0<=q.2.2.1/\q.2.2.1<n
theorem aGk(h:BN)(vs:List BJ)(out:Array BJ):(∀b x,h.get? b=some x->(sortedAll h vs out).get? b=some x)/\∃n,(sortedAll h vs out).get? (h.objs.size+1)=some (Ai "list" out n):=by
 have hsz:((h.push (Ai "list" #[] 0)).update h.objs.size (Obj.mapSeq (·++vs.toArray))).objs.size=h.objs.size+1:=by rw[pA,size_push']
 have hoL:(((h.push (Ai "list" #[] 0)).update h.objs.size (Obj.mapSeq (·++vs.toArray))).push (Ai "list" vs.toArray 0)).get? (h.objs.size+1)=some (Ai "list" vs.toArray 0):=by rw[<-hsz];exact bD _ rfl
 constructor
 ·intro b x g;have lt:=aU g;have n1:h.objs.size≠b:=λz=>absurd lt (by rw[z];exact fJ _)
  have n2:h.objs.size+1≠b:=λz=>absurd lt (by rw[<-z];exact aBP.mpr (kG _))
  unfold sortedAll sortedHeap;rw[dR _ _ n2];refine aI _ (aI _ ?_);rw[dR _ _ n2];refine aI _ ?_;rw[dR _ _ n1];exact aI _ g
 ·obtain⟨n1,g1⟩:∃n1,((((h.push (Ai "list" #[] 0)).update h.objs.size (Obj.mapSeq (·++vs.toArray))).push (Ai "list" vs.toArray 0)).update (h.objs.size+1) (Obj.mapSeq λ_=> #[])).get? (h.objs.size+1)=some (Ai "list" #[] n1):=⟨_,get?_update_seq hoL (λ_=> #[])⟩;exact⟨_,get?_update_seq (aI _ (aI _ g1)) (λ_=>out)⟩
noncomputable def exO(l:BL)(o:BO):HO:=.ext (λh=>h.get? l=some o)
theorem tW{P:AD}{w:AM}{H:Hp}{h:BN}{l:BL}{o:BO}(g:h.get? l=some o):ObjOk P w H h l (exO l o):=⟨g,⟨o,g⟩,λ_ _ q k=>k _ q⟩
def TDo(P:AD)(w:AM)(F:Hp)(l:BL)(o:BO)(kvs:List (List Key×V)):Prop:=
 kvs.length<=AL/\(l==AU)=false/\∃xs,KT F kvs xs/\∃es ep,o.ExactDict/\o.data=.dict es ep/\es.toList=xs.map (entryOfKey (AR (eO P w)))/\(xs.map (·.1)).Nodup
theorem TDo.mono{P:AD}{w:AM}{F F':Hp}{l:BL}{o:BO}{kvs:List (List Key×V)}(t:TDo P w F l o kvs)(s:Same F F'):TDo P w F' l o kvs:=by obtain⟨z,y,xs,r,q⟩:=t;exact⟨z,y,xs,r.keeps λb ys e=>s _ _ e,q⟩
theorem KT.all{P:AD}{w:AM}{H:Hp}{h:BN}(ok:HOk P w H h){l:List (List Key×V)}{m:List (List Key×BL×BJ)}(q:KT H l m):∀x∈m,(AR (eO P w)).is h x.1 x.2.1:=by
 induction q with
 |nil=>intro x hx;exact nomatch hx
 |@cons p q ps qs hq t ih=>
  intro x hx
  rcases aX.mp hx with e|hx
  ·subst e;exact oM ok (by rw[<-hq.1];exact hq.2.1)
  ·exact ih x hx
noncomputable def kD:Key->D
 |.inl i=>.int i
 |.inr x=>.str x
theorem pD{K:aA}{F:Hp}:∀ {k:List Key}{xs:List V},RepL K F (k.map kD) xs->xs=k.map kV
 |[],xs,r=>by simpa only[eY,RepL] using r
 |a::k,xs,r=>by
  rw[bC] at r;obtain⟨y,ys,rfl,q,rl⟩:=r.uncons;rw[pD rl,bC];congr 1;cases a with
  |inl i=>simp only[kD,Rep] at q;exact q
  |inr x=>simp only[kD,Rep] at q;exact q
def Gt(P:AD)(w:AM)(K:aA)(l:BL)(ks:List (List Key))(ds:List D):V->Hp->Hp->Prop:=λv F H=>v=.ref l/\∃o xs,H l=some (exO l o)/\(∀v,o.data≠ .cell v)/\RepL K F ds xs/\ks.length=ds.length/\TDo P w F l o (ks.zip xs)
theorem tZ{α β:Type}{xs:List α}{ys:List β}(h:xs.length=ys.length)(x:α)(y:β):(xs++[x]).zip (ys++[y])=xs.zip ys++[(x,y)]:=by rw[aKM h];rfl
theorem zM{ks:List (List Key)}{k:List Key}(hk:k∉ks):∀ {ks':List (List Key)}{xs:List V},(∀j∈ks',j∈ks)->gO (ks'.zip xs) k=none
 |[],_,_=>rfl
 |_::_,[],_=>rfl
 |j::js,x::xs,h=>by rw[eG,gM (p:=(j,x)) (k:=k) (λe=>hk ((show j=k from e)▸h j aH))];exact zM hk λi hi=>h i (aF _ hi)
theorem wV:∀ {sd:List Slot}{i:Nat}{z:Slot},(cH sd).Nodup->sd[i]? =some z->(iN z).Nodup
 |[],_,_,_,e=>by simp at e
 |y::zs,0,z,h,e=>by
  have:y=z:=by simpa using e
  subst this;exact(bF.mp (show(iN y++cH zs).Nodup from h)).1
 |y::zs,i+1,z,h,e=>wV (sd:=zs) (i:=i) (bF.mp (show(iN y++cH zs).Nodup from h)).2.1 (by simpa using e)
section
variable {K:aA}{H₀ F F' H H':Hp}{σ:St}{sd:List Slot}{i:Nat}{l:BL}{P:AD}{w:AM}{ks:List (List Key)}{ds:List D}
theorem StF.setT{as:List BL}{G:V->Hp->Hp->Prop}{v:V}(S:StF K H₀ F H σ sd)(i:Nat)(q:iZ K F H (.ox as G) (some v))(nd:as.Nodup)(no:∀a∈as,a∉cH sd):StF K H₀ F H (σ.set i (some v)) (sd.set i (.ox as G)):=
 ⟨S.base,S.sub,S.smp,S.slots.set (z:=.ox as G) q i,(lF (z:=.ox as G) i S.nd (λl e=>.inl (no l e)) nd).1⟩
theorem StF.reT{z z':Slot}{o:Option V}(S:StF K H₀ F H σ sd)(hs:sd[i]? =some z)(ho:σ[i]? =some o)(keep:∀b ob,b∉iN z->H b=some ob->H' b=some ob)(sm:Smp H')(q:iZ K F H' z' o)(nd:(iN z').Nodup)(no:∀a∈iN z',a∈iN z\/a∉cH sd):StF K H₀ F H' σ (sd.set i z'):=by
 have S0:=S.le (iG sd i);have mz:∀a∈iN z,a∈cH sd:=λa ha=>dO.mpr ⟨z,aO hs,ha⟩
 refine⟨S.base,λb u e=> ?_,sm, ?_, ?_⟩
 ·refine keep b u (λhb=> ?_) (S.sub _ _ e);have:=(S.slots.owns (mz b hb)).1;rw[e] at this;cases this
 ·have q1:SlotsOk K F H' (sd.set i .un) σ:=S0.slots.mono (Same.refl _) λa ha=>⟨(S0.slots.owns ha).1,λob e=>keep a ob (λhb=>jB S.nd hs hb ha) e⟩
  have q2:=q1.set (z:=z') (o:=o) q i;rw[jY,lJ ho] at q2;exact q2
 ·have:=lF (z:=z') i S0.nd (fun a ha=>by
   rcases no a ha with h|h
   ·exact .inl (jB S.nd hs h)
   ·exact .inl λhm=>h ((iG sd i).own.subset hm)) nd
  rw[jY] at this;exact this.1
theorem nN{o:BO}(h:Smp H)(a:BL):Smp (upd H a (exO a o)):=λb u e=>by
 by_cases z:b=a
 ·subst z;rw[bV] at e;cases e;trivial
 ·rw[bK z] at e;exact h _ _ e
end
section
variable {X:Cx}{sd:List Slot}{e a b c:Expr}{pos:Pos}{d:D}{ds:List D}{ks:List (List Key)}{k:List Key}{st:BP}{E:kR}{l:BL}
noncomputable def aFX:BO:={cls:=.type "dict",data:=.dict #[]}
theorem aBy:PE X (.Dict [] [] pos) (λ_ H Q=>∀p,H p=none->(p==AU)=false->Q (.ref p) (upd H p (exO p aFX))):=λpins s σ H Q I h=>wpAny_Dict_empty ⟨.ref s.heap.objs.size,_,I.laid (a:=s.heap.objs.size) (o:=exO s.heap.objs.size aFX) (t':=s.toks) (λ_ _ q=>aI _ q) (aM _) (tW (bD _ rfl)),rfl,h _ (I.hok.fresh (aM _)) (beq_eq_false_iff_ne.mpr (Ne.symm (bO I.big)))⟩
end
section
variable {prog:AD}{w:AM}{K:Type}[DecidableEq K]{knd:HeapKind prog w K}{A:BM}{E:BJ->BK->Prop}{s:BK}
theorem qF{d a:BL}{xs:List (K×BL×BJ)}{k:K}{v:BJ}{Q:BJ->BK->Prop}(hu:knd.room A)(hkey:knd.is s.heap k a)(hm:s.heap.DictOfH knd d xs)
  (hold:∀u,(atKey xs k).map (·.2)=some u->Q u {s with toks:=s.toks+knd.draws k})
  (hnew:atKey xs k=none->∀h',h'.DictOfH knd d (storedH xs k a v)->Heap.SameBut d s.heap h'->Q v {s with heap:=h',toks:=s.toks+knd.draws k})
  (hsz:xs.length<=AL):
  AK (AH prog w) A (dictSetDefault d (.ref a) v) Q E s:=by
 obtain⟨o,es,ep,ho,hc,hd,he,his,hn⟩:=hm;unfold dictSetDefault
 try with_reducible refine Af ?_
 refine AA (knd.pyHash hu hkey ?_);refine AA (wpAny_dictFind_heap (s:={s with toks:=s.toks+knd.draws k}) hu hkey ho hd he his hn ?_ ?_)
 ·intro hno;have hnot:k∉xs.map (·.1):=not_mem_keys_of_get hno
  refine AA (Aw (AA (wpAny_updateDictKeys (hz:=by have e:=Az he; omega) (s:={s with toks:=s.toks+knd.draws k}) ho hd (AB (hnew (atKey_none_of_get hno) _ ⟨_,_,ep+1,jQ _ ho (Obj.isFreed_of_dict (Obj.data_mapDictKeys hd _)),
   hc.mapDictKeys _,Obj.data_mapDictKeys hd _, ?_, ?_, ?_⟩ (Heap.SameBut.update ..))))))
  ·rw[storedH_new (atKey_none_of_get hno)];simp[he,entryOfKey]
  ·rw[storedH_new (atKey_none_of_get hno)];intro x hx
   rcases aY.mp hx with hx|hx
   ·exact knd.keeps (his x hx) ho hd (Heap.SameBut.update ..)
   ·simp only[aG] at hx;subst hx;exact knd.keeps hkey ho hd (Heap.SameBut.update ..)
  ·rw[storedH_new (atKey_none_of_get hno)];rw[aW,bF];refine⟨hn,by simp, ?_⟩;intro x hx y hy;simp only[bC,eY,aG] at hy;subst hy;exact λe=>hnot (e▸hx)
 ·intro j p hj;refine AA (Aa (s:={s with toks:=s.toks+knd.draws k}) ho hd ?_);rw[entry_at he j,hj];have:=hold p.2 (by rw[atKey_of_get hn hj];rfl);exact AA (Aw (AB this))
end
section
variable {prog:AD}{w:AM}{K:Type}[DecidableEq K](knd:HeapKind prog w K)(d a:BL)
theorem sC(hd:(d==AU)=false)(dflt:BJ):
  MeetsIn prog w (Builtin.«dict.setdefault» ⟨[.ref d, .ref a,dflt],[]⟩) (fun A R s=>knd.room A.in1∧∃k xs,knd.is s.heap k a∧s.heap.DictOfH knd d xs∧xs.length≤AL∧
   (∀u,(atKey xs k).map (·.2)=some u->R (.ok (.ret u)) {s with toks:=s.toks+knd.draws k})/\
   (atKey xs k=none->∀h',h'.DictOfH knd d (storedH xs k a dflt)->Heap.SameBut d s.heap h'->R (.ok (.ret dflt)) {s with heap:=h',toks:=s.toks+knd.draws k})):=
 .of_wp λA R s ⟨hu,k,xs,hkey,hm,hz,h1,h2⟩=>by unfold Builtin.«dict.setdefault»;refine AA ?_;unfold Builtin.Dict.keyAndDefault;refine AA (Ar hm.typeIs ?_);show AK _ _ (pure (d,Value.ref a,some dflt)) _ _ s;refine AB ?_;show AK _ _ (if(d==AU)=true then _ else(dictSetDefault d (.ref a) dflt>>=_)) _ _ s;rw[if_neg (by rw[hd];exact bN)];exact AA (qF (hsz:=hz) hu hkey hm (λv hv=>AB ⟨v,rfl,h1 v hv⟩) λhn h' hm' hs'=>AB ⟨dflt,rfl,h2 hn h' hm' hs'⟩)
end
section
variable {X:Cx}{o e:Expr}{es:List Expr}{to:TE}{t:TA}{name:Str}{apos cpos:Pos}{id:String}{r:V->List V->Hp->VK->Prop}
theorem aIK(pa:PlainAttrs "dict")(slot:PySem.Slot "dict" name id)(hty:typeOf (.builtin id)=pure (.type "method_descriptor"))(hm:MtR X id r)(ho:PE X o to)(ha:PA X (e::es) t)
  (hbase:BF o name X.env (eval o X.env)=eval o X.env:=by rfl)
  (hfew:((Au cpos (AG (e::es) X.env)).all (fun x=> !x.1) && (backToKw cpos (keywordEach [] X.env)).all (fun x=>x.1.isSome)
  &&decide ((e::es).length+([]:List Keyword).length+(if([]:List Keyword).isEmpty then 0 else 1)<30))=true:=by rfl)
  (hline:(apos.endLine==cpos.line)=true:=by rfl) (hs:AG (e::es) X.env=(false,eval e X.env)::AG es X.env:=by rfl) (hplain:(Au cpos (AG es X.env)).any (·.1)=false:=by rfl):
  PE X (.Call (.Attribute o name apos) (e::es) [] cpos) (λσ H Q=>to σ H λx H1=>(∃l ob,x=.ref l/\H1 l=some (exO l ob)/\ob.ExactDict)/\t σ H1 λxs H2=>r x xs H2 Q):=by
 intro pins s σ H Q I h;refine wpAny_Call_method_late hbase hfew hline rfl (thn (ho pins s σ H _ I h) λv s1 ⟨x,H1,I1,r1,⟨l,ob,e1,e2,e3⟩,q1⟩=> ?_);subst e1;obtain rfl:v=Value.ref l:=r1;have hg:s1.heap.get? l=some ob:=(I1.hok l _ e2).1;refine⟨"dict",id,pa,slot,hty,⟨ob,hg,e3.1⟩,λa q=> ?_, ?_⟩
 ·cases q;exact⟨ob,hg,e3.2.1⟩
 have hA:=ha cpos pins s1 σ H1 _ I1 q1;rw[hs] at hA ⊢;refine Calls.callWith_builtin (by show(false||(Au cpos (AG es X.env)).any (·.1))=false;rw[hplain]<;>rfl) (Calls.evalArgs_plain ?_);exact thn hA λus s2 ⟨vs,H2,I2,r2,q2⟩=>hm pins s2 σ H2 (.ref l) vs (.ref l) us Q I2 rfl r2 q2
def rSD(X:Cx):V->List V->Hp->VK->Prop:=λx vs H Q=>∃ (F:Hp) (l ad:BL) (k:List Key) (y:V) (o:BO) (kvs:List (List Key×V)),x=.ref l/\vs=[.ref ad,y]/\Same F H/\H l=some (exO l o)/\F ad=some (.tup (k.map kV))/\X.A.units+1<AO/\
 TDo X.prog X.w F l o kvs/\kvs.length+1<=AL/\(∀z,gO kvs k=some z->Q z H)/\(gO kvs k=none->∀o',(∀v,o'.data≠ .cell v)->TDo X.prog X.w F l o' (kvs++[(k,y)])->Q y (upd H l (exO l o')))
theorem aOh:MtR X "dict.setdefault" (rSD X):=by
 intro pins s σ H x vs v us Q I rx rv h;obtain⟨F,l,ad,k,y,o,kvs,rfl,rfl,sF,hl,ha,hu,⟨z,hm,ts,kt,es,ep,t1,t2,t3,t4⟩,hz1,q1,q2⟩:=h;obtain rfl:v=Value.ref l:=rx;cases rv with
 |cons r1 rv=>
  obtain⟨u,rfl,ru⟩:=Vals.one rv;rename_i b;obtain rfl:b=Value.ref ad:=r1;have ho:s.heap.get? l=some o:=(I.hok l _ hl).1;have ktH:KT H kvs ts:=kt.keeps λb ys e=>sF _ _ e
  have dd:s.heap.DictOfH (AR (eO X.prog X.w)) l ts:=⟨o,es,ep,ho,t1,t2,t3,KT.all I.hok ktH,t4⟩;have hz:ts.length<=AL:=by rw[<-Paired.length kt];exact z
  refine Av jD dd.typeIs uL (uD _ _ _) (sC (AR (eO X.prog X.w)) l ad hm u) ⟨Aq hu,k,ts,oM I.hok (sF _ _ ha),dd,hz,λw' hw=> ?_,λhn h' dd' hsm=> ?_⟩
  ·have rl:=ktH.val k;rw[hw] at rl;cases hv:gO kvs k with
   |none=>rw[hv] at rl;cases rl
   |some z'=>rw[hv] at rl;exact⟨z',H,I.tok _,rl,q1 z' hv⟩
  ·have hn':gO kvs k=none:=by
    have rl:=ktH.val k;rw[hn] at rl;cases hv:gO kvs k with
    |none=>rfl
    |some z'=>rw[hv] at rl;cases rl
   obtain⟨q,es',ep',hq,u2,u3,u4,_,u5⟩:=dd';have I4:=oO (t':=s.toks+(AR (eO X.prog X.w)).draws k) I (ob:=exO l q) (by rw[hl];exact True.intro) hsm ⟨q,hq⟩ (tW hq);have kt':=kt.put k ha ru;rw[pN y hn'] at kt';exact⟨y,_,I4,ru,q2 hn' q (λv z=>by rw[u3] at z;cases z) ⟨by rw[aP];exact hz1,hm,_,kt',es',ep',u2,u3,u4,u5⟩⟩
end
def Gg(P:AD)(w:AM)(K:aA)(l:BL)(ks:List (List Key))(ls:List BL)(dss:List (List D)):V->Hp->Hp->Prop:=λv F H=>v=.ref l/\(∃o,H l=some (exO l o)/\(∀v,o.data≠ .cell v)/\ks.length=ls.length/\TDo P w F l o (ks.zip (ls.map V.ref)))/\InD K F H ls dss
noncomputable def odG(P:AD)(w:AM)(K:aA)(l:BL)(ks:List (List Key))(ls:List BL)(dss:List (List D)):Slot:=.ox (l::ls) (Gg P w K l ks ls dss)
theorem zL:∀ {ks:List (List Key)}{xs:List V}{k:List Key}{z:V},gO (ks.zip xs) k=some z->∃n:Nat,ks[n]? =some k/\xs[n]? =some z
 |[],_,_,_,h=>by cases h
 |_::_,[],_,_,h=>by cases h
 |j::js,y::ys,k,z,h=>by
  rw[eG] at h
  by_cases e:j=k
  ·rw[iH (p:=(j,y)) e] at h;exact⟨0,by simp[e],by simpa using h⟩
  ·rw[gM (p:=(j,y)) (k:=k) e] at h;obtain⟨n,h1,h2⟩:=zL h;exact⟨n+1,by simpa using h1,by simpa using h2⟩
theorem aDw:∀ {ks:List (List Key)}{xs:List V}{k:List Key},ks.length=xs.length->gO (ks.zip xs) k=none->k∉ks
 |[],_,_,_,_=>by simp
 |_::_,[],_,h,_=>by cases h
 |j::js,y::ys,k,hl,h=>by
  rw[eG] at h
  by_cases e:j=k
  ·rw[iH (p:=(j,y)) e] at h;cases h
  ·rw[gM (p:=(j,y)) (k:=k) e] at h;have:=aDw (aOA.inj hl) h;exact λhm=>(aX.mp hm).elim (λq=>e q.symm) this
theorem yJ{sd:List Slot}{i:Nat}{z:Slot}(h:sd[i]? =some z):sd.set i z=sd:=by obtain⟨hi,e⟩:=aE.mp h;rw[<-e,aCC]
section
variable {K:aA}{H₀ F F' H H':Hp}{σ:St}{sd:List Slot}{i:Nat}{l:BL}{ls:List BL}{dss:List (List D)}{P:AD}{w:AM}{ks:List (List Key)}
theorem jL(S:StF K H₀ F H σ sd)(hs:sd[i]? =some (odG P w K l ks ls dss)):σ[i]? =some (some (.ref l))/\(∀a∈l::ls,F a=none)/\(∃o,H l=some (exO l o)/\(∀v,o.data≠ .cell v)/\ks.length=ls.length/\TDo P w F l o (ks.zip (ls.map V.ref)))/\InD K F H ls dss/\(l::ls).Nodup:=by
 obtain⟨o,h1,v,h2,h3,h4⟩:=S.slots.get hs;obtain⟨e,q1,q2⟩:=h4 F H (Same.refl _) λ_ _ _ q=>q
 subst e h2;exact⟨h1,λa ha=>(h3 a ha).1,q1,q2,xD S.nd hs⟩
theorem xH{o:BO}(hF:∀a∈l::ls,F a=none)(h1:H l=some (exO l o))(nc:∀v,o.data≠ .cell v)(hl:ks.length=ls.length)(t:TDo P w F l o (ks.zip (ls.map V.ref)))(h2:InD K F H ls dss):iZ K F H (odG P w K l ks ls dss) (some (.ref l)):=by
 refine⟨.ref l,rfl,λa ha=>⟨hF a ha, ?_⟩,λF' H' s k=>⟨rfl,⟨o,k _ aH _ h1,nc,hl,t.mono s⟩,h2.mono2 s λa ha=>k a (aF _ ha)⟩⟩
 rcases aX.mp ha with rfl|ha
 ·exact⟨_,h1,o,rfl,nc⟩
 ·obtain⟨xs,e⟩:=h2.of a ha;exact⟨.lst xs,e,trivial⟩
theorem StF.wrG{t:Nat}{a:BL}{es:List D}{ys:List V}(S:StF K H₀ F H σ sd)(hs:sd[i]? =some (odG P w K l ks ls dss))(ht:ls[t]? =some a)(r:RepL K F es ys):StF K H₀ F (upd H a (.lst ys)) σ (sd.set i (odG P w K l ks ls (dss.set t es))):=by
 obtain⟨g1,g2,⟨o,g3,nc,hl,td⟩,g4,g5⟩:=jL S hs;obtain⟨n1,n2⟩:=bG.mp g5;have ma:=aO ht
 refine S.reX (z':=odG P w K l ks ls (dss.set t es)) hs g1 (fun b ob hb q=> ?_) (aJc S.smp a) (xH g2 (by
  rw[bK (show l≠a from λz=>n1 (z▸ma))]
  exact g3) nc hl td (g4.set n2 ht r)) g5 λb hb=>.inl hb
 rw[bK (show b≠a from λz=>hb (z▸aF _ ma))];exact q
theorem InD.snoc{a:BL}:∀ {as:List BL}{dss:List (List D)},InD K F H as dss->H a=some (.lst [])->InD K F H (as++[a]) (dss++[[]])
 |[],[],_,e=>⟨⟨[],e,.nil⟩,trivial⟩
 |[],_::_,h,_=>h.elim
 |_::_,[],h,_=>h.elim
 |_::_,_::_,h,e=>⟨h.1,InD.snoc h.2 e⟩
theorem StF.newG{a:BL}{o:BO}{k:List Key}(S:StF K H₀ F H σ sd)(hs:sd[i]? =some (odG P w K l ks ls dss))(fa:F a=none)(ha:H a=some (.lst []))(na:a∉cH sd)(nc:∀v,o.data≠ .cell v)(td:TDo P w F l o (ks.zip (ls.map V.ref)++[(k,.ref a)])):
  StF K H₀ F (upd H l (exO l o)) σ (sd.set i (odG P w K l (ks++[k]) (ls++[a]) (dss++[[]]))):=by
 obtain⟨g1,g2,⟨o',g3,nc',hl,_⟩,g4,g5⟩:=jL S hs;obtain⟨n1,n2⟩:=bG.mp g5;have ml:∀b∈l::ls,b∈cH sd:=λb hb=>dO.mpr ⟨_,aO hs,hb⟩
 have al:a≠l:=λz=>na (z▸ml l aH)
 have als:a∉ls:=λz=>na (ml a (aF _ z))
 have sp:∀b,b∈l::(ls++[a])->b∈l::ls\/b=a:=λb hb=>by
  rcases aX.mp hb with h|h
  ·exact .inl (h▸aH)
  ·rcases aY.mp h with h|h
   ·exact .inl (aF _ h)
   ·exact .inr (aG.mp h)
 refine S.reX (z':=odG P w K l (ks++[k]) (ls++[a]) (dss++[[]])) hs g1 (λb ob hb q=> ?_) (nN S.smp l) (xH (λb hb=> ?_) bV nc (by rw[aP,aP,hl];rfl) ?_ ?_) ?_ λb hb=> ?_
 ·rw[bK (show b≠l from λz=>hb (z▸aH))];exact q
 ·rcases sp b hb with h|rfl
  ·exact g2 b h
  ·exact fa
 ·rw[aW,bC,eY,tZ (by rw[aB];exact hl)];exact td
 ·refine InD.snoc (g4.mono2 (Same.refl _) λb hb ob q=> ?_) ?_
  ·rw[bK (show b≠l from λz=>n1 (z▸hb))];exact q
  ·rw[bK al];exact ha
 ·show(l::(ls++[a])).Nodup;refine bG.mpr ⟨λh=> ?_,bF.mpr ⟨n2,by simp,λb hb c hc e=>als (aG.mp hc▸e▸hb)⟩⟩
  rcases aY.mp h with h|h
  ·exact n1 h
  ·exact al (aG.mp h).symm
 ·rcases sp b hb with h|rfl
  ·exact .inl h
  ·exact .inr na
end
section
variable {X:Cx}{sd:List Slot}{e a b c:Expr}{pos:Pos}{d:D}{ds:List D}{ks:List (List Key)}{k:List Key}{st:BP}{E:kR}{l:BL}{ls:List BL}{dss:List (List D)}
theorem aEm(i:Nat){x:Str}{p p2:Pos}(hN:X.N.Nodup)(hi:X.N[i]? =some x)(hx:Loc X.env.scope x)(hE:∀l,E.nx (sd.set i (odG X.prog X.w X.K l [] [] [])))(hs:Ad (.Dict [] [] p2) (some (.Name x p)) pos.line X.env=pure false:=by rfl)
  (hf:X.fn x=true\/X.env.scope.names.lookup x=some .local:=by first|exact .inl rfl|exact .inr rfl|assumption):PSd1 X sd (.Assign [.Name x p] (.Dict [] [] p2) pos) E:=.mk λσ F H S=>
 (qR hN hi hx aBy hs hf).to λq hq hm=>by
  have fp:F q=none:=S.sub.free hq
  have no:q∉cH sd:=λhl=>by obtain⟨_,ob,h,_⟩:=S.slots.owns hl;rw[hq] at h;cases h
  have S1:StF X.K X.B₀ F (upd H q (exO q aFX)) σ sd:=by
   refine⟨S.base,λb u e=> ?_,nN S.smp q,S.slots.mono (Same.refl _) λl hl=> ?_,S.nd⟩
   ·rw[bK (cI e fp)];exact S.sub _ _ e
   ·obtain⟨n,ys,y,_⟩:=S.slots.owns hl;have hne:l≠q:=cI y hq;exact⟨n,λys e=>by rw[bK hne];exact e⟩
  refine⟨_,F,S1.setT i (xH (P:=X.prog) (w:=X.w) (K:=X.K) (ks:=[]) (ls:=[]) (dss:=[]) (λa ha=>by rw[aG.mp ha];exact fp) bV (λv z=>by cases z) rfl ⟨bY _,hm,[],.nil, #[],0,⟨rfl,rfl,rfl⟩,rfl,rfl,fH⟩ trivial) (by simp) λa ha=> ?_,Same.refl _,hE q⟩;rw[aG.mp ha];exact no
theorem aEZ(i:Nat){x:Str}{p ap1 cp1 p5 ap cp:Pos}(hu:X.A.units+1<AO)(hs:sd[i]? =some (odG X.prog X.w X.K l ks ls dss))(hx:PE X (.Name x p) (lG i))(hb:PEd X sd b (.val (.tup (k.map kD))))(h:∀z,PEd X (sd.set i z) e (.val d))(hl:dss.length<=1000)(hl2:∀ds∈dss,ds.length<=1000)
  (hE1:∀n ds,ks[n]? =some k->dss[n]? =some ds->E.nx (sd.set i (odG X.prog X.w X.K l ks ls (dss.set n (ds++[d])))))
  (hE2:k∉ks->∀a,E.nx (sd.set i (odG X.prog X.w X.K l (ks++[k]) (ls++[a]) (dss++[[d]]))))
  (hm:PE X (.Call (.Attribute (.Call (.Attribute (.Name x p) "setdefault" ap1) [b, .List [] p5] [] cp1) "append" ap) [e] [] cp)
   (tBM X.K "list" qB (λσ H Q=>lG i σ H λx H1=>(∃l ob,x=.ref l/\H1 l=some (exO l ob)/\ob.ExactDict)/\(lD (wE X b) (lD (wE X (.List [] p5)) uA)) σ H1 λxs H2=>rSD X x xs H2 Q) (lD (wE X e) uA)):=by exact zJ iR nD nE tM (aIK gT jD uV aOh (pv _) (fX fW (fX fW pa_nil))) (fX fW pa_nil))
  (hsw:Ad (.Call (.Attribute (.Call (.Attribute (.Name x p) "setdefault" ap1) [b, .List [] p5] [] cp1) "append" ap) [e] [] cp) none pos.line X.env=pure false:=by rfl):
  PSd1 X sd (.Expr (.Call (.Attribute (.Call (.Attribute (.Name x p) "setdefault" ap1) [b, .List [] p5] [] cp1) "append" ap) [e] [] cp) pos) E:=.mk λσ F H S=>
 (pW hm hsw).to (by
  obtain⟨h1,h2,⟨o,h3,nc,hk,td⟩,h4,h5⟩:=jL S hs;have il:i<sd.length:=(aE.mp hs).1
  have fin:∀ (F2 H2:Hp) (ks2:List (List Key)) (ls2:List BL) (dss2:List (List D)) (n:Nat) (ad:BL) (ds:List D),StF X.K X.B₀ F2 H2 σ (sd.set i (odG X.prog X.w X.K l ks2 ls2 dss2))->Same F F2->ls2[n]? =some ad->dss2[n]? =some ds->ds.length<=1000->E.nx (sd.set i (odG X.prog X.w X.K l ks2 ls2 (dss2.set n (ds++[d]))))->
    tyV X.K "list" (.ref ad) H2/\(lD (wE X e) uA) σ H2 λxs H3=>qB (.ref ad) xs H3 λ_ H4=>(lft X F E).nx σ H4:=λF2 H2 ks2 ls2 dss2 n ad ds S2 s2 hn hd hdl hE=>by
   have hs2:(sd.set i (odG X.prog X.w X.K l ks2 ls2 dss2))[i]? =some (odG X.prog X.w X.K l ks2 ls2 dss2):=jG il;obtain⟨g1,g2,_,g4,g5⟩:=jL S2 hs2;obtain⟨ds',xs,e1,e2,e3⟩:=g4.get hn;refine⟨.inl ⟨rfl,xs,.of e2⟩,(h _ σ F2 H2 S2).imp λv H3 ⟨F3,S3,s3,q3⟩=> ?_⟩;obtain⟨f1,f2,_,f4,f5⟩:=jL S3 hs2;obtain⟨ds3,xs3,u1,u2,u3⟩:=f4.get hn;rw[hd] at u1;cases u1;have W:=S3.wrG (es:=ds++[d]) (ys:=xs3++[v]) hs2 hn (u3.app (.one q3));rw[jY] at W;exact⟨ad,xs3,v,rfl,rfl,u2,by rw[u3.len] ;exact hV hdl,_,F3,W,s2.trans s3,hE⟩
  refine⟨.ref l,h1,⟨l,o,rfl,h3,td.2.2.choose_spec.2.choose_spec.choose_spec.1⟩,(hb σ F H S).imp λv1 H1 ⟨F1,S1,s1,q1⟩=>((iY (ds:=[]) aR (bY _):PEd X sd (.List [] p5) (.own [])) σ F1 H1 S1).imp λv2 H2 ⟨F2,S2,s2,q2⟩=> ?_⟩;obtain⟨g1,g2,⟨o2,g3,nc2,hk2,td2⟩,g4,g5⟩:=jL S2 hs;simp only[ResOk,Rep] at q1;obtain⟨ad,ys,rfl,ha,rl⟩:=q1;rw[pD rl] at ha;obtain⟨a,xs,rfl,fa,ha2,rl2,na⟩:=q2;have xn:xs=[]:=dJ (by rw[rl2.len];rfl);subst xn;have zl:(ks.zip (ls.map V.ref)).length=dss.length:=by rw[jO,aB,<-hk2,mM,hk2,g4.len]
  refine⟨F2,l,ad,k,.ref a,o2,ks.zip (ls.map V.ref),rfl,rfl,S2.sub,g3,s2 _ _ ha,hu,td2,by rw[zl];have:=hV hl;omega,λz hz=> ?_,λhz o' nc' td'=> ?_⟩
  ·obtain⟨n,e1,e2⟩:=zL hz;rw[aQ] at e2;obtain⟨an,e3,rfl⟩:=eE.mp e2;obtain⟨ds,xs,d1,d2,d3⟩:=g4.get e3;have S2':StF X.K X.B₀ F2 H2 σ (sd.set i (odG X.prog X.w X.K l ks ls dss)):=by rw[yJ hs];exact S2
   exact fin F2 H2 ks ls dss n an ds S2' (s1.trans s2) e3 d1 (hl2 ds (aO d1)) (hE1 n ds e1 d1)
  ·have S3:=S2.newG hs fa ha2 na nc' td';have hE:=hE2 (aDw (by rw[aB];exact hk2) hz) a;have en:(dss++[[]]).set dss.length ([]++[d])=dss++[[d]]:=by simp
   exact fin F2 _ (ks++[k]) (ls++[a]) (dss++[[]]) dss.length a [] S3 (s1.trans s2) (by rw[<-g4.len];simp) (by simp) (bY _) (by rw[en];exact hE))
end
section
variable {X:Cx}{sd:List Slot}{e a b c tg iter o:Expr}{es:List Expr}{pos:Pos}{r ra rb:R}{d:D}{ds:List D}{st:BP}{rest:List BP}{E:kR}
noncomputable def pF(n:Nat)(lo hi k:Option Int):List Nat:=sliceRange (Al lo hi k n).1 (Al lo hi k n).2.1 (Al lo hi k n).2.2
noncomputable def lW{α:Type}(l:List α)(lo hi k:Option Int):List α:=(pF l.length lo hi k).filterMap (l[·]?)
theorem aCv(n:Nat)(lo hi k:Option Int):(pF n lo hi k).length<=n:=by
 refine sliceRange_length_le _ _ _ _ (λhc=> ?_) λhc=> ?_<;>simp only[Al] at hc ⊢
 ·simp only[hc,if_true]
  constructor
  ·cases lo with
   |none=>simp
   |some i=>dsimp only;omega
  ·cases hi with
   |none=>simp
   |some i=>dsimp only;omega
 ·simp only[hc,if_false]
  constructor
  ·cases lo with
   |none=>simp
   |some i=>dsimp only;omega
  ·cases hi with
   |none=>simp
   |some i=>dsimp only;omega
theorem aEq{α:Type}(l:List α)(lo hi k:Option Int):(lW l lo hi k).length<=l.length:=cK (List.length_filterMap_le _ _) (aCv _ _ _ _)
theorem aEh{xs:List V}{us:List BJ}(r:Vals xs us)(lo hi k:Option Int):Vals (lW xs lo hi k) (lW us lo hi k):=by
 unfold lW;rw[r.length];generalize pF us.length lo hi k=is
 induction is with
 |nil=>exact .nil
 |cons i is ih=>
  rw[gZ,gZ];cases hx:xs[i]? with
  |none=>have hl:=aAg.mp hx;rw[gI (by rw[<-r.length];exact hl)];exact ih
  |some x=>obtain⟨u,hu,ru⟩:=r.get hx;rw[hu];exact .cons ru ih
theorem aGM{K:aA}{H:Hp}{ds:List D}{xs:List V}(r:RepL K H ds xs)(lo hi k:Option Int):RepL K H (lW ds lo hi k) (lW xs lo hi k):=by
 unfold lW;rw[r.len];generalize pF ds.length lo hi k=is
 induction is with
 |nil=>exact .nil
 |cons i is ih=>
  rw[gZ,gZ];cases hx:ds[i]? with
  |none=>have hl:=aAg.mp hx;rw[gI (l:=xs) (by rw[r.len];exact hl)];exact ih
  |some x=>obtain⟨u,hu,ru⟩:=r.get hx;rw[hu];exact .cons ru ih
theorem aAG(its:List BJ)(lo hi k:Option Int):slicePick its.toArray lo hi k=(lW its lo hi k).toArray:=by unfold slicePick lW pF;rw[aS];congr 1;refine congrFun (congrArg _ ?_) _;funext i;simp
theorem aEG{te:TE}{tl th ts:TO}{lo hi:Option Expr}{k:Expr}{p2:Pos}(he:PE X e te)(hl:PO X lo tl)(hu:PO X hi th)(hs:PO X (some k) ts):PE X (.Subscript e (.Slice lo hi (some k) p2) pos) (λσ H Q=>te σ H λx H1=>tl σ H1 λl H2=>th σ H2 λu H3=>ts σ H3 λz H4=>∃a xs,x=.ref a/\SqL X.K H4 a xs/\z≠some 0/\∀p,H4 p=none->Q (.ref p) (upd H4 p (.lst (lW xs l u z)))):=by
 intro pins s σ H Q I h;refine Subscript_ (thn (he pins s σ H _ I h) λv s1 ⟨x,H1,I1,r1,q1⟩=> ?_);refine wpAny_Slice (thn (hl pins s1 σ H1 _ I1 q1) λvl s2 ⟨l,H2,I2,pl,q2⟩=>thn (hu pins s2 σ H2 _ I2 q2) λvu s3 ⟨u,H3,I3,pu,q3⟩=>thn (hs pins s3 σ H3 _ I3 q3) λvk s4 ⟨z,H4,I4,pk,q4⟩=> ?_);obtain⟨a,xs,rfl,hx,hz0,q⟩:=q4;have I5:Inv X pins σ H4 {s4 with heap:=s4.heap.push {cls:=.type "slice",data:=.fields #[vl,vu,vk]}}:=I4.kept (t':=s4.toks) λb ob q=>aI _ q
 cases r1;obtain⟨its,r,ht,hz⟩:=I5.list hx;have hlen:=r.length
 have hg:AK (AH X.prog X.w) X.A (getItem (.ref a) (.ref s4.heap.objs.size)) (EP X pins σ Q) X.xe {s4 with heap:=s4.heap.push {cls:=.type "slice",data:=.fields #[vl,vu,vk]}}:=by refine wpAny_getItem_list_slice ht.isList (Heap.IsSliceOf.new ..) pl pu pk hz0 ?_ (by rw[aS]<;>omega);rw[aAG];refine⟨.ref _,_,I5.laid (t':=s4.toks) (o:=.lst (lW xs l u z)) (λb ob q=>aI _ q) (aM _) ?_,rfl,q _ (I5.hok.fresh (aM _))⟩;exact⟨cK (aEq xs l u z) hz,_,0,aEh r l u z,bD _ rfl⟩
 show AK (AH X.prog X.w) X.A (subscriptTail e (.Slice lo hi (some k) p2) (.ref a) (.ref s4.heap.objs.size)) (EP X pins σ Q) X.xe {s4 with heap:=s4.heap.push {cls:=.type "slice",data:=.fields #[vl,vu,vk]}};exact tail_any (ops:=[.ref a,.ref s4.heap.objs.size]) ht.isList.typeIs slot_list_getitem.lookup hg (by with_unfolding_all rfl)
theorem aKd{lo hi:Option Expr}{k:Expr}{ol oh ok:Option Int}{p2:Pos}(ha:PEd X sd a (.bor ds))(hl:POd X sd lo ol)(hh:POd X sd hi oh)(hk:POd X sd (some k) ok)(h0:ok≠some 0):PEd X sd (.Subscript a (.Slice lo hi (some k) p2) pos) (.own (lW ds ol oh ok)):=.mk λσ F H S=>by obtain⟨tl,pl,kl⟩:=oK hl;obtain⟨th,ph,kh⟩:=oK hh;obtain⟨tk,pk,kk⟩:=oK hk;refine(aEG fW pl ph pk).to ((ha σ F H S).imp λv H1 ⟨F1,S1,s1,q1⟩=>kl σ F1 H1 S1 _ λF2 H2 S2 s2=>kh σ F2 H2 S2 _ λF3 H3 S3 s3=>kk σ F3 H3 S3 _ λF4 H4 S4 s4=> ?_);obtain⟨l,xs,rfl,hl',rl,_⟩:=ResOk.keep (r:=.bor ds) trivial q1 S4 ((s2.trans s3).trans s4);refine⟨l,xs,rfl,.of hl',h0,λp hp=> ?_⟩;obtain⟨S5,fp,no⟩:=S4.layO (xs:=lW xs ol oh ok) hp;exact⟨F4,S5,((s1.trans s2).trans s3).trans s4,p,_,rfl,fp,bV,aGM rl ol oh ok,no⟩
end
noncomputable def tX(p:Int×Int)(ws:List Int):Nat:=(uM (2^p.1.toNat) ws).toNat
theorem aCY{p:Int×Int}(hp:p∈cJ){ws:List Int}(G:Fil p ws):uM (2^p.1.toNat) ws=(tX p ws:Int)/\tX p ws<(dH p).length/\(dH p).getD (tX p ws) []=ws:=by have h:=aHZ (aLw p hp);obtain⟨a,b,c⟩:=aMH h G.len G.wd;refine⟨by unfold tX;omega, ?_,c⟩;show _<(jC _ _).length;rw[h.len];exact b
theorem aDj{p:Int×Int}(hp:p∈cJ){i:Nat}(hi:i<(dH p).length):tX p ((dH p).getD i [])=i:=by
 have h:=aHZ (aLw p hp);have hi':i<2^(p.1.toNat*p.2.toNat):=by rw[<-h.len];exact hi
 have:=(h.at_ i hi').2.2.1;unfold tX;show(uM (2^p.1.toNat) ((jC (2^p.1.toNat) p.2.toNat).getD i [])).toNat=i;rw[this];exact fE i
def aNG(A:BM)(s:BK)(x y:BJ)(b:Bool):Prop:=∀ (prog:AD) (w:AM) (E:BJ->BK->Prop) (Q:BJ->BK->Prop),Q (.bool b) s->AK (AH prog w) A (richCompare .Lt x y) Q E s
inductive aFK(A:BM)(s:BK)(fin:Bool):List (BJ×BJ)->Bool->Prop
 |nil:aFK A s fin [] fin
 |eq {x y:BJ}{r:List (BJ×BJ)}{b:Bool}:SeqAt.EqAt A.in1 s x y true->aFK A s fin r b->aFK A s fin ((x,y)::r) b
 |lt {x y:BJ}{r:List (BJ×BJ)}{b:Bool}:SeqAt.EqAt A.in1 s x y false->aNG A.in1 s x y b->aFK A s fin ((x,y)::r) b
section
open PySem.SeqAt
open PySem.AutoSeq1 (wpAny_loadPart')
open PySem.MeetsSeq PySem.MeetsSeq2 PySem.MeetsSeq3
theorem aAe(l b:BL)(items items2:Array BJ)(n n2:Nat)(dd dd2:Option BL)(sl sl2:Array (Option BJ))(res:Bool):
  Meets (Builtin.«tuple.__lt__» ⟨[.ref l,.ref b],[]⟩)
   (fun A R s=>s.heap.get? l=some {cls:= .type "tuple",dict:=dd,data:= .seq items n,slots:=sl}∧s.heap.get? b=some {cls:= .type "tuple",dict:=dd2,data:= .seq items2 n2,slots:=sl2}∧
    aFK A s (decide (items.size<items2.size)) (items.toList.zip items2.toList) res/\R (.ok (.ret (.bool res))) s):=
 .of_wp λprog w A R s h=>by
  obtain⟨hp,g,d,tk,os⟩:=s;obtain⟨hl,hb,hx,h⟩:=h;have f2:=AutoSeq1.sub_tuple_tuple
  wp_walk using wpAny_loadPart' hl,wpAny_loadPart' hb,BE _ (λrest b s'=>b.1=none/\s'=⟨hp,g,d,tk,os⟩/\aFK A ⟨hp,g,d,tk,os⟩ (decide (items.size<items2.size)) rest res) _
  case turn=>
   rintro⟨y,x⟩ rest b s' ⟨hb',rfl,hv⟩;cases hv with
   |eq he hr=>
    refine AA (he prog w _ _ ?_)
    wp_walk
    exact⟨rfl,rfl,hr⟩
   |lt he hlt=>
    refine AA (he prog w _ _ ?_);have hri:=hlt prog w
    wp_walk using hri
    exact⟨_,rfl,by simpa using h⟩
  case fin=>
   rintro⟨b1,b2⟩ s' ⟨hb',rfl,hv⟩;simp only at hb';subst hb';cases hv
   wp_walk
   exact⟨_,rfl,by simpa[Builtin.Tuple.tupleCompareSizes] using h⟩
  case h=>exact⟨rfl,rfl,hx⟩
theorem aCw{A:BM}{s:BK}{l b:BL}{items items2:Array BJ}{res:Bool}(hl:IsTup s.heap l items)(hb:IsTup s.heap b items2)(hx:aFK A s (decide (items.size<items2.size)) (items.toList.zip items2.toList) res)
  (hu:A.units<AO):aNG A s (.ref l) (.ref b) res:=λprog w E Q h=>by
 obtain⟨⟨cls,dd,data,sl⟩,ho,hc,n,hd⟩:=id hl;obtain⟨⟨cls2,dd2,data2,sl2⟩,ho2,hc2,n2,hd2⟩:=id hb;simp only at hc hd hc2 hd2;subst hc hd hc2 hd2
 exact richCompare_meets_room (op:= .Lt) ⟨_,ho,rfl⟩ ⟨_,ho2,rfl⟩ PySem.F.slot_tuple_lt PySem.F.entry_tuple_lt (PySem.F.args_tuple_lt_2 _ _) (aAe l b items items2 n n2 dd dd2 sl sl2 res)
  ⟨ho,ho2,hx,show Value.bool res≠Value.notImplemented/\Q (.bool res) s from⟨(λx=>nomatch x),h⟩⟩ hu
end
mutual
noncomputable def dlt:D->D->Bool
 |.int a,.int b=>decide (a<b)
 |.tup a,.tup b=>mJ a b
 |_,_=>false
noncomputable def mJ:List D->List D->Bool
 |[],[]=>false
 |[],_::_=>true
 |_::_,[]=>false
 |d::ds,e::es=>if deq d e=true then mJ ds es else dlt d e
end
mutual
noncomputable def sT:D->D->Bool
 |.int _,.int _=>true
 |.tup a,.tup b=>rV a b
 |_,_=>false
noncomputable def rV:List D->List D->Bool
 |[],_=>true
 |_::_,[]=>true
 |d::ds,e::es=>sT d e&&rV ds es
end
section
variable {P:AD}{w:AM}{K:aA}{H:Hp}{s:BK}
mutual
theorem aIo(hok:HOk P w H s.heap):∀ (d:D) {d2:D}{v1 v2:V}{u1 u2:BJ}{A:BM},sT d d2=true->pl d=true->pl d2=true->Rep K H d v1->Rep K H d2 v2->RelV v1 u1->RelV v2 u2->A.units+dep d<AO->aNG A s u1 u2 (dlt d d2)
 |.int a,d2,v1,v2,u1,u2,A,c,p1,p2,r1,r2,ru1,ru2,hu=>by
  cases d2 with
  |int b=>simp only[Rep] at r1 r2;subst r1 r2;obtain⟨t,rfl⟩:=ru1;obtain⟨t2,rfl⟩:=ru2;simp only[dlt];exact λprog w E Q h=>(PyProof.Rows.lt_int h:AK (AH prog w) A (AT .Lt (.int a t) (.int b t2)) Q E s)
  |_=>simp[sT] at c
 |.tup ds,d2,v1,v2,u1,u2,A,c,p1,p2,r1,r2,ru1,ru2,hu=>by
  cases d2 with
  |tup es=>
   obtain⟨a,xs,its,rfl,rfl,rl,rv,ht⟩:=jR hok r1 ru1;obtain⟨b,ys,jts,rfl,rfl,rl2,rv2,ht2⟩:=jR hok r2 ru2;simp only[dlt];have l1:its.length=ds.length:=by rw[<-rv.length,rl.len]
   have l2:jts.length=es.length:=by rw[<-rv2.length,rl2.len]
   simp only[pl] at p1 p2;simp only[dep] at hu;simp only[sT] at c;refine aCw ht ht2 ?_ (by omega);exact aCM hok ds c p1 p2 rl rl2 rv rv2 (by omega) (by simp[l1,l2])
  |_=>simp[sT] at c
 |.non,d2,_,_,_,_,_,c,_,_,_,_,_,_,_=>by cases d2<;>simp[sT] at c
 |.bl _,d2,_,_,_,_,_,c,_,_,_,_,_,_,_=>by cases d2<;>simp[sT] at c
 |.str _,d2,_,_,_,_,_,c,_,_,_,_,_,_,_=>by cases d2<;>simp[sT] at c
 |.lst _,d2,_,_,_,_,_,c,_,_,_,_,_,_,_=>by cases d2<;>simp[sT] at c
 |.dic,d2,_,_,_,_,_,c,_,_,_,_,_,_,_=>by cases d2<;>simp[sT] at c
 |.dki _ _,d2,_,_,_,_,_,c,_,_,_,_,_,_,_=>by cases d2<;>simp[sT] at c
 |.any _,d2,_,_,_,_,_,c,_,_,_,_,_,_,_=>by cases d2<;>simp[sT] at c
 |.scr _,d2,_,_,_,_,_,c,_,_,_,_,_,_,_=>by cases d2<;>simp[sT] at c
theorem aCM(hok:HOk P w H s.heap):∀ (ds:List D) {es:List D}{xs ys:List V}{its jts:List BJ}{A:BM}{fin:Bool},rV ds es=true->plL ds=true->plL es=true->RepL K H ds xs->RepL K H es ys->Vals xs its->Vals ys jts->A.units+1+jP ds<AO->fin=decide (ds.length<es.length)->aFK A s fin (its.zip jts) (mJ ds es)
 |[],es,xs,ys,its,jts,A,fin,c,p1,p2,r1,r2,v1,v2,hu,hf=>by
  simp only[RepL] at r1;subst r1;cases v1;subst hf;rw[List.zip_nil_left];cases es with
  |nil=>exact .nil
  |cons e es=>
   have:mJ [] (e::es)=decide (([]:List D).length<(e::es).length):=by simp[mJ]
   rw[this];exact .nil
 |d::ds,[],xs,ys,its,jts,A,fin,c,p1,p2,r1,r2,v1,v2,hu,hf=>by
  simp only[RepL] at r2;subst r2;cases v2;subst hf;rw[List.zip_nil_right];have:mJ (d::ds) []=decide ((d::ds).length<([]:List D).length):=by simp[mJ]
  rw[this];exact .nil
 |d::ds,e::es,xs,ys,its,jts,A,fin,c,p1,p2,r1,r2,v1,v2,hu,hf=>by
  obtain⟨x,xs,rfl,a1,r1⟩:=r1.uncons;obtain⟨y,ys,rfl,a2,r2⟩:=r2.uncons;simp only[plL,bH] at p1 p2;simp only[rV,bH] at c;simp only[jP] at hu;cases v1 with
  |cons q1 v1=>
   cases v2 with
   |cons q2 v2=>
    rw[eG];have he:=aAV (A:=A.in1) hok d p1.1 p2.1 a1 a2 q1 q2 (by show A.units+1+dep d<AO;omega);simp only[mJ]
    by_cases z:deq d e=true
    ·rw[if_pos z];rw[z] at he;exact .eq he (aCM hok ds c.2 p1.2 p2.2 r1 r2 v1 v2 (by omega) (by rw[hf];simp))
    ·rw[if_neg z];rw[nZ.mpr z] at he;exact .lt he (aIo (A:=A.in1) hok d c.1 p1.1 p2.1 a1 a2 q1 q2 (by show A.units+1+dep d<AO;omega))
end
end
section
variable {prog:AD}{w:AM}{A:BM}{E:BJ->BK->Prop}{s:BK}
open HT
end
theorem xA(a:List Nat):(bM a).length=a.length:=by unfold bM;rw[aB]
noncomputable def shp{α β:Type}(n:β)(g:α->β):List Bool->List α->List β
 |[],_=>[]
 |false::m,as=>n::shp n g m as
 |true::m,[]=>n::shp n g m []
 |true::m,a::as=>g a::shp n g m as
def GO(K:aA)(m:List Bool)(l:BL)(ls:List BL)(dss:List (List D)):V->Hp->Hp->Prop:=λv F H=>v=.ref l/\H l=some (.lst (shp V.non V.ref m ls))/\InD K F H ls dss
structure Exc(h0 h:BN)(H:Hp)(a T:BL)(cls:BJ):Prop where
 free:H a=none
 new:h0.get? a=none
 freeT:H T=none
 newT:h0.get? T=none
 obj:∃oe vs oT ts a0,h.get? a=some oe/\(oe.cls=cls/\vs[0]? =some a0)/\oe.data=.fields vs/\vs[1]? =some (.ref T)/\T≠a/\h.get? T=some oT/\oT.data=.fields ts/\ts[3]? =some .none
noncomputable def CX1(P:AD)(w:AM)(cls:BJ):CXT:=λouter H s E e s'=>∃a T H',e=.ref a/\s'.os=s.os/\AllBare s'.gens/\Un (frs outer) [] H H' s.heap s'.heap/\HOk P w H' s'.heap/\Exc s.heap s'.heap H' a T cls/\E (.ref a) (some a) H'
end DL
namespace DL
open PySem PySem.Spec PySem.Calls PySem.W PyProof.Rows Builtin Builtin.Getset_descriptor Builtin.ObjectAttr
section
variable {prog:AD}{w:AM}{A:BM}{E:BJ->BK->Prop}{h:BN}{g:Array GenState}{d:Drawn}{t:Nat}{os:OsState}{a C:BL}{K:Frag}
structure XCls(K:Frag)(C:BL):Prop where
 ha:findIn K (.ref C) "__class__"=some (some (.builtin "object.__class__"))
 hm:mroIn K C (.type "object")=some true
 hs:subIn K (.ref C) (.type "BaseException")=some true
 hg:findIn K (.ref C) "__getattribute__"=some (some (.builtin "BaseException.__getattribute__"))
 hn:findIn K (.ref C) "__getattr__"=some none
 hc:(clsIn K C).isSome=true
end
end DL
namespace DL
open PySem PySem.Spec PyProof.Rows L2
noncomputable def bmVE:List BJ:=[.type "ValueError",.type "Exception",.type "BaseException",.type "object"]
section
variable {X:Cx}{sd:List Slot}{e a b c:Expr}{es:List Expr}{pos:Pos}{d:D}{ds:List D}{E:kR}
structure PEx(X:Cx)(sd:List Slot)(e:Expr):Prop where
 run:∀ (σ:St) (F H:Hp),StF X.K X.B₀ F H σ sd->wE X e σ H (λ_ _=>False)
noncomputable def spX(K:aA)(n:Nat)(C:List D->Prop):Sp:=λvs H _ E=>vs.length=n/\Smp H/\∃ds,RepL K H ds vs/\C ds/\∀a H',Same H H'->Smp H'->E (.ref a) (some a) H'
structure aOx(P:AD)(w:AM)(K:aA)(mg:Str->Option BJ)(base:BN)(x:Str)(k n:Nat)(C:List D->Prop)(cls:BJ)(dvs:List V)(dws:List BJ):Prop where
 ex:∃ (f:BL) (fd:AX) (ps:List Str),mg x=some (.ref f)/\eM K (.ref f)=true/\Binds K fd ps dws/\Vals dvs dws/\FnOk P w K mg base (CX1 P w cls) k f fd ps (spX K n C)
end
section
variable {X:Cx}{pins:List (BL×BO)}{σ:St}{F H:Hp}{s:BK}{sd:List Slot}{a T:BL}{cls:BJ}{M:Model}{A:BM}{Ex:BJ->BK->Prop}
structure Held(X:Cx)(pins:List (BL×BO))(σ:St)(H:Hp)(s:BK)(a T:BL)(cls fl:BJ):Prop where
 inv:Inv X pins σ H s
 fa:H a=none/\X.s₀.heap.get? a=none/\∀p∈X.pn++pins,p.1≠a
 fT:H T=none/\X.s₀.heap.get? T=none/\∀p∈X.pn++pins,p.1≠T
 obj:∃oe vs oT ts a0,s.heap.get? a=some oe/\(oe.cls=cls/\vs[0]? =some a0)/\oe.data=.fields vs/\vs[1]? =some (.ref T)/\T≠a/\s.heap.get? T=some oT/\oT.data=.fields ts/\ts[3]? =some fl
end
section
variable {X:Cx}{sd:List Slot}{e a b c:Expr}{es:List Expr}{pos:Pos}{d:D}{ds:List D}{E:kR}
noncomputable def spS(K:aA)(n:Nat)(G:V->Hp->Prop)(C:List D->Prop):Sp:=λvs H _ E=>vs.length=n/\Smp H/\∃v us ds,vs=v::us/\G v H/\RepL K H ds us/\C ds/\∀a H',Same H H'->Smp H'->E (.ref a) (some a) H'
structure aOy(P:AD)(w:AM)(K:aA)(mg:Str->Option BJ)(base:BN)(x:Str)(k n:Nat)(G:V->Hp->Prop)(C:List D->Prop)(cls:BJ):Prop where
 ex:∃ (f:BL) (fd:AX) (ps:List Str),mg x=some (.ref f)/\eM K (.ref f)=true/\Binds K fd ps []/\FnOk P w K mg base (CX1 P w cls) k f fd ps (spS K n G C)
structure PSh(X:Cx)(sd:List Slot)(e:Expr)(G:V->Hp->Prop):Prop where
 run:∀ (σ:St) (F H:Hp),StF X.K X.B₀ F H σ sd->wE X e σ H λv H'=>∃F',StF X.K X.B₀ F' H' σ sd/\Same F F'/\G v F'
end
section
variable {X:Cx}{pins:List (BL×BO)}{σ:St}{F H:Hp}{s s':BK}{sd:List Slot}{cls:BJ}{e tg iter:Expr}{es:List Expr}{pos:Pos}{ds:List D}{Old:BL->Prop}{E:kR}
structure ExcO(Old:BL->Prop)(h:BN)(H:Hp)(a T:BL)(cls:BJ):Prop where
 free:H a=none
 new:¬ Old a
 freeT:H T=none
 newT:¬ Old T
 obj:∃oe vs oT ts a0,h.get? a=some oe/\(oe.cls=cls/\vs[0]? =some a0)/\oe.data=.fields vs/\vs[1]? =some (.ref T)/\T≠a/\h.get? T=some oT/\oT.data=.fields ts/\ts[3]? =some .none
def Ent(X:Cx):BL->Prop:=λb=>∃o,X.s₀.heap.get? b=some o
end
section
variable {X:Cx}
def rSI:V->List V->Hp->VK->Prop:=λx vs H Q=>∃ (l:BL) (k:Key) (y:V) (kvs:List (Key×V)),x=.ref l/\vs=[kV k,y]/\H l=some (.dK kvs)/\kvs.length+1<=AL/\(∀z,gO kvs k=some z->Q z H)/\(gO kvs k=none->Q y (upd H l (.dK (kvs++[(k,y)]))))
theorem aMM:MtR X "dict.setdefault" rSI:=by
 intro pins s σ H x vs v us Q I rx rv h;obtain⟨l,k,y,kvs,rfl,rfl,hl,hz,q1,q2⟩:=h;obtain rfl:v=Value.ref l:=rx;cases rv with
 |cons r1 rv=>
  obtain⟨u,rfl,ru⟩:=Vals.one rv;obtain⟨z,hd,vs,rel,dd⟩:=aLC I.hok hl;refine Av jD dd.typeIs uL (uD _ _ _) (kt_meets_setdefault (eO X.prog X.w) l (aFW r1) hd u) ⟨vs,dd,by rw[<-rel.length];exact z,λw' hw=> ?_,λhn h' dd' hsm=> ?_⟩
  ·have rl:=rel.val k;rw[hw] at rl;cases hv:gO kvs k with
   |none=>rw[hv] at rl;cases rl
   |some z'=>rw[hv] at rl;exact⟨z',H,I.tok _,rl,q1 z' hv⟩
  ·have hn':gO kvs k=none:=by
    have rl:=rel.val k;rw[hn] at rl;cases hv:gO kvs k with
    |none=>rfl
    |some z'=>rw[hv] at rl;cases rl
   have rp:=rel.put k ru;rw[pN y hn'] at rp;have he:∃q,h'.get? l=some q:=let ⟨q,_,_,hq,_⟩:=dd';⟨q,hq⟩
   exact⟨y,_,oO (t':=s.toks+1) I (ob:=.dK (kvs++[(k,y)])) (by rw[hl];exact True.intro) hsm he (aHC (by rw[aP];exact hz) hd rp dd'),ru,q2 hn'⟩
end
def GI(K:aA)(l:BL)(ks:List Key)(ls:List BL)(dss:List (List D)):V->Hp->Hp->Prop:=λv F H=>v=.ref l/\H l=some (.dK (ks.zip (ls.map V.ref)))/\ks.length=ls.length/\InD K F H ls dss
section
variable {K:aA}{H₀ F F' H H':Hp}{σ:St}{sd:List Slot}{i:Nat}{l:BL}{ks:List Key}{ls:List BL}{dss:List (List D)}
theorem rW{o:HO}(h:Smp H)(a:BL)(z:aNh o):Smp (upd H a o):=λb u e=>by
 by_cases q:b=a
 ·subst q;rw[bV] at e;cases e;exact z
 ·rw[bK q] at e;exact h _ _ e
end
def GW(K:aA)(m:List Bool)(l0 l:BL)(ls:List BL)(dss:List (List D)):V->Hp->Hp->Prop:=λv F H=>v=.ref l0/\H l0=some (.lst [.ref l,.int 0])/\H l=some (.lst (shp V.non V.ref m ls))/\InD K F H ls dss
noncomputable abbrev Wnt:=List (Option Int)
noncomputable abbrev Exs:=List (List Int×Wnt)
noncomputable def bw:Option Int->Option Int->Option (Option Int)
 |none,b=>some b
 |some x,none=>some (some x)
 |some x,some y=>if y=x then some (some x) else none
structure EOk(p:Int×Int)(E:Exs):Prop where
 fil:∀x∈E,x.1∈dH p
 len:∀x∈E,x.2.length=p.2.toNat
 wd:∀x∈E,∀b w,x.2.getD b none=some w->0<=w/\w<((2^p.1.toNat:Nat):Int)
structure GOk(n:Nat)(E:Exs)(t:Nat)(G:List (List Int)×List Wnt):Prop where
 nd:G.1.Nodup
 ln:G.1.length=G.2.length
 mem:∀f,f∈G.1↔∃i,i<t/\(E.getD i ([],[])).1=f
 wl:∀u∈G.2,u.length=n
 has:∀i,i<t->∀b w,b<n->(E.getD i ([],[])).2.getD b none=some w->(G.2.getD (G.1.idxOf (E.getD i ([],[])).1) []).getD b none=some w
 from_:∀f∈G.1,∀b w,b<n->(G.2.getD (G.1.idxOf f) []).getD b none=some w->∃i,i<t/\(E.getD i ([],[])).1=f/\(E.getD i ([],[])).2.getD b none=some w
structure Xk34(K:aA)(mg:Str->Option BJ)(CN:BL):Prop where
 xc:XCls K CN
 ex:PySem.W.excIn K CN bmVE "ValueError.__new__"=true
 le:∃C:BL,mg "LeastError"=some (.ref C)/\PySem.W.exmOne K (.ref CN) (.ref C)=some true
 nw:mg "NoWish"=some (.ref CN)/\fY K (.ref CN) (.ref CN)=some true
 ve:mg "ValueError"=none/\fY K (.ref CN) (.type "ValueError")=some true
 nc:∃C:BL,mg "NoChange"=some (.ref C)/\fY K (.ref CN) (.ref C)=some false
 nt:∃C:BL,mg "NoText"=some (.ref C)/\fY K (.ref CN) (.ref C)=some false
 nd:∃C:BL,mg "NoWindow"=some (.ref C)/\fY K (.ref CN) (.ref C)=some false
 tg:∃C:BL,mg "TooGreat"=some (.ref C)/\fY K (.ref CN) (.ref C)=some false
structure DOk(L:List (Nat×Int))(T:List Nat×List (List Int)):Prop where
 nd:T.1.Nodup
 ln:T.1.length=T.2.length
 mem:∀b,b∈T.1↔∃w,(b,w)∈L
 val:∀b∈T.1,∀w,w∈T.2.getD (T.1.idxOf b) []↔(b,w)∈L
 le:T.2.length<=L.length/\∀l∈T.2,l.length<=L.length
theorem aBn{bs:List Bool}{its:List BJ}{i:Nat}{v:BJ}(r:Vals (bs.map V.bl) its)(h:its[i]? =some v):∃b,bs[i]? =some b/\v=.bool b:=by
 have hi:i<its.length:=(aE.mp h).1;have hl:=r.length;rw[aB] at hl;have hb:i<bs.length:=by omega
 obtain⟨u,h1,h2⟩:=r.get (i:=i) (x:=.bl bs[i]) (by simp[hb]);rw[h] at h1;cases h1;exact⟨bs[i],by simp[hb],h2⟩
theorem aCc(bs:List Bool):((bP bs.length).all λi=>(bs[i]?).getD true)=bs.all id:=by
 apply iL.mpr;simp only[cX,cM,id_eq]
 constructor
 ·intro h b hb;obtain⟨i,hi,rfl⟩:=cV hb;have:=h i hi;simpa[hi] using this
 ·intro h i hi;have:=h bs[i] (iT hi);simpa[hi] using this
section
variable {X:Cx}{sd:List Slot}{e a b c:Expr}{pos:Pos}{ds:List D}
theorem aEi(hc:X.calm=true):lY X (.builtin "all") (λxs H Q=>∃ (a:BL) (bs:List Bool),xs=[.ref a]/\SqL X.K H a (bs.map V.bl)/\Q (.bl (bs.all id)) H):=by
 intro pins s σ H xs us Q I r h;obtain⟨a,bs,rfl,ha,q⟩:=h;obtain⟨u,rfl,ru⟩:=pO r;cases ru;obtain⟨its,rv,p,hz⟩:=I.list ha;have hl:=rv.length;rw[aB] at hl;have isl:s.heap.IsList a its.toArray:=p.isList;have alt:a<s.heap.objs.size:=by obtain⟨o,ho,_⟩:=isl;exact aU ho
 refine call_all_walk (BB isl ?_);refine⟨s.heap.objs.size,[s.heap.objs.size,a],[s.heap.objs.size],its.toArray.size,_,_,λi=>(bs[i]?).getD true,rfl,Walks.list (A:=X.A.in1) (I.ok.hd hc) _ a (bO alt) its.toArray,⟨⟨_,bD _ rfl,rfl,rfl⟩,isl.push _⟩,λi v s' Q' E' hP hQ=> ?_,λh' tk hk=> ?_⟩
 ·obtain⟨b,e,rfl⟩:=aBn rv (by simpa using hP);simp only[e,aHs] at hQ;exact AZ hQ
 ·have e:((bP its.toArray.size).all λi=>(bs[i]?).getD true)=bs.all id:=by rw[aS,<-hl];exact aCc bs
  rw[e]
  exact ⟨.bl (bs.all id),H,I.kept (t':=tk) fun b o g=>hk b o (fun z=>by
   have z:b=s.heap.objs.size:=by simpa using z
   exact absurd (aU g) (by rw[z];exact fJ _)) (aI _ g),rfl,q⟩
theorem RepL.bls{K:aA}{H:Hp}:∀ {bs:List Bool}{xs:List V},RepL K H (bs.map D.bl) xs->xs=bs.map V.bl
 |[],xs,r=>by simpa only[eY,RepL] using r
 |n::ns,xs,r=>by rw[bC] at r;obtain⟨y,ys,rfl,a,rl⟩:=r.uncons;simp only[Rep] at a;rw[a,RepL.bls rl];rfl
theorem aJx{p:Pos}{bs:List Bool}(hg:Gl X "all")(hm:X.mg "all"=none)(ha:PEd X sd e (.bor (bs.map D.bl)))(hc:X.calm=true:=by rfl)(hst:AG [e] X.env=(false,eval e X.env)::AG [] X.env:=by rfl):PEd X sd (.Call (.Name "all" p) [e] [] pos) (.val (.bl (bs.all id))):=
 mE (he:=hst) (aEi hc) hg hm boot_all (aD ha aR trivial hst) λσ F H vs Q S q k=>by
  cases q with
  |cons q1 q2=>cases q2;obtain⟨p,xs,rfl,hp,rl,_⟩:=q1;exact⟨p,bs,rfl,.of (by rw[<-rl.bls];exact hp),k _ F H S (Same.refl _) (by simp only[ResOk,Rep])⟩
end
noncomputable abbrev Ch:=Nat×Nat×List Nat
noncomputable def wcQ(row:List Nat)(c:Ch):List Nat:=row.take c.1++c.2.2++row.drop (c.1+c.2.1)
noncomputable def aOS(L:List SK)(row:List Nat):Int:=aHt (aHv L row)
noncomputable def aOD(p:Int×Int)(L:List SK)(row:List Nat)(o:Option (List Nat)):List (List Int):=(dH p).map λws=>match o with
 |none=>aNC p L row ws
 |some l=>l.map λj=>(aNC p L row ws).getD j 0
noncomputable def winB(row:List Nat)(c:Ch):Bool:=decide (1<=c.2.1/\c.1+c.2.1<=row.length)
noncomputable def hoQ(p:Int×Int)(L:List SK)(row:List Nat)(c:Ch)(o:Option (List Nat)):Bool:=winB row c&&(decide (aOS L c.2.2<aOS L ((row.drop c.1).take c.2.1))&&decide (aOD p L (wcQ row c) o=aOD p L row o))
def hX(L:List SK)(row:List Nat):Prop:=∀t∈row,t<L.length
def aIr:List D->R->Prop:=λds r=>∃ (L:List SK) (row:List Nat),hX L row/\row.length<=900/\ds=[.lst (L.map skD),.tup (bM row)]/\r=.val (.bl true)
structure Chn(p:Int×Int)(L:List SK)(o:Option (List Nat))(row:List Nat)(cs:List Ch)(rs:List (List Nat)):Prop where
 len:rs.length=cs.length+1
 hd:rs.getD 0 []=row
 st:∀i,i<cs.length->hoQ p L (rs.getD i []) (cs.getD i (0,0,[])) o=true/\rs.getD (i+1) []=wcQ (rs.getD i []) (cs.getD i (0,0,[]))
 ok:∀r∈rs,hX L r/\r.length<=8+9*cs.length
 pc:∀c∈cs,hX L c.2.2/\c.2.2.length<=9
theorem aFS{G K:Prop}(h:K->G)(k:K):G:=h k
section
variable {prog:AD}{w:AM}{κ:Type}[DecidableEq κ](knd:KeyKind prog w κ)
def Row2(h:BN)(ks:List (List κ))(vs:List BJ):Prop:=ks.length=vs.length/\∀ (n:Nat) (k:List κ),ks[n]? =some k->∃b,vs[n]? =some (.ref b)/\(AR knd).is h k b
def IsT2(h:BN)(ks:List (List κ))(a:BL):Prop:=∃ (o:BO) (vs:Array BJ) (c:Nat),h.get? a=some o/\o.cls=.type "tuple"/\o.data=.seq vs c/\Row2 knd h ks vs.toList
variable {knd}
theorem Row2.inj{h:BN}{x y:List (List κ)}{vs:List BJ}(p:Row2 knd h x vs)(q:Row2 knd h y vs):x=y:=by
 refine lK (p.1.trans q.1.symm) λn n1 n2=> ?_
 obtain⟨b,e1,t1⟩:=p.2 n _ (eW n1);obtain⟨c,e2,t2⟩:=q.2 n _ (eW n2);rw[e1] at e2;cases e2;exact(AR knd).inj t1 t2
theorem IsT2.ty{s:BK}{ks:List (List κ)}{a:BL}:IsT2 knd s.heap ks a->s.TypeIs (.ref a) "tuple"
 |⟨o,_,_,g,c,_⟩=>⟨o,g,c⟩
theorem IsT2.one{h:BN}{a:BL}{x y:List (List κ)}(p:IsT2 knd h x a)(q:IsT2 knd h y a):x=y:=by obtain⟨o,vs,c,g,_,d,r⟩:=p;obtain⟨o2,vs2,c2,g2,_,d2,r2⟩:=q;cases g.symm.trans g2;cases d.symm.trans d2;exact r.inj r2
theorem IsT2.stay{h h':BN}{ks:List (List κ)}{a d:BL}{o:BO}{es ep}(p:IsT2 knd h ks a)(g:h.get? d=some o)(e:o.data=.dict es ep)(sb:Heap.SameBut d h h'):IsT2 knd h' ks a:=by
 obtain⟨o2,vs,c,g2,t,e2,r⟩:=p
 have ne:a≠d:=λz=>by subst z;cases g.symm.trans g2;cases e.symm.trans e2
 exact⟨o2,vs,c,(sb.2 a ne).trans g2,t,e2,r.1,λn k hk=>let ⟨b,q1,q2⟩:=r.2 n k hk;⟨b,q1,(AR knd).keeps q2 g e sb⟩⟩
theorem Row2.step{h:BN}{ks:List (List κ)}{vs:List BJ}{v:BJ}(p:Row2 knd h ks (v::vs)):∃k ks' b,ks=k::ks'/\v=.ref b/\(AR knd).is h k b/\Row2 knd h ks' vs:=by
 cases ks with
 |nil=>cases p.1
 |cons k ks'=>obtain⟨b,q1,q2⟩:=p.2 0 k rfl;cases q1;exact⟨k,ks',b,rfl,rfl,q2,aOA.inj p.1,λn k' hk=>p.2 (n+1) k' hk⟩
theorem Row2.none{h:BN}{ks:List (List κ)}(p:Row2 knd h ks []):ks=[]:=dJ p.1
noncomputable def aIR(knd:KeyKind prog w κ)(ks:List (List κ)):Int:=reduceHash (Builtin.Tuple.tupleHashOf (ks.map (AR knd).hash))
noncomputable def oQ:List (List κ)->Nat
 |[]=>0
 |k::ks=>k.length+1+oQ ks
variable {A:BM}{E:BJ->BK->Prop}{s:BK}
theorem aEU{ks:List (List κ)}{a:BL}{Q:Int->BK->Prop}(hu:A.units+1<AO)(p:IsT2 knd s.heap ks a)(q:Q (aIR knd ks) {s with toks:=s.toks+(oQ ks+1)}):AK (AH prog w) A (PySem.pyHash (.ref a)) Q E s:=by
 have ty:=p.ty;obtain⟨o,vs,c,g,_,e,r⟩:=p;unfold PySem.pyHash pyHashByItsType;refine AA (wpAny_cRoomFor_or (.inr (aKI hu)) (AA (BG ty F.slot_tuple_hash.lookup ?_)));refine BH (λz=>absurd z (by rw[beq_builtin_none];exact bN)) λ_=> ?_
 refine AA (BG ty F.slot_tuple_hash.lookup (AA (wpAny_callSpecialIfBoundUnlessNone?_slot ty F.slot_tuple_hash (AY F.slot_tuple_hash ty F.entry_tuple_hash ?_ (F.args_tuple_hash_1 _)))));refine AA (m:=Builtin.Tuple.tupleItemsOf (.ref a)) (wpAny_tupleItemsOf g e (AA ?_));rw[<-sX];refine BE _ (λrest (acc:Array Int) st=>∃todo,Row2 knd s.heap todo rest/\acc.toList++todo.map (AR knd).hash=ks.map (AR knd).hash/\st={s with toks:=st.toks}/\st.toks+oQ todo=s.toks+oQ ks) _ (λv rest acc st h=> ?_) (λacc st h=> ?_) _ _ ⟨ks,r,rfl,rfl,rfl⟩
 ·obtain⟨todo,r1,e1,e2,e3⟩:=h;obtain⟨k,ks',b,rfl,rfl,t,r2⟩:=r1.step;rw[e2];refine AA ((AR knd).pyHash (k:=k) (show _<AO from ?_) t ?_)
  ·exact hu
  ·have nx:∃todo,Row2 knd s.heap todo rest/\(acc.push ((AR knd).hash k)).toList++todo.map (AR knd).hash=ks.map (AR knd).hash/\({s with toks:=st.toks+(k.length+1)}:BK)={s with toks:=st.toks+(k.length+1)}/\st.toks+(k.length+1)+oQ todo=s.toks+oQ ks:=⟨ks',r2,by rw[<-e1];simp,rfl,by rw[<-e3];show _=_+(_+_);omega⟩
   first|exact AB nx|exact AA (AB (AB nx))
 ·obtain⟨todo,r1,e1,e2,e3⟩:=h;cases r1.none;rw[eY,dD] at e1;rw[e2]
  have tk:st.toks+1=s.toks+(oQ ks+1):=by have:st.toks+0=s.toks+oQ ks:=e3;omega
  show AK _ _ (retInt (Builtin.Tuple.tupleHashOf acc.toList)) _ _ _;rw[e1];unfold aIR reduceHash at q;rw[<-tk] at q;refine wpAny_ret_mkInt ?_;refine BH (λz=>AB ?_) λz=>AA (Aw (AB ?_))
  ·rw[if_pos z] at q;exact q
  ·rw[if_neg z] at q;exact q
theorem aJS{x y:List (List κ)}{a b:BL}{R:Fin->BK->Prop}(hu:A.units<AO)(p:IsT2 knd s.heap x a)(q:IsT2 knd s.heap y b)(h:R (.done (.ret (.bool (decide (x=y))))) s):AK (AH prog w) A (Builtin.«tuple.__eq__» ⟨[.ref a,.ref b],[]⟩) R E s:=by
 have ty:=q.ty;obtain⟨oa,us,_,ga,_,ea,ra⟩:=p;obtain⟨ob,vs,_,gb,_,eb,rb⟩:=q;refine AA (m:=isInstance (.ref b) (.type "tuple")) (wpAny_isInstance ty isSubtype_tuple_tuple ?_);rw[if_neg (by decide)];refine AA (wpAny_tupleItemsOf ga ea (AA (wpAny_tupleItemsOf gb eb (AA ?_))));have lu:us.size=x.length:=by rw[ra.1,cC]
 have lv:vs.size=y.length:=by rw[rb.1,cC]
 refine BE _ (λrest acc st=>acc.1=none/\st=s/\∃xs ys us' vs',rest=us'.zip vs'/\Row2 knd s.heap xs us'/\Row2 knd s.heap ys vs'/\(x=y↔xs=ys)/\(x.length=y.length↔xs.length=ys.length)) _ (λv rest acc st i=> ?_) (λacc st i=> ?_) _ _ ⟨rfl,rfl,x,y,us.toList,vs.toList,rfl,ra,rb,Iff.rfl,Iff.rfl⟩
 ·obtain⟨_,rfl,xs,ys,us',vs',z,r1,r2,i1,i2⟩:=i;cases us' with
  |nil=>simp at z
  |cons u us'=>
   cases vs' with
   |nil=>simp at z
   |cons v' vs'=>
    obtain⟨k,xs',c,rfl,rfl,t1,r1⟩:=r1.step;obtain⟨j,ys',c',rfl,rfl,t2,r2⟩:=r2.step;rw[eG] at z;cases z;refine AA ((AR knd).eqBool (x:=k) (y:=j) hu t1 t2 ?_)
    by_cases e:k=j
    ·rw[decide_eq_true e,if_neg (by decide)];exact AB ⟨rfl,rfl,xs',ys',us',vs',rfl,r1,r2,i1.trans ⟨λz=>(vK.inj z).2,λz=>by rw[e,z]⟩,i2.trans ⟨aOA.inj,congrArg _⟩⟩
    ·rw[decide_eq_false e,if_pos (by decide)];rw[decide_eq_false (λz=>e (vK.inj (i1.mp z)).1)] at h;exact AA (AB (AB (AB h)))
 ·obtain⟨n0,rfl,xs,ys,us',vs',z,r1,r2,i1,i2⟩:=i;obtain⟨a1,a2⟩:=acc;cases n0
  have fin:(us.size==vs.size)=decide (x=y):=by
   rw[lu,lv]
   by_cases e:x.length=y.length
   ·have l2:=i2.mp e
    have:xs=ys:=by
     cases us' with
     |nil=>cases r1.none;exact(dJ l2.symm).symm
     |cons u us'=>
      cases vs' with
      |nil=>cases r2.none;exact dJ l2
      |cons v vs'=>cases z
    rw[decide_eq_true (i1.mpr this),e];exact beq_self_eq_true _
   ·rw[decide_eq_false λz=>e (congrArg _ z)];exact beq_eq_false_iff_ne.mpr e
  rw[<-fin] at h;exact AB h
theorem aGZ{x y:List (List κ)}{a b:BL}{Q:Bool->BK->Prop}(hu:A.units+1<AO)(p:IsT2 knd s.heap x a)(q:IsT2 knd s.heap y b)(h:Q (decide (x=y)) s):AK (AH prog w) A (PySem.eqBool (.ref a) (.ref b)) Q E s:=by
 unfold PySem.eqBool
 try with_reducible refine Af ?_
 refine BH (λz=> ?_) λ_=>AA (wpAny_richCompare_same_room (op:= .Eq) p.ty q.ty F.slot_tuple_eq (AY F.slot_tuple_eq p.ty F.entry_tuple_eq (aJS (show _<AO from hu) p q ⟨_,rfl,(λe=>nomatch e),AZ h⟩) (F.args_tuple_eq_2 _ _)) (aKI hu))
 cases eq_of_beq z;cases p.one q;rw[decide_eq_true rfl] at h;exact AA (Aw (AB h))
theorem aCd(m:Nat){k:List κ}{a:BL}{Q:Bool->BK->Prop}(p:(AR knd).is s.heap k a)(h:Q true s):AK (AH prog w) A (eqIsQuiet (m+1) (.ref a)) Q E s:=by
 have ty:=IsTupleKey.typeIs p;obtain⟨o,vs,c,g,_,e,r⟩:=p;have bv:=r.byValue;unfold eqIsQuiet;refine AA (BG ty F.slot_tuple_eq.lookup (AA (m:=isInstance (.ref a) (.type "tuple")) (wpAny_isInstance ty isSubtype_tuple_tuple ?_)));rw[if_neg (by decide)];refine AA (wpAny_seqItems g e (AA (m:=forIn vs _ _) ?_));rw[<-sX];refine BE _ (λrest acc st=>acc.1=none/\st=s/\∀v∈rest,carriedByValue v=true) _ (λv rest acc st i=> ?_) (λacc st i=> ?_) _ _ ⟨rfl,rfl,bv⟩
 ·obtain⟨_,rfl,i⟩:=i;rw[eqIsQuiet_byValue _ (i v aH)];refine AA (AB ?_);rw[if_neg (by decide)];exact AB ⟨rfl,rfl,λu hu=>i u (aF _ hu)⟩
 ·obtain⟨n0,rfl,_⟩:=i;obtain⟨a1,a2⟩:=acc;cases n0;exact AB h
theorem aCy{ks:List (List κ)}{a:BL}{Q:Bool->BK->Prop}(p:IsT2 knd s.heap ks a)(h:Q true s):AK (AH prog w) A (eqIsQuiet 8 (.ref a)) Q E s:=by
 have ty:=p.ty;obtain⟨o,vs,c,g,_,e,r⟩:=p;unfold eqIsQuiet;refine AA (BG ty F.slot_tuple_eq.lookup (AA (m:=isInstance (.ref a) (.type "tuple")) (wpAny_isInstance ty isSubtype_tuple_tuple ?_)));rw[if_neg (by decide)];refine AA (wpAny_seqItems g e (AA (m:=forIn vs _ _) ?_));rw[<-sX];refine BE _ (λrest acc st=>acc.1=none/\st=s/\∃todo,Row2 knd s.heap todo rest) _ (λv rest acc st i=> ?_) (λacc st i=> ?_) _ _ ⟨rfl,rfl,ks,r⟩
 ·obtain⟨_,rfl,todo,i⟩:=i;obtain⟨k,ks',b,rfl,rfl,t,r2⟩:=i.step;refine AA (aCd 6 t ?_);rw[if_neg (by decide)];exact AB ⟨rfl,rfl,ks',r2⟩
 ·obtain⟨n0,rfl,_⟩:=i;obtain⟨a1,a2⟩:=acc;cases n0;exact AB h
end
noncomputable def aOm{prog:AD}{w:AM}{κ:Type}[DecidableEq κ](knd:KeyKind prog w κ):HeapKind prog w (List (List κ)) where
 is:=IsT2 knd
 hash:=aIR knd
 draws:=λks=>oQ ks+1
 room:=λA=>A.units+1<AO
 inj:=λp q=>p.one q
 keeps:=λp g e sb=>p.stay g e sb
 pyHash:=λhu p q=>aEU hu p q
 eqBool:=λhu p q h=>aGZ hu p q h
 quiet:=λp h=>aCy p h
structure HK(P:AD)(w:AM)(κ:Type)[DecidableEq κ] where
 kind:HeapKind P w κ
 rel:Hp->κ->BL->Prop
 mono:∀ {F F':Hp}{k:κ}{a:BL},Same F F'->rel F k a->rel F' k a
 ok:∀ {H:Hp}{h:BN}{k:κ}{a:BL},HOk P w H h->rel H k a->kind.is h k a
 room:∀ {A:BM},A.units+2<AO->kind.room A.in1
 dat:κ->D
 key:∀ {K:aA}{F:Hp}{k:κ}{v:V},Rep K F (dat k) v->∃a,v=.ref a/\rel F k a
 back:∀ {K:aA}{F:Hp}{k:κ}{a:BL},rel F k a->Rep K F (dat k) (.ref a)
theorem rL{K:aA}{F:Hp}:∀k:List Key,RepL K F (k.map kD) (k.map kV)
 |[]=>.nil
 |a::k=>by refine .cons ?_ (rL k);cases a<;>simp only[kD,kV,Rep]
noncomputable def tD(k:List Key):D:=.tup (k.map kD)
noncomputable def hkT(P:AD)(w:AM):HK P w (List Key) where
 kind:=AR (eO P w)
 rel:=λF k a=>F a=some (.tup (k.map kV))
 mono:=λs h=>s _ _ h
 ok:=λok h=>oM ok h
 room:=λhu=>Aq (by omega)
 dat:=tD
 key:=λr=>by simp only[tD,Rep] at r;obtain⟨a,ys,rfl,ha,rl⟩:=r;rw[pD rl] at ha;exact⟨a,rfl,ha⟩
 back:=λ{K F k a} h=>by simp only[tD,Rep];exact⟨a,_,rfl,h,rL k⟩
inductive R2k(F:Hp):List (List Key)->List V->Prop
 |nil:R2k F [] []
 |cons {k:List Key}{b:BL}{ks:List (List Key)}{vs:List V}:F b=some (.tup (k.map kV))->R2k F ks vs->R2k F (k::ks) (.ref b::vs)
theorem R2k.mono{F F':Hp}(s:Same F F'){ks:List (List Key)}{vs:List V}(r:R2k F ks vs):R2k F' ks vs:=by
 induction r with
 |nil=>exact .nil
 |cons h _ ih=>exact .cons (s _ _ h) ih
theorem Row2.cons{P:AD}{w:AM}{κ:Type}[DecidableEq κ]{knd:KeyKind P w κ}{h:BN}{k:List κ}{b:BL}{ks:List (List κ)}{vs:List BJ}(t:(AR knd).is h k b)(r:Row2 knd h ks vs):Row2 knd h (k::ks) (.ref b::vs):=
 ⟨congrArg (·+1) r.1,fun n k' e=>by
  cases n with
  |zero=>cases e;exact⟨b,rfl,t⟩
  |succ n=>exact r.2 n k' e⟩
theorem R2k.ok{P:AD}{w:AM}{H:Hp}{h:BN}(ok:HOk P w H h){ks:List (List Key)}{vs:List V}(r:R2k H ks vs):∀ {us:List BJ},Vals vs us->Row2 (eO P w) h ks us:=by
 induction r with
 |nil=>intro us q;cases q;exact⟨rfl,λn k e=>by simp at e⟩
 |cons hb _ ih=>
  intro us q;cases q with
  |cons r1 rv=>cases(show _=Value.ref _ from r1);exact Row2.cons (oM ok hb) (ih rv)
theorem R2k.of{K:aA}{F:Hp}:∀ {ks:List (List Key)}{vs:List V},RepL K F (ks.map tD) vs->R2k F ks vs
 |[],vs,r=>by simp only[eY,RepL] at r;subst r;exact .nil
 |k::ks,vs,r=>by rw[bC] at r;obtain⟨y,ys,rfl,q,rl⟩:=r.uncons;simp only[tD,Rep] at q;obtain⟨a,zs,rfl,ha,rl2⟩:=q;rw[pD rl2] at ha;exact .cons ha (R2k.of rl)
theorem R2k.rep{K:aA}{F:Hp}{ks:List (List Key)}{vs:List V}(r:R2k F ks vs):RepL K F (ks.map tD) vs:=by
 induction r with
 |nil=>exact .nil
 |@cons k b ks vs h _ ih=>refine .cons ?_ ih;simp only[tD,Rep];exact⟨b,_,rfl,h,rL k⟩
noncomputable def hkN(P:AD)(w:AM):HK P w (List (List Key)) where
 kind:=aOm (eO P w)
 rel:=λF ks a=>∃vs,F a=some (.tup vs)/\R2k F ks vs
 mono:=λs ⟨vs,h,r⟩=>⟨vs,s _ _ h,r.mono s⟩
 ok:=λ{H h k a} ok ⟨vs,e,r⟩=>by obtain⟨_,its,rv,o,h1,h2,⟨n,h3⟩,_⟩:=(show ObjOk P w H h a (.tup vs) from ok a _ e);exact⟨o,its.toArray,n,h1,h2,h3,by simpa using r.ok ok rv⟩
 room:=λ{A} hu=>by show A.in1.units+1<AO;exact hu
 dat:=λks=>.tup (ks.map tD)
 key:=λr=>by simp only[Rep] at r;obtain⟨a,ys,rfl,ha,rl⟩:=r;exact⟨a,rfl,ys,ha,R2k.of rl⟩
 back:=λ{K F k a} ⟨vs,h,r⟩=>by simp only[Rep];exact⟨a,vs,rfl,h,r.rep⟩
section
variable {P:AD}{w:AM}{κ:Type}[DecidableEq κ](hk:HK P w κ)
abbrev KG(F:Hp):List (κ×V)->List (κ×BL×BJ)->Prop:=Paired λp q=>p.1=q.1/\hk.rel F p.1 q.2.1/\RelV p.2 q.2.2
def TG(K:aA)(F:Hp)(l:BL)(o:BO)(ks:List κ)(ds:List D):Prop:=
 ks.length=ds.length/\ks.length<=AL/\(l==AU)=false/\ks.Nodup/\∃ (vs:List V) (xs:List (κ×BL×BJ)) (es:Array DictEntry) (ep:Nat),RepL K F ds vs/\KG hk F (ks.zip vs) xs/\o.ExactDict/\o.data=.dict es ep/\es.toList=xs.map (entryOfKey hk.kind)/\(xs.map (·.1)).Nodup
variable {hk}{K:aA}{F F' H:Hp}{l:BL}{o:BO}{ks:List κ}{ds:List D}
theorem KG.mono{kvs:List (κ×V)}{xs:List (κ×BL×BJ)}(s:Same F F')(r:KG hk F kvs xs):KG hk F' kvs xs:=Paired.mapP r λ_ _ z=>⟨z.1,hk.mono s z.2.1,z.2.2⟩
theorem TG.mono(s:Same F F')(t:TG hk K F l o ks ds):TG hk K F' l o ks ds:=by obtain⟨h1,h2,h3,h4,vs,xs,es,ep,r,g,q⟩:=t;exact⟨h1,h2,h3,h4,vs,xs,es,ep,r.mono s,g.mono s,q⟩
theorem KG.all{h:BN}(ok:HOk P w H h){l:List (κ×V)}{m:List (κ×BL×BJ)}(q:KG hk H l m):∀x∈m,hk.kind.is h x.1 x.2.1:=by
 induction q with
 |nil=>intro x hx;exact nomatch hx
 |@cons p q ps qs hq t ih=>
  intro x hx
  rcases aX.mp hx with e|hx
  ·subst e;exact hk.ok ok (by rw[<-hq.1];exact hq.2.1)
  ·exact ih x hx
theorem KG.val{kvs:List (κ×V)}{xs:List (κ×BL×BJ)}(r:KG hk F kvs xs)(k:κ):RelO (gO kvs k) ((atKey xs k).map (·.2)):=by
 induction r with
 |nil=>exact True.intro
 |@cons p q ps qs h t ih=>
  obtain⟨h1,_,h2⟩:=h
  by_cases e:p.1=k
  ·have e':q.1=k:=h1.symm.trans e;have b:atKey (q::qs) k=some q.2:=by simp[atKey,iK,e']
   rw[iH e,b];exact h2
  ·have e':¬ q.1=k:=λz=>e (h1.trans z)
   have b:atKey (q::qs) k=atKey qs k:=by simp[atKey,iK,e']
   rw[gM e,b];exact ih
theorem KG.new{kvs:List (κ×V)}{xs:List (κ×BL×BJ)}(r:KG hk F kvs xs){k:κ}(hn:gO kvs k=none){b:BL}{y:V}{u:BJ}(hb:hk.rel F k b)(ry:RelV y u):KG hk F (kvs++[(k,y)]) (storedH xs k b u):=by
 have e:atKey xs k=none:=by
  have:=r.val k;rw[hn] at this;cases h:atKey xs k with
  |none=>rfl
  |some z=>rw[h] at this;cases this
 rw[storedH_new e];exact Paired.snoc r ⟨rfl,hb,ry⟩
theorem nM{k:κ}:∀ {ks:List κ}{xs:List V},k∉ks->gO (ks.zip xs) k=none
 |[],_,_=>rfl
 |_::_,[],_=>rfl
 |j::js,x::xs,h=>by rw[eG,gM (p:=(j,x)) (k:=k) (λe=>h ((show j=k from e)▸aH))];exact nM λz=>h (aF _ z)
theorem sV:∀ {ks:List κ}{xs:List V}{n:Nat}{k:κ}{x:V},ks.Nodup->ks[n]? =some k->xs[n]? =some x->gO (ks.zip xs) k=some x
 |[],_,n,_,_,_,h,_=>by simp at h
 |_::_,[],n,_,_,_,_,h=>by simp at h
 |j::js,y::ys,0,k,x,nd,h1,h2=>by
  have e1:j=k:=by simpa using h1
  have e2:y=x:=by simpa using h2
  rw[eG,iH e1,e2]
 |j::js,y::ys,n+1,k,x,nd,h1,h2=>by
  obtain⟨nj,nd⟩:=bG.mp nd;have h1:js[n]? =some k:=by simpa using h1
  have h2:ys[n]? =some x:=by simpa using h2
  rw[eG,gM (p:=(j,y)) (k:=k) (λe=>nj ((show j=k from e)▸aO h1))];exact sV nd h1 h2
theorem tF{k:κ}{ks:List κ}{xs:List V}(nd:ks.Nodup)(hl:ks.length=xs.length)(h:k∈ks):(gO (ks.zip xs) k).isSome=true:=by obtain⟨n,hn,rfl⟩:=cV h;rw[sV (n:=n) (x:=xs[n]'(by omega)) nd (by simp[hn]) (by simp[show n<xs.length by omega])];rfl
theorem TG.dict{h:BN}(ok:HOk P w H h)(s:Same F H)(hl:H l=some (exO l o))(t:TG hk K F l o ks ds):∃ (vs:List V) (xs:List (κ×BL×BJ)),RepL K F ds vs/\KG hk F (ks.zip vs) xs/\h.DictOfH hk.kind l xs/\xs.length<=AL/\(∀k,(atKey xs k).isSome=decide (k∈ks)):=by
 obtain⟨h1,h2,h3,h4,vs,xs,es,ep,r,g,q1,q2,q3,q4⟩:=t;have ho:h.get? l=some o:=(ok l _ hl).1;refine⟨vs,xs,r,g,⟨o,es,ep,ho,q1,q2,q3,KG.all ok (g.mono s),q4⟩, ?_,λk=> ?_⟩
 ·rw[<-Paired.length g,jO,r.len,<-h1,mM];exact h2
 ·have:=(g.val k).isSome_eq;rw[aFC] at this;rw[<-this]
  by_cases e:k∈ks
  ·rw[decide_eq_true e];exact tF h4 (by rw[r.len,h1]) e
  ·rw[decide_eq_false e,nM e];rfl
end
section
variable {P:AD}{w:AM}{κ:Type}[DecidableEq κ]
def GG(hk:HK P w κ)(K:aA)(l:BL)(ks:List κ)(ds:List D):V->Hp->Hp->Prop:=λv F H=>v=.ref l/\∃o,H l=some (exO l o)/\TG hk K F l o ks ds
noncomputable def oG(hk:HK P w κ)(K:aA)(l:BL)(ks:List κ)(ds:List D):Slot:=.ox [l] (GG hk K l ks ds)
noncomputable def gD(hk:HK P w κ)(K:aA)(ks:List κ)(ds:List D):D:=.any λv F=>∃l o,v=.ref l/\F l=some (exO l o)/\TG hk K F l o ks ds
variable {hk:HK P w κ}{K:aA}{H₀ F H:Hp}{σ:St}{sd:List Slot}{i:Nat}{l:BL}{ks:List κ}{ds:List D}{o:BO}
theorem TG.cell(t:TG hk K F l o ks ds):∀v,o.data≠ .cell v:=λv z=>by obtain⟨_,_,_,_,_,_,_,_,_,_,_,q,_⟩:=t;rw[q] at z;cases z
theorem vR(S:StF K H₀ F H σ sd)(hs:sd[i]? =some (oG hk K l ks ds)):σ[i]? =some (some (.ref l))/\F l=none/\∃o,H l=some (exO l o)/\TG hk K F l o ks ds:=by
 obtain⟨o,h1,v,h2,h3,h4⟩:=S.slots.get hs;obtain⟨e,ob,a,b⟩:=h4 F H (Same.refl _) λ_ _ _ q=>q
 subst e h2;exact⟨h1,(h3 l (cG l)).1,ob,a,b⟩
theorem aLp(hF:F l=none)(h1:H l=some (exO l o))(t:TG hk K F l o ks ds):iZ K F H (oG hk K l ks ds) (some (.ref l)):=
 ⟨.ref l,rfl,fun a ha=>by
  rw[aG.mp ha]
  exact⟨hF,_,h1,o,rfl,t.cell⟩,λF' H' s k=>⟨rfl,o,k l (cG l) _ h1,t.mono s⟩⟩
theorem gD_rep{v:V}:Rep K F (gD hk K ks ds) v↔∃l o,v=.ref l/\F l=some (exO l o)/\TG hk K F l o ks ds:=by
 simp only[gD,Rep]
 constructor
 ·exact λh=>h.2 F (Same.refl _)
 ·rintro⟨l,o,rfl,e,t⟩;exact⟨⟨l,rfl⟩,λF' s=>⟨l,o,rfl,s _ _ e,t.mono s⟩⟩
end
section
variable {X:Cx}{sd:List Slot}{e a b c tg iter:Expr}{es:List Expr}{pos:Pos}{d:D}{ds:List D}{κ:Type}[DecidableEq κ]{hk:HK X.prog X.w κ}{ks:List κ}{k:κ}{E:kR}{l:BL}
theorem pE(hk:HK X.prog X.w κ)(i:Nat){x:Str}{p p2:Pos}(hN:X.N.Nodup)(hi:X.N[i]? =some x)(hx:Loc X.env.scope x)(hE:∀l,E.nx (sd.set i (oG hk X.K l [] [])))(hs:Ad (.Dict [] [] p2) (some (.Name x p)) pos.line X.env=pure false:=by rfl)
  (hf:X.fn x=true\/X.env.scope.names.lookup x=some .local:=by first|exact .inl rfl|exact .inr rfl|assumption):PSd1 X sd (.Assign [.Name x p] (.Dict [] [] p2) pos) E:=.mk λσ F H S=>
 (qR hN hi hx aBy hs hf).to λq hq hm=>by
  have fp:F q=none:=S.sub.free hq
  have no:q∉cH sd:=λhl=>by obtain⟨_,ob,h,_⟩:=S.slots.owns hl;rw[hq] at h;cases h
  have S1:StF X.K X.B₀ F (upd H q (exO q aFX)) σ sd:=by
   refine⟨S.base,λb u e=> ?_,nN S.smp q,S.slots.mono (Same.refl _) λl hl=> ?_,S.nd⟩
   ·rw[bK (cI e fp)];exact S.sub _ _ e
   ·obtain⟨n,ys,y,_⟩:=S.slots.owns hl;have hne:l≠q:=cI y hq;exact⟨n,λys e=>by rw[bK hne];exact e⟩
  refine⟨_,F,S1.setT i (aLp (hk:=hk) (K:=X.K) (ks:=[]) (ds:=[]) fp bV ⟨rfl,bY _,hm,fH,[],[], #[],0,.nil,.nil,⟨rfl,rfl,rfl⟩,rfl,rfl,fH⟩) (by simp) λa ha=> ?_,Same.refl _,hE q⟩;rw[aG.mp ha];exact no
theorem pJ(i:Nat){x:Str}{p p2:Pos}(hu:X.A.units+2<AO)(hs:sd[i]? =some (oG hk X.K l ks ds))(hx:PE X (.Name x p) (lG i))(h:PEd X sd e (.val d))(hb:PEd X sd b (.val (hk.dat k)))(hnk:k∉ks)(hl:ds.length<=1000)(hE:E.nx (sd.set i (oG hk X.K l (ks++[k]) (ds++[d]))))
  (hsw:Ad e (some (.Subscript (.Name x p) b p2)) pos.line X.env=pure false:=by rfl):PSd1 X sd (.Assign [.Subscript (.Name x p) b p2] e pos) E:=.mk λσ F H S pins s I=>by
 refine wpAny_Assign_Subscript (thn (h σ F H S pins s I) λr s1 ⟨v,H1,I1,rv,F1,S1,sF1,q1⟩=> ?_) hsw;obtain⟨h1,_⟩:=vR S1 hs;refine thn (hx pins s1 σ H1 (λv H2=>v=.ref l/\H2=H1) I1 ⟨.ref l,h1,rfl,rfl⟩) λu s2 ⟨y,H2,I2,ry,e1,e2⟩=> ?_
 subst e1 e2;obtain rfl:u=Value.ref l:=ry;refine thn (hb σ F1 H2 S1 pins s2 I2) λiv s3 ⟨y,H3,I3,ry,F3,S3,sF3,q3⟩=> ?_
 obtain⟨g1,g2,o,g3,t⟩:=vR S3 hs;obtain⟨ad,rfl,ha⟩:=hk.key q3;obtain rfl:iv=Value.ref ad:=ry;obtain⟨vs,xs,r1,kg,dd,hz,hin⟩:=t.dict I3.hok S3.sub g3;obtain⟨t1,t2,t3,t4,_⟩:=t;refine wpAny_setItem_heap (hsz:=hz) (hk.room hu) (hk.ok I3.hok (hk.mono S3.sub ha)) dd λh' dd' hsm=> ?_
 obtain⟨q,es',ep',hq,u2,u3,u4,_,u5⟩:=dd';have I4:=oO (t':=s3.toks+hk.kind.draws k) I3 (ob:=exO l q) (by rw[g3];exact True.intro) hsm ⟨q,hq⟩ (tW hq);have lz:ks.length=vs.length:=by rw[t1,r1.len]
 have kg':=kg.new (nM hnk) ha rv;rw[<-tZ lz] at kg'
 have t':TG hk X.K F3 l q (ks++[k]) (ds++[d]):=⟨by rw [aP,aP,t1]; rfl,by
  rw[aP,t1];have:=hV hl;show ds.length+1<=AL
  omega,t3,bF.mpr ⟨t4,by simp,λa ha b hb e=>hnk (by rw[<-aG.mp hb,<-e];exact ha)⟩,vs++[v],_,es',ep',r1.app (.one (Rep.mono sF3 q1)),kg',u2,u3,u4,u5⟩
 refine⟨σ,_,I4,_,F3,S3.reT (z':=oG hk X.K l (ks++[k]) (ds++[d])) hs g1 (λb ob hb q=> ?_) (nN S3.smp l) (aLp g2 bV t') (show[l].Nodup by simp) λa ha=>.inl ha,sF1.trans sF3,hE⟩;rw[bK (show b≠l from λz=>hb (z▸cG l))];exact q
theorem rP(i:Nat){sts:List BP}(hs:sd[i]? =some (oG hk X.K l ks ds))(h:PSd X (sd.set i (.val (gD hk X.K ks ds))) sts E):PSd X sd sts E:=.mk λσ F H S=>by
 obtain⟨h1,h2,o,h3,t⟩:=vR S hs;have S0:=S.le (iG sd i);have no:l∉cH (sd.set i .un):=λhb=>jB S.nd hs (show l∈[l] from cG l) hb
 obtain⟨S1,s1⟩:=S0.inN (l:=l) (ls:=[]) (λa ha=>by rw[aG.mp ha];exact h2) λa ha=>by rw[aG.mp ha];exact no
 have f1:(inF F H [l]) l=some (exO l o):=by rw[aDi aH];exact h3
 have S2:=S1.set (d:=gD hk X.K ks ds) (v:=.ref l) i (gD_rep.mpr ⟨l,o,rfl,f1,t.mono s1⟩);rw[jY,lJ h1] at S2;exact aCJ s1 (h σ _ H S2)
structure PDc(X:Cx)(sd:List Slot)(e:Expr){κ:Type}[DecidableEq κ](hk:HK X.prog X.w κ)(ks:List κ)(ds:List D):Prop where
 get:∀ (σ:St) (F H:Hp),StF X.K X.B₀ F H σ sd->wE X e σ H λv H1=>∃F1 l,StF X.K X.B₀ F1 H1 σ sd/\Same F F1/\v=.ref l/\∀F2 H2,StF X.K X.B₀ F2 H2 σ sd->Same F1 F2->∃o,H2 l=some (exO l o)/\TG hk X.K F2 l o ks ds
theorem aAp(i:Nat){x:Str}{p:Pos}(hs:sd[i]? =some (oG hk X.K l ks ds))(hx:PE X (.Name x p) (lG i)):PDc X sd (.Name x p) hk ks ds:=⟨fun σ F H S=>hx.to (by
 obtain⟨h1,_⟩:=vR S hs
 exact⟨.ref l,h1,F,l,S,Same.refl _,rfl,λF2 H2 S2 _=>(vR S2 hs).2.2⟩)⟩
theorem sI(h:PEd X sd e (.val (gD hk X.K ks ds))):PDc X sd e hk ks ds:=⟨fun σ F H S=>(h σ F H S).imp fun v H1 ⟨F1,S1,s1,q1⟩=>by
 obtain⟨l,o,rfl,e,t⟩:=gD_rep.mp q1
 exact⟨F1,l,S1,s1,rfl,λF2 H2 S2 s2=>⟨o,S2.sub _ _ (s2 _ _ e),t.mono s2⟩⟩⟩
noncomputable def rIn(hk:HK X.prog X.w κ)(f:Bool->Bool):R2:=λx y H Q=>∃ (F:Hp) (ad l:BL) (o:BO) (k:κ) (ks:List κ) (ds:List D),x=.ref ad/\y=.ref l/\Same F H/\hk.rel F k ad/\H l=some (exO l o)/\TG hk X.K F l o ks ds/\X.A.units+2<AO/\Q (.bl (f (decide (k∈ks)))) H
theorem aIs:OpR X (AT .In) (rIn hk id):=by intro pins s σ H x y v u Q I rx ry h;obtain⟨F,ad,l,o,k,ks,ds,rfl,rfl,sF,ha,hl,t,hu,q⟩:=h;obtain rfl:v=Value.ref ad:=rx;obtain rfl:u=Value.ref l:=ry;obtain⟨vs,xs,_,_,dd,_,hin⟩:=t.dict I.hok sF hl;refine wpAny_in_heap (hk.room hu) (hk.ok I.hok (hk.mono sF ha)) t.2.2.1 dd ⟨.bl (decide (k∈ks)),H,I.tok _, ?_,q⟩;show Value.bool _=Value.bool _;rw[hin]
theorem aJC:OpR X (AT .NotIn) (rIn hk (!·)):=by intro pins s σ H x y v u Q I rx ry h;obtain⟨F,ad,l,o,k,ks,ds,rfl,rfl,sF,ha,hl,t,hu,q⟩:=h;obtain rfl:v=Value.ref ad:=rx;obtain rfl:u=Value.ref l:=ry;obtain⟨vs,xs,_,_,dd,_,hin⟩:=t.dict I.hok sF hl;refine wpAny_notIn_heap (hk.room hu) (hk.ok I.hok (hk.mono sF ha)) t.2.2.1 dd ⟨.bl (!decide (k∈ks)),H,I.tok _, ?_,q⟩;show Value.bool _=Value.bool _;rw[hin]
theorem aKh(hu:X.A.units+2<AO)(ha:PEd X sd a (.val (hk.dat k)))(hb:PDc X sd b hk ks ds)(hm:AV .In b=false:=by with_unfolding_all rfl):PTd X sd (.Compare a [.In] [b] pos) (decide (k∈ks)):=.mk λσ F H S=>
 (vI (aIs (hk:=hk)) fW fW hm).to ((ha σ F H S).imp fun v H1 ⟨F1,S1,s1,q1⟩=>(hb.get σ F1 H1 S1).imp fun u H2 ⟨F2,l,S2,s2,eu,g⟩=>by
  obtain⟨ad,rfl,hr⟩:=hk.key q1;obtain⟨o,g1,g2⟩:=g F2 H2 S2 (Same.refl _)
  exact⟨F2,ad,l,o,k,ks,ds,rfl,eu,S2.sub,hk.mono s2 hr,g1,g2,hu,_,rfl,rfl,F2,S2,s1.trans s2⟩)
theorem aGo(hu:X.A.units+2<AO)(ha:PEd X sd a (.val (hk.dat k)))(hb:PDc X sd b hk ks ds)(hm:AV .NotIn b=false:=by with_unfolding_all rfl):PTd X sd (.Compare a [.NotIn] [b] pos) (!decide (k∈ks)):=.mk λσ F H S=>
 (vI (aJC (hk:=hk)) fW fW hm).to ((ha σ F H S).imp fun v H1 ⟨F1,S1,s1,q1⟩=>(hb.get σ F1 H1 S1).imp fun u H2 ⟨F2,l,S2,s2,eu,g⟩=>by
  obtain⟨ad,rfl,hr⟩:=hk.key q1;obtain⟨o,g1,g2⟩:=g F2 H2 S2 (Same.refl _)
  exact⟨F2,ad,l,o,k,ks,ds,rfl,eu,S2.sub,hk.mono s2 hr,g1,g2,hu,_,rfl,rfl,F2,S2,s1.trans s2⟩)
theorem aAm{n:Nat}(hu:X.A.units+2<AO)(ha:PDc X sd a hk ks ds)(hb:PEd X sd b (.val (hk.dat k)))(hkn:ks[n]? =some k)(hd:ds[n]? =some d)(hsl:aOJ b):PEd X sd (.Subscript a b pos) (.val d):=.mk λσ F H S pins s I=>by
 refine aJt PySem.F.slot_dict_getitem.lookup hsl (thn (ha.get σ F H S pins s I) λu s1 ⟨y,H1,I1,ry,F1,l,S1,s1',ey,g⟩=> ?_);subst ey;obtain rfl:u=Value.ref l:=ry;refine thn (hb σ F1 H1 S1 pins s1 I1) λiv s2 ⟨y,H2,I2,ry,F2,S2,sF,q2⟩=> ?_
 obtain⟨o,g1,t⟩:=g F2 H2 S2 sF;obtain⟨ad,rfl,hr⟩:=hk.key q2;obtain rfl:iv=Value.ref ad:=ry;obtain⟨vs,xs,rl,kg,dd,_,_⟩:=t.dict I2.hok S2.sub g1;obtain⟨v,hv,rv⟩:=rl.get hd;obtain⟨w',hw,rw'⟩:=RelO.some_of (v:=v) (o:=(atKey xs k).map (·.2)) (by rw[<-sV t.2.2.2.1 hkn hv];exact kg.val k);obtain⟨pr,hp,hp2⟩:=eE.mp hw;refine⟨dd.typeIs,wpAny_getItem_heap (hk.room hu) (hk.ok I2.hok (hk.mono S2.sub hr)) dd hp ?_⟩;rw[hp2];exact⟨v,H2,I2.tok _,rw',F2,S2,s1'.trans sF,rv⟩
end
section
variable {prog:AD}{w:AM}{A:BM}{E:BJ->BK->Prop}{s:BK}{d it:BL}{od:BO}{es:Array DictEntry}{ep i:Nat}
theorem oS(g:s.heap.get? d=some od)(c:od.ExactDict):s.TypeIs (.ref d) "dict":=⟨od,g,c.1⟩
theorem aBz{Q:BJ->BK->Prop}(sm:(d==AU)=false)(g:s.heap.get? d=some od)(c:od.ExactDict)(e:od.data=.dict es ep)
  (q:Q (.ref s.heap.objs.size) {s with heap:=s.heap.push {cls:=.type "dict_keyiterator",data:=.fields #[.ref d,.int 0 0,.int es.size 0,.int ep 0]}}):AK (AH prog w) A (pyIter (.ref d)) Q E s:=by
 have ty:=oS g c;refine wpAny_pyIter_slot ty F.slot_dict_iter (AY F.slot_dict_iter ty F.entry_dict_iter (AA ?_) (F.args_dict_iter_1 _));unfold Builtin.Dict.dictSlotNone;refine AA (Ar ty (AB (a:=Value.ref d) (AA (m:=Builtin.Dict.showsAll d) ?_)));unfold Builtin.Dict.showsAll;rw[sm,if_neg bN];exact AB (AA (Aa g e (AA (BA g e (AA (AS (AB ⟨_,rfl,"dict_keyiterator",_,⟨_,bD _ rfl,rfl⟩,F.slot_dict_keyiterator_next.lookup,q⟩)))))))
theorem yU{Q:Option BJ->BK->Prop}(ki:s.heap.IsKeyIter it d i es.size ep)(g:s.heap.get? d=some od)(e:od.data=.dict es ep)(hi:i<es.size)
  (q:∀h',h'.IsKeyIter it d (i+1) es.size ep->Heap.SameBut it s.heap h'->Q (some es[i].key) {s with heap:=h'}):AK (AH prog w) A (pyNext (.ref it)) Q E s:=by
 have ty:=ki.typeIs;obtain⟨o,g1,c1,f1⟩:=ki;unfold pyNext;refine AA (wpAny_attempt (Ae (name:=Str.ofString "__next__") ty F.slot_dict_keyiterator_next (AY F.slot_dict_keyiterator_next ty F.entry_dict_keyiterator_next (AA (AB (AA (AA ?_)))) (F.args_dict_keyiterator_next_1 _))));refine AA (Am ty (AB (AA (wpAny_fieldsOf g1 f1 ?_))));rw[if_neg (by decide)];show AK _ _ (ite ((Value.ref d==Value.none)=true) _ _) _ _ _;rw[if_neg (c:=(Value.ref d==Value.none)=true) (λz=>by cases z)];refine AA (AB (AA (Aa g e ?_)));rw[if_neg (by simp)];refine AA (AB (AA (BA g e ?_)));rw[if_neg (by simp)];refine AB ?_;have ix:(if(i:Int)<0 then none else es[(i:Int).toNat]?)=some es[i]:=by rw[if_neg (by omega),fE,kH hi]
 simp only[ix]
 have up:(s.heap.update it (Obj.mapFields (·.setIfInBounds 1 (rawInt ((i:Int)+1))))).IsKeyIter it d (i+1) es.size ep:=
  ⟨_,jQ _ g1 (Obj.isFreed_of_fields (Obj.data_mapFields f1 _)),(Obj.cls_mapFields ..).trans c1,by rw[Obj.data_mapFields f1];simp[rawInt]⟩
 refine AA (AA (Am ty (AB (AA (wpAny_isOneOf_keyiter ty (AA (wpAny_setField g1 f1 (show(0:Nat)+1<4 by decide) (AA (Af ?_)))))))));refine AA (wpAny_isOneOf_keyiter up.typeIs ?_);exact AB (AB ⟨_,rfl,AB (q _ up (Heap.SameBut.update ..))⟩)
theorem aBk{Q:Option BJ->BK->Prop}{hp:BN}(hh:A.handled=none)(sb:Heap.ExtBut it s.heap hp)(q:∀h',Heap.ExtBut it s.heap h'->Q none {s with heap:=h'}):
  AK (AH prog w) A.in1 (newExc (.type "StopIteration") []>>=fun x=>(raiseNew x:Sem Fin)) (fun fin s'=>∃v,fin=Fin.done (Flow.ret v)∧AK (AH prog w) A (pure (some v)) Q E s') (fun e s'=>AK (AH prog w) A (do
   let b <-isInstance e (Value.type "StopIteration")
   if b=true then pure none else throw e) Q E s') {s with heap:=hp}:=by
 refine AA ?_;simp only[newExc,newTuple];refine AA (AS (AA (m:=firstArgMember _ _) (wpAny_of_eq (a:=Value.none) (by first|rfl|(simp only[firstArgMember];rfl)) (AS ?_ (by size_fits)))) (by size_fits));simp only[raiseNew];refine AA (wpAny_handled ?_);rw[show A.in1.handled=none from hh];refine AA (AB (wpAny_throw ?_));refine AA (wpAny_isInstance (T:="StopIteration") (b:=true) ⟨_,bD _ rfl,rfl⟩ isSubtype_stop ?_);exact AB (q _ ((sb.push _).push _))
theorem aBi{Q:Option BJ->BK->Prop}(hh:A.handled=none)(ki:s.heap.IsKeyIter it d i es.size ep)(g:s.heap.get? d=some od)(e:od.data=.dict es ep)(hi:es.size<=i)
  (q:∀h',Heap.ExtBut it s.heap h'->Q none {s with heap:=h'}):AK (AH prog w) A (pyNext (.ref it)) Q E s:=by
 have ty:=ki.typeIs;obtain⟨o,g1,c1,f1⟩:=ki;unfold pyNext;refine AA (wpAny_attempt (Ae (name:=Str.ofString "__next__") ty F.slot_dict_keyiterator_next (AY F.slot_dict_keyiterator_next ty F.entry_dict_keyiterator_next (AA (AB (AA (AA ?_)))) (F.args_dict_keyiterator_next_1 _))));refine AA (Am ty (AB (AA (wpAny_fieldsOf g1 f1 ?_))));rw[if_neg (by decide)];show AK _ _ (ite ((Value.ref d==Value.none)=true) _ _) _ _ _;rw[if_neg (c:=(Value.ref d==Value.none)=true) (λz=>by cases z)];refine AA (AB (AA (Aa g e ?_)));rw[if_neg (by simp)];refine AA (AB (AA (BA g e ?_)));rw[if_neg (by simp)];refine AB ?_;have ix:(if(i:Int)<0 then none else es[(i:Int).toNat]?)=none:=by rw[if_neg (by omega),fE,pC hi]
 simp only[ix];refine AA (AA (Am ty (AB (AA (wpAny_setField g1 f1 (show(0:Nat)<4 by decide) ?_)))));exact aBk hh (Heap.SameBut.update ..).extBut q
theorem aHf{R:Result->BK->Prop}(sm:(d==AU)=false):MeetsIn prog w (Builtin.«dict.items» ⟨[.ref d],[]⟩) (λ_ R s=>(∃od:BO,s.heap.get? d=some od/\od.ExactDict)/\R (.ok (.ret (.ref s.heap.objs.size))) {s with heap:=s.heap.push {cls:=.type "dict_items",data:=.fields #[.ref d]}}):=
 .of_wp λA R s ⟨⟨od,g,c⟩,q⟩=>by refine AA (m:=Builtin.Dict.noArgs "items" ⟨[.ref d],[]⟩) ?_;unfold Builtin.Dict.noArgs;refine AA (Ar (oS g c) (AB (a:=d) (AA (m:=Builtin.Dict.showsAll d) ?_)));unfold Builtin.Dict.showsAll;rw[sm,if_neg bN];exact AB (AA (AS (AB ⟨_,rfl,q⟩)))
theorem aFp{v:BL}{Q:BJ->BK->Prop}(hv:s.heap.IsItemsView v d)(g:s.heap.get? d=some od)(e:od.data=.dict es ep)
  (q:Q (.ref s.heap.objs.size) {s with heap:=s.heap.push {cls:=.type "dict_itemiterator",data:=.fields #[.none,.bool false,.ref d,.int 0 0,.int es.size 0,.int ep 0,.none,.none]}}):AK (AH prog w) A (pyIter (.ref v)) Q E s:=by
 have ty:=hv.typeIs;obtain⟨ov,g1,c1,f1⟩:=hv;refine wpAny_pyIter_slot ty F.slot_dict_items_iter (AY F.slot_dict_items_iter ty F.entry_dict_items_iter (AA (AB (AA (m:=Builtin.Dict_items.dictOf (.ref v)) ?_))) (F.args_dict_items_iter_1 _));unfold Builtin.Dict_items.dictOf;refine AA (wpAny_field g1 f1 (x:=.ref d) rfl (AB (AA ?_)));unfold Builtin.Dict_items.newIterator;refine AA (Aa g e (AA (BA g e ?_)));exact AS (AB ⟨_,rfl,"dict_itemiterator",_,⟨_,bD _ rfl,rfl⟩,F.slot_dict_itemiterator_next.lookup,q⟩) (by show(8:Nat)<=_;rw[Ao];decide)
theorem aFj{ok ov:BJ}{Q:Option BJ->BK->Prop}(ii:IsItemIter s.heap it d i es.size ep ok ov)(g:s.heap.get? d=some od)(e:od.data=.dict es ep)(hi:i<es.size)
  (q:∀h',IsItemIterOut h' it d (i+1) es.size ep es[i].key es[i].val s.heap.objs.size->h'.get? s.heap.objs.size=some {cls:=.type "tuple",data:=.seq #[es[i].key,es[i].val]}->h'.objs.size=s.heap.objs.size+1->(∀b o,b≠it->s.heap.get? b=some o->h'.get? b=some o)->Q (some (.ref s.heap.objs.size)) {s with heap:=h'}):AK (AH prog w) A (pyNext (.ref it)) Q E s:=by
 obtain⟨hp,gn,dr,tk,os⟩:=s;have ty:Shared.TypeIs ⟨hp,gn,dr,tk,os⟩ (.ref it) "dict_itemiterator":=⟨_,ii,rfl⟩;have il:it<hp.objs.size:=aU ii;have ni:hp.objs.size≠it:=iA il;unfold pyNext;refine AA (wpAny_attempt (Ae (name:=Str.ofString "__next__") ty F.slot_dict_itemiterator_next (AY F.slot_dict_itemiterator_next ty F.entry_dict_itemiterator_next (AA (AB (AA (AA ?_)))) (F.args_dict_itemiterator_next_1 _))));refine AA (Aj ty (AB (AA (wpAny_fieldsOf ii rfl ?_))));rw[if_pos (by decide)];show AK _ _ (ite ((Value.ref d==Value.none)=true) _ _) _ _ _;rw[if_neg (c:=(Value.ref d==Value.none)=true) (λz=>by cases z)];refine AA (AB (AA (Aa g e ?_)));rw[if_neg (by simp)];refine AA (AB (AA (BA g e ?_)));rw[if_neg (by simp)];refine AB ?_;have ix:(if(i:Int)<0 then none else es[(i:Int).toNat]?)=some es[i]:=by rw[if_neg (by omega),fE,kH hi]
 simp only[ix];refine AA (AA (Aj ty (AB (AA (wpAny_isOneOf_itemiter ty ?_)))));refine AA (m:=setField (.ref it) 3 (rawInt ((i:Int)+1))) (Ax ii (by simp) λh1 e1 b1=> ?_);have b1:Heap.SameBut it hp h1:=b1
 have e1:IsItemIter h1 it d (i+1) es.size ep ok ov:=by show h1.get? it=_;rw[show((i+1:Nat):Int)=(i:Int)+1 from rfl];exact e1
 have ty1:Shared.TypeIs ⟨h1,gn,dr,tk,os⟩ (.ref it) "dict_itemiterator":=⟨_,e1,rfl⟩;refine AA (Af (AA (wpAny_isOneOf_itemiter ty1 (AA (wpAny_isOneOf_itemiter ty1 ?_)))));show AK _ _ (Builtin.Dict_items.pairFromOwner (.ref it) 6 es[i].key es[i].val) _ _ _;unfold Builtin.Dict_items.pairFromOwner;refine AA (wpAny_newTuple ?_);obtain⟨h2,z2⟩:∃h2,h2=h1.push {cls:=.type "tuple",data:=.seq #[es[i].key,es[i].val]}:=⟨_,rfl⟩;have s1:h1.objs.size=hp.objs.size:=b1.1;have e2:IsItemIter h2 it d (i+1) es.size ep ok ov:=by rw[z2];exact aI _ e1
 have t2:h2.get? hp.objs.size=some {cls:=.type "tuple",data:=.seq #[es[i].key,es[i].val]}:=by rw[z2,<-s1];exact bD _ rfl
 have s2:h2.objs.size=hp.objs.size+1:=by rw[z2,qM,s1]
 have k2:∀b o,b≠it->hp.get? b=some o->h2.get? b=some o:=λb o ne q=>by rw[z2];exact aI _ (b1.extBut b o ne q)
 show AK _ _ (Builtin.Dict_items.ownedTupleIsFree (.ref it)>>=_) _ _ ⟨h1.push {cls:=.type "tuple",data:=.seq #[es[i].key,es[i].val]},gn,dr,tk,os⟩;rw[<-z2,s1];unfold Builtin.Dict_items.ownedTupleIsFree;refine AA (AA (wpAny_field e2 rfl (x:=.none) rfl (AB ?_)));rw[if_pos rfl];refine AA (wpAny_field e2 rfl (x:=ok) rfl (AA (wpAny_field e2 rfl (x:=ov) rfl (AA (Ax e2 (by simp) λh3 e3 b3=> ?_)))));refine AA (Ax e3 (by simp) λh4 e4 b4=>AA (Ax e4 (by simp) λh5 e5 b5=>AA (Ax e5 (by simp) λh6 e6 b6=> ?_)));have bb:∀b o,b≠it->h2.get? b=some o->h6.get? b=some o:=λb o ne q=>Heap.SameBut.extBut b6 b o ne (Heap.SameBut.extBut b5 b o ne (Heap.SameBut.extBut b4 b o ne (Heap.SameBut.extBut b3 b o ne q)))
 have sz:h6.objs.size=h2.objs.size:=(show h6.objs.size=h5.objs.size from b6.1).trans ((show h5.objs.size=h4.objs.size from b5.1).trans ((show h4.objs.size=h3.objs.size from b4.1).trans b3.1));exact AA (wpAny_letGo (AB (AB ⟨_,rfl,AB (q h6 e6 (bb _ _ ni t2) (sz.trans s2) λb o ne q=>bb b o ne (k2 b o ne q))⟩)))
theorem aGP{ok ov:BJ}{Q:Option BJ->BK->Prop}(hh:A.handled=none)(ii:IsItemIter s.heap it d i es.size ep ok ov)(g:s.heap.get? d=some od)(e:od.data=.dict es ep)(hi:es.size<=i)
  (q:∀h',Heap.ExtBut it s.heap h'->Q none {s with heap:=h'}):AK (AH prog w) A (pyNext (.ref it)) Q E s:=by
 have ty:s.TypeIs (.ref it) "dict_itemiterator":=⟨_,ii,rfl⟩;unfold pyNext;refine AA (wpAny_attempt (Ae (name:=Str.ofString "__next__") ty F.slot_dict_itemiterator_next (AY F.slot_dict_itemiterator_next ty F.entry_dict_itemiterator_next (AA (AB (AA (AA ?_)))) (F.args_dict_itemiterator_next_1 _))));refine AA (Aj ty (AB (AA (wpAny_fieldsOf ii rfl ?_))));rw[if_pos (by decide)];show AK _ _ (ite ((Value.ref d==Value.none)=true) _ _) _ _ _;rw[if_neg (c:=(Value.ref d==Value.none)=true) (λz=>by cases z)];refine AA (AB (AA (Aa g e ?_)));rw[if_neg (by simp)];refine AA (AB (AA (BA g e ?_)));rw[if_neg (by simp)];refine AB ?_;have ix:(if(i:Int)<0 then none else es[(i:Int).toNat]?)=none:=by rw[if_neg (by omega),fE,pC hi]
 simp only[ix];refine AA (AA (Aj ty (AB (AA (wpAny_setField ii rfl (show(2:Nat)<8 by decide) ?_)))));exact aBk hh (Heap.SameBut.update ..).extBut q
end
section
variable {P:AD}{w:AM}{κ:Type}[DecidableEq κ]{hk:HK P w κ}{K:aA}{F:Hp}{l:BL}{o:BO}{ks:List κ}{ds:List D}
theorem Paired.at{α β:Type}{R:α->β->Prop}{as:List α}{bs:List β}(p:Paired R as bs):∀ {n:Nat}{a:α},as[n]? =some a->∃b,bs[n]? =some b/\R a b:=by
 induction p with
 |nil=>intro n a h;simp at h
 |@cons x y xs ys r t ih=>
  intro n a h;cases n with
  |zero=>
   have:x=a:=by simpa using h
   subst this;exact⟨y,rfl,r⟩
  |succ n=>obtain⟨b,h1,h2⟩:=ih (by simpa using h);exact⟨b,by simpa using h1,h2⟩
theorem TG.ents(t:TG hk K F l o ks ds):∃ (es:Array DictEntry) (ep:Nat) (vs:List V),o.ExactDict/\o.data=.dict es ep/\es.size=ks.length/\RepL K F ds vs/\∀ (n:Nat) (k:κ),ks[n]? =some k->∃b v u,vs[n]? =some v/\es[n]? =some u/\u.key=.ref b/\RelV v u.val/\hk.rel F k b:=by
 obtain⟨h1,h2,h3,h4,vs,xs,es,ep,r,g,q1,q2,q3,q4⟩:=t;have zl:(ks.zip vs).length=ks.length:=by rw[jO,r.len,<-h1,mM]
 refine⟨es,ep,vs,q1,q2, ?_,r,λn k hn=> ?_⟩
 ·have:=congrArg qJ q3;rw[cC,aB,<-Paired.length g,zl] at this;exact this
 ·have nl:n<ks.length:=(aE.mp hn).1;have nv:n<vs.length:=by rw[r.len,<-h1];exact nl
  have hz:(ks.zip vs)[n]? =some (k,vs[n]):=kK.mpr ⟨hn,by simp[nv]⟩;obtain⟨b,hb,e1,e2,e3⟩:=Paired.at g hz;refine⟨b.2.1,vs[n],entryOfKey hk.kind b,by simp[nv], ?_,rfl,e3,e2⟩;rw[<-dW,q3,aQ,hb];rfl
end
noncomputable def ItG(a:BL)(o:BO)(es:Array DictEntry):It where
 go:=λi H=>H a=some (exO a o)/\i<es.size
 yld:=λi H x H'=>H'=H/\∃u b,es[i]? =some u/\u.key=.ref b/\x=.ref b
 stop:=λi H=>H a=some (exO a o)/\es.size<=i
theorem aCs{P:AD}{w:AM}{K:aA}{tg:Expr}{a:BL}{o:BO}{es:Array DictEntry}{ep:Nat}(hd:o.data=.dict es ep)(hr:∀ (i:Nat) (h:i<es.size),∃b,es[i].key=.ref b)(it:BL):aFG P w K tg (ItG a o es) [it] it (λi h=>h.IsKeyIter it a i es.size ep) where
 mem:=by simp
 obj:=λi h st b hb=>by
  have e:b=it:=by simpa using hb
  subst e;obtain⟨o,e,c,d⟩:=st;exact⟨o,e,λv z=>by rw[d] at z;cases z⟩
 keep:=λi h h' st k=>by obtain⟨o,e,c,d⟩:=st;exact⟨o,k it (by simp) o e,c,d⟩
 item:=by
  intro X hP hw hK hc i pins s σ H E I hf st hg;subst hP hw hK;obtain⟨hq,hx⟩:=hg;obtain⟨b,hb⟩:=hr i hx;have g:s.heap.get? a=some o:=(I.hok a _ hq).1;obtain⟨f0,f1,f2,f3,f4,f5⟩:=hf it (by simp);refine yU st g hd hx λh' st' sb=> ?_
  have I1:Inv X pins σ H {s with heap:=h'}:=I.turned (t':=s.toks) (λb o hb e=>(sb.2 b hb).trans e) f0 f1 f3 f4 f5;obtain⟨o',e,c,d⟩:=id st';exact⟨_,rfl,aFP (s:={s with heap:=h'}) e c d (by decide) ⟨.ref b,H,I1,hb,⟨rfl,es[i],b,by simp[hx],hb,rfl⟩,st',λb hb=>(hf b hb).1⟩⟩
 done:=by intro X hP hw hK hc i pins s σ H E I hf st hg;subst hP hw hK;obtain⟨hq,hx⟩:=hg;have g:s.heap.get? a=some o:=(I.hok a _ hq).1;obtain⟨f0,f1,f2,f3,f4,f5⟩:=hf it (by simp);exact aBi (I.ok.hd hc) st g hd hx λh' eb=>⟨rfl,I.turned (t':=s.toks) (λb o hb e=>eb b o hb e) f0 f1 f3 f4 f5⟩
 self:=λ_ _ _ _ _ st h=>wpAny_pyIter_keyiter st h
section
variable {X:Cx}{sd:List Slot}{e tg iter:Expr}{pos:Pos}{d:D}{ds:List D}{κ:Type}[DecidableEq κ]{hk:HK X.prog X.w κ}{ks:List κ}
theorem aEE(h:PEd X sd iter (.val (gD hk X.K ks ds))):PId X sd PT0 tg iter (ks.map hk.dat):=.mk λσ F H S pins s I=>by
 refine thn (h σ F H S pins s I) λv s1 ⟨x,H1,I1,r1,F1,S1,s1',q1⟩=> ?_
 obtain⟨a,o,rfl,ha,t⟩:=gD_rep.mp q1;cases r1;obtain⟨es,ep,vs,c,e,ez,r,hn⟩:=t.ents;have g:s1.heap.get? a=some o:=(I1.hok a _ (S1.sub _ _ ha)).1
 have hr:∀ (i:Nat) (h:i<es.size),∃b,es[i].key=.ref b:=λi hi=>by
  have il:i<ks.length:=by rw[<-ez];exact hi
  obtain⟨b,v,u,_,e2,e3,_⟩:=hn i ks[i] (by simp[il]);rw[kH hi] at e2;cases e2;exact⟨b,e3⟩
 refine aBz t.2.2.1 g c e ?_;refine⟨s1.heap.objs.size,[s1.heap.objs.size],_,ItG a o es,H1,rfl,I1.kept (t':=s1.toks) λb o e=>aI _ e,aCs e hr _,⟨_,bD _ rfl,rfl,rfl⟩,λb hb=> ?_,F1,S1,s1',λF' H' sF sH sm _ i=> ?_⟩
 ·have e:b=s1.heap.objs.size:=by simpa using hb
  subst e;exact I1.fpOk (aM _) (I1.hok.fresh (aM _))
 ·have ha':=sH _ _ (sF _ _ ha);refine⟨λhi=>⟨ha',by rw[ez];rw[aB] at hi;exact hi⟩,λhi=>⟨ha',by rw[ez];rw[aB] at hi;exact hi⟩,λx H2 dd hdd y=> ?_⟩;obtain⟨rfl,u,b,e1,e2,rfl⟩:=y;rw[aQ] at hdd;obtain⟨k,hk1,rfl⟩:=eE.mp hdd;obtain⟨b',v,u',_,e4,e5,_,rl⟩:=hn i k hk1;rw[e1] at e4;cases e4;rw[e2] at e5;cases e5;exact⟨F',Same.refl _,hk.back (hk.mono sF rl),λ_ _ _ S=>S⟩
end
noncomputable def aCF(d:BL):BO:={cls:=.type "dict_items",data:=.fields #[.ref d]}
def aMv:V->List V->Hp->VK->Prop:=λx vs H Q=>∃l o,x=.ref l/\vs=[]/\H l=some (exO l o)/\o.ExactDict/\(l==AU)=false/\∀p,H p=none->Q (.ref p) (upd H p (exO p (aCF l)))
section
variable {X:Cx}{o:Expr}{to:TE}{name:Str}{apos cpos:Pos}{id:String}{r:V->List V->Hp->VK->Prop}
theorem aGG:MtR X "dict.items" aMv:=by intro pins s σ H x vs v us Q I rx rv h;obtain⟨l,o,rfl,rfl,hl,c,sm,q⟩:=h;obtain rfl:v=Value.ref l:=rx;cases rv;have g:s.heap.get? l=some o:=(I.hok l _ hl).1;exact Av zN (oS g c) PySem.F.entry_dict_items (PySem.F.args_dict_items_1 _) (aHf (R:=λ_ _=>True) sm) ⟨⟨o,g,c⟩,.ref s.heap.objs.size,_,I.laid (a:=s.heap.objs.size) (o:=exO s.heap.objs.size (aCF l)) (t':=s.toks) (λ_ _ q=>aI _ q) (aM _) (tW (bD _ rfl)),rfl,q _ (I.hok.fresh (aM _))⟩
theorem aNe(pa:PlainAttrs "dict")(slot:PySem.Slot "dict" name id)(hty:typeOf (.builtin id)=pure (.type "method_descriptor"))(hm:MtR X id r)(ho:PE X o to)
  (hbase:BF o name X.env (eval o X.env)=eval o X.env:=by rfl) (hline:(apos.endLine==cpos.line)=true:=by rfl):PE X (.Call (.Attribute o name apos) [] [] cpos) (λσ H Q=>to σ H λx H1=>(∃l ob,x=.ref l/\H1 l=some (exO l ob)/\ob.ExactDict)/\r x [] H1 Q):=by
 intro pins s σ H Q I h;refine wpAny_Call_method0_late hbase hline (thn (ho pins s σ H _ I h) λv s1 ⟨x,H1,I1,r1,⟨l,ob,e1,e2,e3⟩,q1⟩=> ?_);subst e1;obtain rfl:v=Value.ref l:=r1;have hg:s1.heap.get? l=some ob:=(I1.hok l _ e2).1;exact⟨"dict",id,pa,slot,hty,⟨ob,hg,e3.1⟩,λa q=>by cases q;exact⟨ob,hg,e3.2.1⟩,Calls.callWith_builtin rfl (PySem.evalArgs_none (hm pins s1 σ H1 (.ref l) [] (.ref l) [] Q I1 rfl .nil q1))⟩
end
theorem aGB:entryFor table "dict_itemiterator.__iter__"=some Builtin.«dict_keyiterator.__iter__»:=entryFor_alias (id':="dict_keyiterator.__iter__") (by kernel_rfl) rfl (by decide+kernel) (by kernel_rfl)
noncomputable def ItI(a:BL)(o:BO)(es:Array DictEntry)(vs:List V):It where
 go:=λi H=>H a=some (exO a o)/\i<es.size
 yld:=λi H x H'=>∃q u b v,H q=none/\x=.ref q/\es[i]? =some u/\u.key=.ref b/\vs[i]? =some v/\H'=upd H q (.tup [.ref b,v])
 stop:=λi H=>H a=some (exO a o)/\es.size<=i
theorem aAJ{P:AD}{w:AM}{K:aA}{elts:List Expr}{kk:Nat}{pos:Pos}{a:BL}{o:BO}{es:Array DictEntry}{vs:List V}{ep:Nat}(hd:o.data=.dict es ep)(hr:∀ (i:Nat) (h:i<es.size),∃b v,es[i].key=.ref b/\vs[i]? =some v/\RelV v es[i].val)(it:BL):aFG P w K (.Tuple elts kk pos) (ItI a o es vs) [it] it (λi h=>∃ok ov,IsItemIter h it a i es.size ep ok ov) where
 mem:=by simp
 obj:=λi h st b hb=>by
  have e:b=it:=by simpa using hb
  subst e;obtain⟨ok,ov,e⟩:=st;exact⟨_,e,λv z=>by cases z⟩
 keep:=λi h h' st k=>by obtain⟨ok,ov,e⟩:=st;exact⟨ok,ov,k it (by simp) _ e⟩
 item:=by
  intro X hP hw hK hc i pins s σ H E I hf st hg;subst hP hw hK;obtain⟨hq,hx⟩:=hg;obtain⟨ok,ov,st⟩:=st;obtain⟨b,v,hb,hv,rv⟩:=hr i hx;have g:s.heap.get? a=some o:=(I.hok a _ hq).1;have f:=hf it (by simp);obtain⟨f0,f1,f2,f3,f4,f5⟩:=f;have isz:it<s.heap.objs.size:=aU st;refine aFj st g hd hx λh1 io ht hz kp=>⟨_,rfl,wpAny_letOwnedTupleGo_items io λh2 ii sb=> ?_⟩
  have sb:Heap.SameBut it h1 h2:=sb;have I1:Inv X pins σ H {s with heap:=h2}:=I.turned (t':=s.toks) (λb o hb e=>(sb.2 b hb).trans (kp b o hb e)) f0 f1 f3 f4 f5;have hn:H s.heap.objs.size=none:=I.hok.fresh (aM _);have g2:h2.get? s.heap.objs.size=some {cls:=.type "tuple",data:=.seq #[es[i].key,es[i].val]}:=(sb.2 _ (iA isz)).trans ht
  have I2:Inv X pins σ (upd H s.heap.objs.size (.tup [.ref b,v])) {s with heap:=h2}:=by
   refine I1.track hn I.sz (iA I.lt) (λy c q=> ?_) (λy hy=> ?_) ⟨by show 2<=AL;decide,[es[i].key,es[i].val],.cons hb (.cons rv .nil),⟨_,g2,rfl,⟨_,rfl⟩,rfl⟩⟩
   ·obtain⟨v,o,ho,_⟩:=I.cell y c q;exact bO (aU ho)
   ·exact bO (aU (I.pin y hy).1)
  refine⟨.ref s.heap.objs.size,_,I2,rfl,⟨_,es[i],b,v,hn,rfl,by simp[hx],hb,hv,rfl⟩,⟨_,_,ii⟩,λb hb=> ?_⟩;have z:b=it:=by simpa using hb
  subst z;rw[bK (bO isz)];exact f0
 done:=by intro X hP hw hK hc i pins s σ H E I hf st hg;subst hP hw hK;obtain⟨hq,hx⟩:=hg;obtain⟨ok,ov,st⟩:=st;have g:s.heap.get? a=some o:=(I.hok a _ hq).1;obtain⟨f0,f1,f2,f3,f4,f5⟩:=hf it (by simp);exact aGP (I.ok.hd hc) st g hd hx λh' eb=>⟨rfl,I.turned (t':=s.toks) (λb o hb e=>eb b o hb e) f0 f1 f3 f4 f5⟩
 self:=λ_ _ _ _ _ st h=>by obtain⟨ok,ov,st⟩:=st;have ty:Shared.TypeIs _ (.ref it) "dict_itemiterator":=⟨_,st,rfl⟩;exact wpAny_pyIter_slot ty qO (AY qO ty aGB (AB ⟨_,rfl,"dict_itemiterator",_,ty,PySem.F.slot_dict_itemiterator_next.lookup,h⟩) (PySem.F.args_dict_itemiterator_iter_1 _))
section
variable {X:Cx}{sd:List Slot}{e:Expr}{pos ap cp tp:Pos}{d:D}{ds:List D}{κ:Type}[DecidableEq κ]{hk:HK X.prog X.w κ}{ks:List κ}{elts:List Expr}{kk:Nat}
theorem aCj(h:PEd X sd e (.val (gD hk X.K ks ds)))(hbase:BF e "items" X.env (eval e X.env)=eval e X.env:=by rfl)(hline:(ap.endLine==cp.line)=true:=by rfl):
  PId X sd PT0 (.Tuple elts kk tp) (.Call (.Attribute e "items" ap) [] [] cp) ((ks.zip ds).map λp=>.tup [hk.dat p.1,p.2]):=.mk λσ F H S pins s I=>by
 have he:wE X (.Call (.Attribute e "items" ap) [] [] cp) σ H (fun v H1=>∃F1 a o p,v= .ref p∧H1 p=some (exO p (aCF a))∧StF X.K X.B₀ F1 H1 σ sd∧Same F F1∧F1 a=some (exO a o)∧TG hk X.K F1 a o ks ds):=(aNe gT zN PySem.F.type_dict_items aGG fW hbase hline).to ((h σ F H S).imp fun v H1 ⟨F1,S1,s1,q1⟩=>by
  obtain⟨a,o,rfl,ha,t⟩:=gD_rep.mp q1;obtain⟨es,ep,vs,c,_⟩:=t.ents;have hl:=S1.sub _ _ ha;refine⟨⟨a,o,rfl,hl,c⟩,a,o,rfl,rfl,hl,c,t.2.2.1,λp hp=> ?_⟩;obtain⟨S2,s2⟩:=S1.lay (o:=exO p (aCF a)) hp trivial
  exact⟨_,a,o,p,rfl,bV,S2,s1.trans s2,s2 _ _ ha,t.mono s2⟩)
 refine thn (he pins s I) λv s1 ⟨x,H1,I1,r1,F1,a,o,p,ex,hp,S1,s1',ha,t⟩=> ?_
 subst ex;cases r1;obtain⟨es,ep,vs,c,e,ez,r,hn⟩:=t.ents;have g:s1.heap.get? a=some o:=(I1.hok a _ (S1.sub _ _ ha)).1;have gp:s1.heap.get? p=some (aCF a):=(I1.hok p _ hp).1
 have hr:∀ (i:Nat) (h:i<es.size),∃b v,es[i].key=.ref b/\vs[i]? =some v/\RelV v es[i].val:=λi hi=>by
  have il:i<ks.length:=by rw[<-ez];exact hi
  obtain⟨b,v,u,e1,e2,e3,e4,_⟩:=hn i ks[i] (by simp[il]);rw[kH hi] at e2;cases e2;exact⟨b,v,e3,e1,e4⟩
 refine aFp ⟨_,gp,rfl,rfl⟩ g e ?_;have zl:((ks.zip ds).map λp=>D.tup [hk.dat p.1,p.2]).length=es.size:=by rw[aB,jO,<-t.1,mM,ez]
 refine⟨s1.heap.objs.size,[s1.heap.objs.size],_,ItI a o es vs,H1,rfl,I1.kept (t':=s1.toks) λb o e=>aI _ e,aAJ e hr _,⟨_,_,bD _ rfl⟩,λb hb=> ?_,F1,S1,s1',λF' H' sF sH sm _ i=> ?_⟩
 ·have e:b=s1.heap.objs.size:=by simpa using hb
  subst e;exact I1.fpOk (aM _) (I1.hok.fresh (aM _))
 ·have ha':=sH _ _ (sF _ _ ha);refine⟨λhi=>⟨ha',by rw[<-zl];exact hi⟩,λhi=>⟨ha',by rw[<-zl];exact hi⟩,λx H2 dd hdd y=> ?_⟩;obtain⟨q,u,b,v,hq,rfl,e1,e2,e3,rfl⟩:=y;rw[aQ] at hdd;obtain⟨⟨k,dv⟩,hz,rfl⟩:=eE.mp hdd;obtain⟨hk1,hd1⟩:=kK.mp hz;obtain⟨b',v',u',e0,e4,e5,_,rl⟩:=hn i k hk1;rw[e1] at e4;cases e4;rw[e2] at e5;cases e5;obtain⟨v2,e6,rv⟩:=r.get hd1;rw[e3] at e6;cases e6;have fq:F' q=none:=sH.free hq;have s2:Same F' (upd F' q (.tup [.ref b,v])):=λc u z=>by rw[bK (cI z fq)];exact z
  refine⟨upd F' q (.tup [.ref b,v]),s2, ?_,λH₀ σ sd S=>(S.lay (o:=.tup [.ref b,v]) hq trivial).1⟩;simp only[Rep];exact⟨q,_,rfl,bV,.cons (hk.back (hk.mono (sF.trans s2) rl)) (.one (rv.mono (sF.trans s2)))⟩
end
section
variable {prog:AD}{w:AM}{A:BM}{E:BJ->BK->Prop}{s:BK}{d:BL}{od:BO}{es:Array DictEntry}{ep:Nat}
theorem aCe(sm:(d==AU)=false):MeetsIn prog w (Builtin.«dict.__len__» ⟨[.ref d],[]⟩) (λ_ R s=>∃ (od:BO) (es:Array DictEntry) (ep:Nat),s.heap.get? d=some od/\od.ExactDict/\od.data=.dict es ep/\R (.ok (.ret (.int es.size s.toks))) {s with toks:=s.toks+1}):=
 .of_wp λA R s ⟨od,es,ep,g,c,e,q⟩=>by refine AA (m:=Builtin.Dict.dictSlotNone "__len__" ⟨[.ref d],[]⟩) ?_;unfold Builtin.Dict.dictSlotNone;refine AA (Ar (oS g c) (AB (a:=Value.ref d) (AA (AB (AA (m:=dictSize d) ?_)))));unfold dictSize;exact AA (Aa g e (AB (AA (wpAny_pendingCount_other sm (wpAny_ret_mkInt (by rw[show((es.size:Nat):Int)+((0:Nat):Int)=(es.size:Int) from Int.add_zero _];exact q))))))
theorem aEj{Q:BJ->BK->Prop}(sm:(d==AU)=false)(g:s.heap.get? d=some od)(c:od.ExactDict)(e:od.data=.dict es ep)(fit:es.size<=AL)(q:∀t t2,Q (.int es.size t) {s with toks:=t2}):AK (AH prog w) A (call (.builtin "len") [.ref d]) Q E s:=by
 have lim:AL=16777216:=Ao;have ty:=oS g c;refine Calls.call_function_entry kind_len plain_len entry_len (args_len1 _) ?_;refine AA (m:=oneArg "len" _) (AB (AA (m:=callSpecial? (.ref d) (Str.ofString "__len__")) (Ae (name:=Str.ofString "__len__") ty F.slot_dict_len (Av F.slot_dict_len ty F.entry_dict_len (F.args_dict_len_1 _) (aCe sm) ⟨od,es,ep,g,c,e, ?_⟩))));refine AA (Af (AB (AA (wpAny_letGo ?_))));refine BH (λz=>by omega) λ_=>BH (λz=>by omega) λ_=> ?_
 exact AA (wpAny_mkInt (AB ⟨_,rfl,q _ _⟩))
end
section
variable {X:Cx}{sd:List Slot}{e:Expr}{pos:Pos}{d:D}{ds:List D}{κ:Type}[DecidableEq κ]{hk:HK X.prog X.w κ}{ks:List κ}
theorem aFg:lY X (.builtin "len") (λxs H Q=>∃ (l:BL) (o:BO) (es:Array DictEntry) (ep:Nat),xs=[.ref l]/\H l=some (exO l o)/\o.ExactDict/\o.data=.dict es ep/\(l==AU)=false/\es.size<=AL/\Q (.int es.size) H):=by intro pins s σ H xs us Q I r h;obtain⟨l,o,es,ep,rfl,hl,c,e,sm,fit,q⟩:=h;obtain⟨u,rfl,rx⟩:=pO r;cases(show u=Value.ref l from rx);exact aEj sm (I.hok l _ hl).1 c e fit λt t2=>⟨.int es.size,H,I.tok _,⟨_,rfl⟩,q⟩
end
theorem vW{κ:Type}[DecidableEq κ]:∀ {ks:List κ}{xs:List V}{k:κ}{z:V},gO (ks.zip xs) k=some z->∃n:Nat,ks[n]? =some k/\xs[n]? =some z
 |[],_,_,_,h=>by cases h
 |_::_,[],_,_,h=>by cases h
 |j::js,y::ys,k,z,h=>by
  rw[eG] at h
  by_cases e:j=k
  ·rw[iH (p:=(j,y)) e] at h;cases h;exact⟨0,by simp[e],rfl⟩
  ·rw[gM (p:=(j,y)) e] at h;obtain⟨n,h1,h2⟩:=vW h;exact⟨n+1,by simpa using h1,by simpa using h2⟩
structure LyOk(K:aA)(F H:Hp)(p:Int)(L:Int->List D)(kvs:List (Key×V))(ls:List BL):Prop where
 live:∃ (lk:List Int) (dss:List (List D)),lk.Nodup/\lk.length=ls.length/\InD K F H ls dss/\(∀k,p<k->gO kvs (.inl k)=gO (lk.zip (ls.map V.ref)) k)/\(∀ (n:Nat) (k:Int),lk[n]? =some k->p<k/\dss[n]? =some (L k))/\∀k,p<k->k∉lk->L k=[]
 cur:(gO kvs (.inl p)=none/\L p=[])\/∃v,gO kvs (.inl p)=some v/\Rep K F (.lst (L p)) v
def GLy(K:aA)(l:BL)(p:Int)(L:Int->List D)(kvs:List (Key×V))(ls:List BL):V->Hp->Hp->Prop:=λv F H=>v=.ref l/\H l=some (.dK kvs)/\LyOk K F H p L kvs ls
noncomputable def oLy(K:aA)(l:BL)(p:Int)(L:Int->List D)(kvs:List (Key×V))(ls:List BL):Slot:=.ox (l::ls) (GLy K l p L kvs ls)
section
variable {K:aA}{H₀ F F' H H':Hp}{σ:St}{sd:List Slot}{i:Nat}{l:BL}{p:Int}{L:Int->List D}{ls:List BL}{kvs:List (Key×V)}
theorem LyOk.mono(o:LyOk K F H p L kvs ls)(s:Same F F')(k:∀a∈ls,∀ob,H a=some ob->H' a=some ob):LyOk K F' H' p L kvs ls:=by
 obtain⟨⟨lk,dss,h1,h2,h3,h4,h5,h6⟩,h7⟩:=o;refine⟨⟨lk,dss,h1,h2,h3.mono2 s k,h4,h5,h6⟩, ?_⟩
 rcases h7 with h|⟨v,q1,q2⟩
 ·exact .inl h
 ·exact .inr ⟨v,q1,q2.mono s⟩
theorem mQ(S:StF K H₀ F H σ sd)(hs:sd[i]? =some (oLy K l p L kvs ls)):σ[i]? =some (some (.ref l))/\(∀a∈l::ls,F a=none)/\(H l=some (.dK kvs)/\LyOk K F H p L kvs ls)/\(l::ls).Nodup:=by
 obtain⟨o,h1,v,h2,h3,h4⟩:=S.slots.get hs;obtain⟨e,g⟩:=h4 F H (Same.refl _) λ_ _ _ q=>q
 subst e h2;exact⟨h1,λa ha=>(h3 a ha).1,g,wV S.nd hs⟩
theorem tI(hF:∀a∈l::ls,F a=none)(h1:H l=some (.dK kvs))(o:LyOk K F H p L kvs ls):iZ K F H (oLy K l p L kvs ls) (some (.ref l)):=by
 refine⟨.ref l,rfl,λa ha=>⟨hF a ha, ?_⟩,λF' H' s k=>⟨rfl,k l aH _ h1,o.mono s λa ha ob e=>k a (aF _ ha) ob e⟩⟩
 rcases aX.mp ha with rfl|ha
 ·exact⟨_,h1,trivial⟩
 ·obtain⟨⟨lk,dss,_,_,h3,_⟩,_⟩:=o;obtain⟨t,ht⟩:=cW ha;obtain⟨_,xs,_,q,_⟩:=h3.get ht;exact⟨_,q,trivial⟩
theorem InD.erase:∀ {as:List BL}{dss:List (List D)} (n:Nat),InD K F H as dss->InD K F H (as.eraseIdx n) (dss.eraseIdx n)
 |[],[],n,h=>by simp;exact h
 |[],_::_,_,h=>h.elim
 |_::_,[],_,h=>h.elim
 |a::as,ds::dss,0,h=>h.2
 |a::as,ds::dss,n+1,h=>⟨h.1,InD.erase n h.2⟩
theorem yT:∀ {lk:List Int}{vs:List V}{n:Nat}{q k:Int},lk[n]? =some q->k≠q->gO ((lk.eraseIdx n).zip (vs.eraseIdx n)) k=gO (lk.zip vs) k
 |[],_,n,_,_,h,_=>by simp at h
 |j::js,[],n,q,k,h,ne=>by cases n<;>simp[List.eraseIdx]
 |j::js,y::ys,0,q,k,h,ne=>by
  have:j=q:=by simpa using h
  subst this;rw[eG,gM (p:=(j,y)) (λe=>ne e.symm)];rfl
 |j::js,y::ys,n+1,q,k,h,ne=>by
  have ih:=yT (vs:=ys) (show js[n]? =some q by simpa using h) ne;show gO ((j,y)::(js.eraseIdx n).zip (ys.eraseIdx n)) k=gO ((j,y)::js.zip ys) k
  by_cases e:j=k
  ·rw[iH (p:=(j,y)) e,iH (p:=(j,y)) e]
  ·rw[gM (p:=(j,y)) e,gM (p:=(j,y)) e,ih]
end
theorem tR{α β:Type}(f:α->β):∀ (l:List α) (n:Nat),(l.map f).eraseIdx n=(l.eraseIdx n).map f
 |[],_=>by simp
 |_::_,0=>rfl
 |a::l,n+1=>by show f a::(l.map f).eraseIdx n=f a::(l.eraseIdx n).map f;rw[tR f l n]
section
variable {X:Cx}{sd:List Slot}{e a b tg iter:Expr}{pos:Pos}{d:D}{ds:List D}{E:kR}{l:BL}{ls:List BL}{p:Int}{kvs:List (Key×V)}{L:Int->List D}
theorem aEO(p:Int)(i:Nat){x:Str}{p1 p2:Pos}(hN:X.N.Nodup)(hi:X.N[i]? =some x)(hx:Loc X.env.scope x)(hE:∀l,E.nx (sd.set i (oLy X.K l p (λ_=>[]) [] [])))(hs:Ad (.Dict [] [] p2) (some (.Name x p1)) pos.line X.env=pure false:=by rfl)
  (hf:X.fn x=true\/X.env.scope.names.lookup x=some .local:=by first|exact .inl rfl|exact .inr rfl|assumption):PSd1 X sd (.Assign [.Name x p1] (.Dict [] [] p2) pos) E:=.mk λσ F H S=>
 (qR hN hi hx aGh hs hf).to λq hq=>by
  have fp:F q=none:=S.sub.free hq
  have no:q∉cH sd:=λhl=>by obtain⟨_,ob,h,_⟩:=S.slots.owns hl;rw[hq] at h;cases h
  have S1:StF X.K X.B₀ F (upd H q (.dK [])) σ sd:=by
   refine⟨S.base,λb u e=> ?_,rW S.smp q trivial,S.slots.mono (Same.refl _) λl hl=> ?_,S.nd⟩
   ·rw[bK (cI e fp)];exact S.sub _ _ e
   ·obtain⟨n,ys,y,_⟩:=S.slots.owns hl;have hne:l≠q:=cI y hq;exact⟨n,λys e=>by rw[bK hne];exact e⟩
  refine⟨_,F,S1.setT i (tI (K:=X.K) (ls:=[]) (kvs:=[]) (λa ha=>by rw[aG.mp ha];exact fp) bV ⟨⟨[],[],fH,rfl,trivial,λ_ _=>rfl,λn k e=>by simp at e,λ_ _ _=>rfl⟩,.inl ⟨rfl,rfl⟩⟩) (by simp) λa ha=> ?_,Same.refl _,hE q⟩;rw[aG.mp ha];exact no
theorem aKu(i:Nat){sts:List BP}(hs:sd[i]? =some (oLy X.K l p L kvs ls))(h:∀ls',PSd X (sd.set i (oLy X.K l (p+1) L kvs ls')) sts E):PSd X sd sts E:=.mk λσ F H S=>by
 obtain⟨h1,h2,⟨g1,⟨lk,dss,o1,o2,o3,o4,o5,o6⟩,_⟩,nd⟩:=mQ S hs
 by_cases q:p+1∈lk
 ·obtain⟨n,hn⟩:=cW q;have nl:n<ls.length:=by rw[<-o2];exact(aE.mp hn).1
  have ha:ls[n]? =some ls[n]:=by simp[nl]
  generalize ls[n]=a at ha;have am:=aO ha;obtain⟨ds,xs,d1,d2,d3⟩:=o3.get ha;rw[(o5 n _ hn).2] at d1;cases d1;have S0:=S.le (iG sd i);have no:∀b∈l::ls,b∉cH (sd.set i .un):=λb hb z=>jB S.nd hs hb z
  obtain⟨S1,s1⟩:=S0.inN (l:=a) (ls:=[]) (λb hb=>by rw[aG.mp hb];exact h2 a (aF _ am)) λb hb=>by rw[aG.mp hb];exact no a (aF _ am)
  have fa:(inF F H [a]) a=some (.lst xs):=by rw[aDi aH];exact d2
  obtain⟨nd1,nd2⟩:=bG.mp nd
  have ne:∀b∈ls.eraseIdx n,b≠a:=λb hb z=>by obtain⟨m,mn,hm⟩:=vL.mp hb;subst z;obtain⟨m1,e1⟩:=aE.mp hm;obtain⟨n1,e2⟩:=aE.mp ha;exact mn ((fV nd2).mp (e1.trans e2.symm))
  have sub:∀b∈l::ls.eraseIdx n,b∈l::ls:=λb hb=>(aX.mp hb).elim (λz=>z▸aH) λz=>aF _ ((gJ ls n).subset z)
  have ok:LyOk X.K (inF F H [a]) H (p+1) L kvs (ls.eraseIdx n):=by
   refine⟨⟨lk.eraseIdx n,dss.eraseIdx n,o1.sublist (gJ _ _), ?_,(o3.erase n).mono2 s1 λ_ _ _ e=>e,λk hk=> ?_,λm k hm=> ?_,λk hk hm=> ?_⟩,.inr ⟨.ref a, ?_, ?_⟩⟩
   ·rw[lR,lR,o2]
   ·rw[o4 k (by omega),<-tR,yT hn (by omega)]
   ·have mk:∃j,j≠n/\lk[j]? =some k/\(dss.eraseIdx n)[m]? =dss[j]? :=by
     rw[List.getElem?_eraseIdx] at hm ⊢
     by_cases z:m<n
     ·rw[if_pos z] at hm ⊢;exact⟨m,by omega,hm,rfl⟩
     ·rw[if_neg z] at hm ⊢;exact⟨m+1,by omega,hm,rfl⟩
    obtain⟨j,jn,e1,e2⟩:=mk;obtain⟨e3,e4⟩:=o5 j k e1;refine⟨?_,e2.trans e4⟩
    have:k≠p+1:=λz=>by subst z;obtain⟨j1,f1⟩:=aE.mp e1;obtain⟨n1,f2⟩:=aE.mp hn;exact jn ((fV o1).mp (f1.trans f2.symm))
    omega
   ·refine o6 k (by omega) λz=>hm ?_
    obtain⟨j,hj⟩:=cW z;refine vL.mpr ⟨j,λw=> ?_,hj⟩;subst w;rw[hn] at hj;cases hj;omega
   ·rw[o4 (p+1) (by omega)];exact sV o1 hn (by rw[aQ,ha];rfl)
   ·simp only[Rep];exact⟨a,xs,rfl,fa,d3.mono s1⟩
  have S2:=S1.setT (v:= .ref l) i (tI (K:=X.K) (fun b hb=>by
   rw[aAZ (λz=> ?_)]
   ·exact h2 b (sub b hb)
   ·rcases aX.mp hb with rfl|hb
    ·exact nd1 ((aG.mp z)▸am)
    ·exact ne b hb (aG.mp z)) g1 ok) (bG.mpr ⟨λz=>nd1 ((gJ ls n).subset z),nd2.sublist (gJ _ _)⟩) λb hb=>no b (sub b hb)
  rw[jY,lJ h1] at S2;exact aCJ s1 (h _ σ _ H S2)
 ·have ok:LyOk X.K F H (p+1) L kvs ls:=by
   refine⟨⟨lk,dss,o1,o2,o3,λk hk=>o4 k (by omega),λn k hn=>⟨?_,(o5 n k hn).2⟩,λk hk=>o6 k (by omega)⟩,.inl ⟨?_,o6 _ (by omega) q⟩⟩
   ·have:=(o5 n k hn).1;have:k≠p+1:=λz=>q (z▸aO hn)
    omega
   ·rw[o4 _ (by omega)];exact nM q
  have S2:=S.reT (z':=oLy X.K l (p+1) L kvs ls) hs h1 (λb ob _ q=>q) S.smp (tI h2 g1 ok) nd λa ha=>.inl ha
  exact h _ σ F H S2
theorem aGA(i:Nat){x:Str}{p1 ap cp p5:Pos}(hu:X.A.units+1<AO)(hs:sd[i]? =some (oLy X.K l p L kvs ls))(hx:PE X (.Name x p1) (lG i))(hb:PEd X sd b (.val (.int p)))(m:M2 X (.Name x p1) "get" ap b (.List [] p5) cp):PEd X sd (.Call (.Attribute (.Name x p1) "get" ap) [b, .List [] p5] [] cp) (.val (.lst (L p))):=.mk λσ F H S=>
 (aGz hu hx fW fW m).to (by
  obtain⟨h1,_,⟨g1,_⟩,_⟩:=mQ S hs;refine⟨.ref l,h1,l,rfl,.inl ⟨kvs,.inl g1⟩,(hb σ F H S).imp λv1 H1 ⟨F1,S1,s1,q1⟩=>((PEd.val (iY (ds:=[]) aR (bY _)):PEd X sd (.List [] p5) (.val (.lst []))) σ F1 H1 S1).imp λv2 H2 ⟨F2,S2,s2,q2⟩=> ?_⟩;obtain⟨_,_,⟨g1,_,cur⟩,_⟩:=mQ S2 hs;simp only[ResOk,Rep] at q1;subst q1;refine⟨gO kvs (.inl p),.k (k:=.inl p) g1,F2,S2,s1.trans s2, ?_⟩
  rcases cur with⟨e1,e2⟩|⟨v,e1,e2⟩
  ·rw[e1,e2];exact q2
  ·rw[e1]
   exact e2)
end
noncomputable def mD(L:Int->List D)(k:Int)(ds:List D):Int->List D:=λj=>if j=k then ds else L j
theorem vC(L:Int->List D)(k:Int)(ds:List D):mD L k ds k=ds:=if_pos rfl
theorem qC(L:Int->List D){k j:Int}(ds:List D)(h:j≠k):mD L k ds j=L j:=if_neg h
theorem qW{n:Nat}(h:n<=100000):n<AL:=by have:=Ao;omega
section
variable {K:aA}{F H:Hp}{p:Int}{L:Int->List D}{ls:List BL}{kvs:List (Key×V)}{l a:BL}
theorem LyOk.new{k:Int}(o:LyOk K F H p L kvs ls)(hk:p<k)(hn:gO kvs (.inl k)=none)(ha:H a=some (.lst [])):LyOk K F H p (mD L k []) (kvs++[(.inl k,.ref a)]) (ls++[a]):=by
 obtain⟨⟨lk,dss,o1,o2,o3,o4,o5,o6⟩,cur⟩:=o
 have nk:k∉lk:=λz=>by have:=tF (xs:=ls.map V.ref) o1 (by rw[aB,o2]) z;rw[<-o4 k hk,hn] at this;cases this
 have vs:∀j:Int,gO (kvs++[((.inl k:Key),V.ref a)]) (.inl j)=if j=k then some (.ref a) else gO kvs (.inl j):=λj=>by
  rw[nX _ _ _ kvs hn]
  by_cases e:j=k
  ·rw[if_pos e,if_pos (congrArg Sum.inl e)]
  ·rw[if_neg e,if_neg λz=>e (Sum.inl.inj z)]
 have vz:∀j:Int,gO ((lk++[k]).zip ((ls++[a]).map V.ref)) j=if j=k then some (.ref a) else gO (lk.zip (ls.map V.ref)) j:=λj=>by rw[aW,aKM (by rw[aB,o2])];exact nX _ _ _ _ (nM nk)
 refine⟨⟨lk++[k],dss++[[]],bF.mpr ⟨o1,by simp,λx hx y hy e=>nk (by rw[<-aG.mp hy,<-e];exact hx)⟩,by rw[aP,aP,o2];rfl,InD.snoc o3 ha,λj hj=>by rw[vs,vz,o4 j hj],λn j hj=> ?_,λj hj nj=> ?_⟩, ?_⟩
 ·have dl:dss.length=lk.length:=by rw[<-o3.len,o2]
  by_cases z:n<lk.length
  ·rw[cT z] at hj;obtain⟨e1,e2⟩:=o5 n j hj;refine⟨e1, ?_⟩;rw[cT (by omega),e2,qC L [] (λw=>nk (by rw[<-w];exact aO hj))]
  ·rw[dX (by omega)] at hj
   have n0:n-lk.length=0:=by have:=(aE.mp hj).1;simp at this;omega
   rw[n0] at hj;cases hj;refine⟨hk, ?_⟩;rw[dX (by omega),dl,n0,vC];rfl
 ·by_cases e:j=k
  ·rw[e,vC]
  ·rw[qC L [] e];exact o6 j hj λz=>nj (bW _ z)
 ·have ne:p≠k:=aPg hk;rw[vs,if_neg ne,qC L [] ne];exact cur
theorem LyOk.at{k:Int}{z:V}(o:LyOk K F H p L kvs ls)(hk:p<k)(hz:gO kvs (.inl k)=some z):∃ (n:Nat) (b:BL) (xs:List V),z=.ref b/\ls[n]? =some b/\H b=some (.lst xs)/\RepL K F (L k) xs:=by obtain⟨⟨lk,dss,o1,o2,o3,o4,o5,o6⟩,cur⟩:=o;rw[o4 k hk] at hz;obtain⟨n,e1,e2⟩:=vW hz;rw[aQ] at e2;obtain⟨b,e3,rfl⟩:=eE.mp e2;obtain⟨ds,xs,d1,d2,d3⟩:=o3.get e3;rw[(o5 n k e1).2] at d1;cases d1;exact⟨n,b,xs,rfl,e3,d2,d3⟩
theorem LyOk.wr{k:Int}{b:BL}{ds:List D}{ys:List V}(o:LyOk K F H p L kvs ls)(nd:ls.Nodup)(hk:p<k)(hz:gO kvs (.inl k)=some (.ref b))(r:RepL K F ds ys):LyOk K F (upd H b (.lst ys)) p (mD L k ds) kvs ls:=by
 obtain⟨⟨lk,dss,o1,o2,o3,o4,o5,o6⟩,cur⟩:=o;have hz':=hz;rw[o4 k hk] at hz';obtain⟨n,e1,e2⟩:=vW hz';rw[aQ] at e2;obtain⟨b',e3,e4⟩:=eE.mp e2;cases e4;have nl:n<dss.length:=by rw[<-o3.len];exact(aE.mp e3).1
 refine⟨⟨lk,dss.set n ds,o1,o2,o3.set nd e3 r,o4,λm j hj=> ?_,λj hj nj=> ?_⟩, ?_⟩
 ·obtain⟨f1,f2⟩:=o5 m j hj;refine⟨f1, ?_⟩
  by_cases e:m=n
  ·subst e;rw[e1] at hj;cases hj;rw[jG nl,vC]
  ·have:j≠k:=fun z=>e (by
    subst z;obtain⟨a1,a2⟩:=aE.mp hj;obtain⟨b1,b2⟩:=aE.mp e1
    exact(fV o1).mp (a2.trans b2.symm))
   rw[lQ (Ne.symm e),f2,qC L ds this]
 ·have:j≠k:=λz=>nj (z▸aO e1)
  rw[qC L ds this];exact o6 j hj nj
 ·rw[qC L ds (aPg hk)];exact cur
end
section
variable {X:Cx}{sd:List Slot}{e a b:Expr}{pos:Pos}{d:D}{ds:List D}{E:kR}{l:BL}{ls:List BL}{p:Int}{kvs:List (Key×V)}{L:Int->List D}
theorem aEY(i:Nat){x:Str}{p1 ap1 cp1 p5 ap cp:Pos}{k:Int}(hs:sd[i]? =some (oLy X.K l p L kvs ls))(hx:PE X (.Name x p1) (lG i))(hb:PEd X sd b (.val (.int k)))(h:∀z,PEd X (sd.set i z) e (.val d))(hpk:p<k)(hc:kvs.length<=100000)(hl:(L k).length<=100000)
  (hE:∀kvs' ls',kvs'.length<=kvs.length+1->E.nx (sd.set i (oLy X.K l p (mD L k (L k++[d])) kvs' ls')))
  (hm:PE X (.Call (.Attribute (.Call (.Attribute (.Name x p1) "setdefault" ap1) [b, .List [] p5] [] cp1) "append" ap) [e] [] cp)
   (tBM X.K "list" qB (tBM X.K "dict" rSI (lG i) (lD (wE X b) (lD (wE X (.List [] p5)) uA))) (lD (wE X e) uA)):=by exact zJ iR nD nE tM (zJ gT jD uV aMM (pv _) (fX fW (fX fW pa_nil))) (fX fW pa_nil))
  (hsw:Ad (.Call (.Attribute (.Call (.Attribute (.Name x p1) "setdefault" ap1) [b, .List [] p5] [] cp1) "append" ap) [e] [] cp) none pos.line X.env=pure false:=by rfl):
  PSd1 X sd (.Expr (.Call (.Attribute (.Call (.Attribute (.Name x p1) "setdefault" ap1) [b, .List [] p5] [] cp1) "append" ap) [e] [] cp) pos) E:=.mk λσ F H S=>
 (pW hm hsw).to (by
  have il:i<sd.length:=(aE.mp hs).1
  have fin:∀ (F2 H2:Hp) (L2:Int->List D) (kvs2:List (Key×V)) (ls2:List BL) (ad:BL),StF X.K X.B₀ F2 H2 σ (sd.set i (oLy X.K l p L2 kvs2 ls2))->Same F F2->L2 k=L k->mD L2 k (L k++[d])=mD L k (L k++[d])->kvs2.length<=kvs.length+1->gO kvs2 (.inl k)=some (.ref ad)->
    tyV X.K "list" (.ref ad) H2/\(lD (wE X e) uA) σ H2 λxs H3=>qB (.ref ad) xs H3 λ_ H4=>(lft X F E).nx σ H4:=λF2 H2 L2 kvs2 ls2 ad S2 s2 eL eU hl2 hv=>by
   have hs2:(sd.set i (oLy X.K l p L2 kvs2 ls2))[i]? =some (oLy X.K l p L2 kvs2 ls2):=jG il;obtain⟨_,_,⟨_,o⟩,_⟩:=mQ S2 hs2;obtain⟨n,b',xs,ez,hn,hb',rb⟩:=o.at hpk hv;cases ez;refine⟨.inl ⟨rfl,xs,.of hb'⟩,(h _ σ F2 H2 S2).imp λv H3 ⟨F3,S3,s3,q3⟩=> ?_⟩;obtain⟨f1,f2,⟨f3,o'⟩,f5⟩:=mQ S3 hs2;obtain⟨n',b2,xs3,ez,hn',u2,u3⟩:=o'.at hpk hv;cases ez;obtain⟨nd1,nd2⟩:=bG.mp f5;have am:=aO hn';have nl:l≠ad:=λz=>nd1 (z▸am)
   have o2:=o'.wr nd2 hpk hv (u3.app (.one q3))
   have W:StF X.K X.B₀ F3 (upd H3 ad (.lst (xs3++[v]))) σ ((sd.set i (oLy X.K l p L2 kvs2 ls2)).set i (oLy X.K l p (mD L2 k (L2 k++[d])) kvs2 ls2)):=S3.reT (z':=oLy X.K l p (mD L2 k (L2 k++[d])) kvs2 ls2) hs2 f1 (fun b ob hb q=>by
    rw[bK (show b≠ad from λz=>hb (z▸aF _ am))]
    exact q) (rW S3.smp ad trivial) (tI f2 (by rw[bK nl];exact f3) o2) f5 λa ha=>.inl ha
   rw[jY,eL,eU] at W;exact⟨ad,xs3,v,rfl,rfl,u2,by rw[u3.len,eL];exact qW hl,_,F3,W,s2.trans s3,hE kvs2 ls2 hl2⟩
  obtain⟨h1,h2,⟨h3,_⟩,_⟩:=mQ S hs;refine⟨.ref l,h1,.inr (.inr (.inl ⟨rfl,.inl ⟨_,h3⟩⟩)),(hb σ F H S).imp λv1 H1 ⟨F1,S1,s1,q1⟩=>((iY (ds:=[]) aR (bY _):PEd X sd (.List [] p5) (.own [])) σ F1 H1 S1).imp λv2 H2 ⟨F2,S2,s2,q2⟩=> ?_⟩;obtain⟨g1,g2,⟨g3,o⟩,g5⟩:=mQ S2 hs;simp only[ResOk,Rep] at q1;subst q1;obtain⟨a,xs,rfl,fa,ha2,rl2,na⟩:=q2;have xn:xs=[]:=dJ (by rw[rl2.len];rfl);subst xn;refine⟨l,.inl k,.ref a,kvs,rfl,rfl,g3,qW hc,λz hz=> ?_,λhz=> ?_⟩
  ·obtain⟨n,b',xs,ez,_⟩:=o.at hpk hz;subst ez;have S2':StF X.K X.B₀ F2 H2 σ (sd.set i (oLy X.K l p L kvs ls)):=by rw[yJ hs];exact S2
   exact fin F2 H2 L kvs ls b' S2' (s1.trans s2) rfl rfl (kG _) hz
  ·have hne:a∉l::ls:=λz=>na (dO.mpr ⟨_,aO hs,z⟩)
   have hal:a≠l:=λz=>hne (z▸aH)
   have e0:L k=[]:=by
    obtain⟨⟨lk,dss,o1,o2,o3,o4,o5,o6⟩,_⟩:=o;refine o6 k hpk λz=> ?_
    have:=tF (xs:=ls.map V.ref) o1 (by rw[aB,o2]) z;rw[<-o4 k hpk,hz] at this;cases this
   have S3:StF X.K X.B₀ F2 (upd H2 l (.dK (kvs++[((Sum.inl k:Key),V.ref a)]))) σ (sd.set i (oLy X.K l p (mD L k []) (kvs++[((Sum.inl k:Key),V.ref a)]) (ls++[a]))):=by
    refine S2.reT (z':=oLy X.K l p (mD L k []) (kvs++[((Sum.inl k:Key),V.ref a)]) (ls++[a])) hs g1 (λb ob hb q=> ?_) (rW (o:=.dK (kvs++[((Sum.inl k:Key),V.ref a)])) S2.smp l trivial) (tI (λb hb=> ?_) bV ?_) ?_ λb hb=> ?_
    ·rw[bK (show b≠l from λz=>hb (z▸aH))];exact q
    ·rcases aX.mp hb with rfl|hb
     ·exact g2 _ aH
     ·rcases aY.mp hb with hb|hb
      ·exact g2 b (aF _ hb)
      ·rw[aG.mp hb];exact fa
    ·refine LyOk.new (o.mono (Same.refl _) λb hb ob q=> ?_) hpk hz ?_
     ·rw[bK (show b≠l from λz=>(bG.mp g5).1 (z▸hb))];exact q
     ·rw[bK hal];exact ha2
    ·show(l::(ls++[a])).Nodup;refine bG.mpr ⟨λz=> ?_,bF.mpr ⟨(bG.mp g5).2,by simp,λx hx y hy e=> ?_⟩⟩
     ·rcases aY.mp z with z|z
      ·exact(bG.mp g5).1 z
      ·exact hal (aG.mp z).symm
     ·rw[aG.mp hy] at e;exact hne (aF _ (e▸hx))
    ·rcases aX.mp hb with rfl|hb
     ·exact .inl aH
     ·rcases aY.mp hb with hb|hb
      ·exact .inl (aF _ hb)
      ·rw[aG.mp hb];exact .inr na
   refine fin F2 _ (mD L k []) _ _ a S3 (s1.trans s2) (by rw[vC,e0]) (funext λj=> ?_) (by rw[aP];exact aM _) (by rw[nX _ _ _ kvs hz,if_pos rfl]);unfold mD
   by_cases z:j=k
   ·rw[if_pos z,if_pos z]
   ·rw[if_neg z,if_neg z,if_neg z])
theorem aFd(i:Nat){x:Str}{p1 p2 p3:Pos}{j:Nat}{k:Int}(hs:sd[i]? =some (oLy X.K l p L kvs ls))(h:PEd X sd e (.own ds))(hpk:p<k)(hn:gO kvs (.inl k)=none)(hc:kvs.length<=100000)(hE:∀a ls',E.nx (sd.set i (oLy X.K l p (mD L k ds) (kvs++[(.inl k,.ref a)]) ls')))
  (hm:PS X (.Assign [.Subscript (.Name x p1) (.Constant (.int k) j p3) p2] e pos) (aLk (lG i) (tC (.int k)) (wE X e))):PSd1 X sd (.Assign [.Subscript (.Name x p1) (.Constant (.int k) j p3) p2] e pos) E:=.mk λσ F H S=>
 hm.to ((h σ F H S).imp fun v H1 ⟨F1,S1,s1,q1⟩=>by
  obtain⟨g1,g2,⟨g3,o⟩,g5⟩:=mQ S1 hs;obtain⟨a,xs,rfl,fa,ha2,rl2,na⟩:=q1;have hne:a∉l::ls:=λz=>na (dO.mpr ⟨_,aO hs,z⟩)
  have hal:a≠l:=λz=>hne (z▸aH)
  refine⟨.ref l,g1,l,_,rfl,DPut.k (k:=.inl k) g3 (qW hc), ?_⟩;rw[pN _ hn]
  have o1:LyOk X.K F1 (upd (upd H1 a (.lst [])) l (.dK (kvs++[((Sum.inl k:Key),V.ref a)]))) p (mD L k []) (kvs++[((Sum.inl k:Key),V.ref a)]) (ls++[a]):=by
   refine LyOk.new (o.mono (Same.refl _) λb hb ob q=> ?_) hpk hn ?_
   ·rw[bK (show b≠l from λz=>(bG.mp g5).1 (z▸hb)),bK (show b≠a from λz=>hne (z▸aF _ hb))];exact q
   ·rw[bK hal,bV]
  have nd:(l::(ls++[a])).Nodup:=by
   refine bG.mpr ⟨λz=> ?_,bF.mpr ⟨(bG.mp g5).2,by simp,λx hx y hy e=> ?_⟩⟩
   ·rcases aY.mp z with z|z
    ·exact(bG.mp g5).1 z
    ·exact hal (aG.mp z).symm
   ·rw[aG.mp hy] at e;exact hne (aF _ (e▸hx))
  have o2:=o1.wr (bG.mp nd).2 hpk (by rw[nX _ _ _ kvs hn,if_pos rfl]) rl2
  have eH:upd (upd (upd H1 a (.lst [])) l (.dK (kvs++[((Sum.inl k:Key),V.ref a)]))) a (.lst xs)=upd H1 l (.dK (kvs++[((Sum.inl k:Key),V.ref a)])):=funext λb=>by
   by_cases z:b=a
   ·rw[z,bV,bK hal,ha2]
   ·rw[bK z]
    by_cases z2:b=l
    ·rw[z2,bV,bV]
    ·rw[bK z2,bK z,bK z2]
  have eL:mD (mD L k []) k ds=mD L k ds:=funext λj=>by
   unfold mD
   by_cases z:j=k
   ·rw[if_pos z,if_pos z]
   ·rw[if_neg z,if_neg z,if_neg z]
  rw[eH,eL] at o2;refine⟨_,F1,S1.reT (z':=oLy X.K l p (mD L k ds) (kvs++[((Sum.inl k:Key),V.ref a)]) (ls++[a])) hs g1 (λb ob hb q=> ?_) (rW (o:=.dK (kvs++[((Sum.inl k:Key),V.ref a)])) S1.smp l trivial) (tI (λb hb=> ?_) bV o2) nd (λb hb=> ?_),s1,hE a _⟩
  ·rw[bK (show b≠l from λz=>hb (z▸aH))];exact q
  ·rcases aX.mp hb with rfl|hb
   ·exact g2 _ aH
   ·rcases aY.mp hb with hb|hb
    ·exact g2 b (aF _ hb)
    ·rw[aG.mp hb];exact fa
  ·rcases aX.mp hb with rfl|hb
   ·exact .inl aH
   ·rcases aY.mp hb with hb|hb
    ·exact .inl (aF _ hb)
    ·rw[aG.mp hb]
     exact .inr na)
end
namespace S45
variable {T:Type}[DecidableEq T](n:Nat)(pr:Nat->Int)(beh:Nat->T->T)(t0:T)
noncomputable abbrev Ent(T:Type):=Int×List Nat×T
noncomputable abbrev Lay(T:Type):=Int->List (List Nat×T)
noncomputable def tabQ(row:List Nat):T:=row.foldl (λt k=>beh k t) t0
noncomputable def prQ(row:List Nat):Int:=(row.map pr).sum
theorem tab_snoc(row:List Nat)(k:Nat):tabQ beh t0 (row++[k])=beh k (tabQ beh t0 row):=by unfold tabQ;rw[jU];rfl
theorem pr_snoc(row:List Nat)(k:Nat):prQ pr (row++[k])=prQ pr row+pr k:=by unfold prQ;rw[aW,pP];simp
noncomputable def put(t:Int)(row:List Nat)(tab:T):Nat->Lay T->Lay T
 |0,ly=>ly
 |k+1,ly=>λj=>if j=t+pr k then put t row tab k ly j++[(row++[k],beh k tab)] else put t row tab k ly j
noncomputable def one(t:Int)(s:List (Ent T)×Lay T)(e:List Nat×T):List (Ent T)×Lay T:=if e.2∉s.1.map (λx=>x.2.2)/\s.1.length<=600 then(s.1++[(t,e.1,e.2)],put pr beh t e.1 e.2 n s.2) else s
noncomputable def aNA:Lay T:=λj=>if j=0 then[([],t0)] else[]
noncomputable def run:Nat->List (Ent T)×Lay T
 |0=>([],aNA t0)
 |t+1=>((run t).2 t).foldl (one n pr beh t) (run t)
theorem pS(t:Int)(row:List Nat)(tab:T)(ly:Lay T):∀ (m:Nat) (j:Int) (x:List Nat×T),x∈put pr beh t row tab m ly j↔x∈ly j\/∃k,k<m/\j=t+pr k/\x=(row++[k],beh k tab)
 |0,j,x=>by show x∈ly j↔_;exact⟨.inl,λh=>h.elim id λ⟨k,hk,_⟩=>absurd hk (Nat.not_lt_zero k)⟩
 |m+1,j,x=>by
  have ih:=pS t row tab ly m j x;show x∈(if j=t+pr m then put pr beh t row tab m ly j++[(row++[m],beh m tab)] else put pr beh t row tab m ly j)↔_
  by_cases e:j=t+pr m
  ·rw[if_pos e,aY,ih,aG]
   constructor
   ·rintro((h|⟨k,hk,h⟩)|h)
    ·exact .inl h
    ·exact .inr ⟨k,by omega,h⟩
    ·exact .inr ⟨m,by omega,e,h⟩
   ·rintro(h|⟨k,hk,h1,h2⟩)
    ·exact .inl (.inl h)
    ·by_cases z:k=m
     ·subst z;exact .inr h2
     ·exact .inl (.inr ⟨k,by omega,h1,h2⟩)
  ·rw[if_neg e,ih]
   constructor
   ·rintro(h|⟨k,hk,h⟩)
    ·exact .inl h
    ·exact .inr ⟨k,by omega,h⟩
   ·rintro(h|⟨k,hk,h1,h2⟩)
    ·exact .inl h
    ·by_cases z:k=m
     ·subst z;exact absurd h1 e
     ·exact .inr ⟨k,by omega,h1,h2⟩
structure Ok(t:Int)(rest:List (List Nat×T))(s:List (Ent T)×Lay T):Prop where
 ent:∀e∈s.1,0<=e.1/\e.1<=t/\e.1=prQ pr e.2.1/\(∀k∈e.2.1,k<n)/\e.2.2=tabQ beh t0 e.2.1
 nd:(s.1.map λx=>x.2.2).Nodup
 ly:∀ (j:Int) (x:List Nat×T),x∈s.2 j->j=prQ pr x.1/\(∀k∈x.1,k<n)/\x.2=tabQ beh t0 x.1/\(x.1=[]\/∃r k,x.1=r++[k]/\(prQ pr r,r,tabQ beh t0 r)∈s.1)
 par:∀ (i:Nat) (e:Ent T),s.1[i]? =some e->(e.2.1=[]/\i=0)\/∃r k i',e.2.1=r++[k]/\i'<i/\s.1[i']? =some (prQ pr r,r,tabQ beh t0 r)
 ch:∀e∈s.1,∀k,k<n->(e.2.1++[k],beh k e.2.2)∈s.2 (e.1+pr k)
 done:∀ (j:Int) (x:List Nat×T),j<=t->x∈s.2 j->(j=t/\x∈rest)\/(∃e∈s.1,e.2.2=x.2/\e.1<=j)\/600<(s.1.filter λe=>decide (e.1<=j)).length
 sub:∀x∈rest,x∈s.2 t
 le:s.1.length<=601
variable {n pr beh t0}
theorem Ok.step(hp:∀k,k<n->1<=pr k){t:Int}(ht:0<=t){e:List Nat×T}{rest:List (List Nat×T)}{s:List (Ent T)×Lay T}(o:Ok n pr beh t0 t (e::rest) s):Ok n pr beh t0 t rest (one n pr beh t s e):=by
 have em:=o.sub e aH;obtain⟨l1,l2,l3,l4⟩:=o.ly t e em;unfold one
 by_cases c:e.2∉s.1.map (λx=>x.2.2)/\s.1.length<=600
 ·rw[if_pos c];obtain⟨c1,c2⟩:=c
  have old:∀ (j:Int) (x:List Nat×T),j<=t->x∈put pr beh t e.1 e.2 n s.2 j->x∈s.2 j:=λj x hj hx=>by
   rcases(pS pr beh t e.1 e.2 s.2 n j x).mp hx with h|⟨k,hk,h,_⟩
   ·exact h
   ·have:=hp k hk;omega
  refine⟨λx hx=> ?_, ?_,λj x hx=> ?_,λi x hx=> ?_,λx hx k hk=> ?_,λj x hj hx=> ?_,λx hx=>(pS pr beh t e.1 e.2 s.2 n t x).mpr (.inl (o.sub x (aF _ hx))), ?_⟩
  ·rcases aY.mp hx with hx|hx
   ·exact o.ent x hx
   ·rw[aG.mp hx];exact⟨ht,kY _,l1,l2,l3⟩
  ·rw[aW]
   exact bF.mpr ⟨o.nd,by simp,fun x hx y hy z=>c1 (by
    have:y=e.2:=by simpa using hy
    rw[<-this,<-z]
    exact hx)⟩
  ·rcases(pS pr beh t e.1 e.2 s.2 n j x).mp hx with h|⟨k,hk,h1,h2⟩
   ·obtain⟨q1,q2,q3,q4⟩:=o.ly j x h;exact⟨q1,q2,q3,q4.imp id λ⟨r,k,z1,z2⟩=>⟨r,k,z1,bW _ z2⟩⟩
   ·rw[h2];refine⟨by rw[h1,pr_snoc,<-l1],λi hi=> ?_,by rw[tab_snoc,<-l3],.inr ⟨e.1,k,rfl,aV _ (by rw[<-l1,<-l3];exact cG _)⟩⟩
    rcases aY.mp hi with hi|hi
    ·exact l2 i hi
    ·rw[aG.mp hi];exact hk
  ·by_cases z:i<s.1.length
   ·rw[cT z] at hx
    rcases o.par i x hx with h|⟨r,k,i',h1,h2,h3⟩
    ·exact .inl h
    ·exact .inr ⟨r,k,i',h1,h2,by rw[cT (by omega)];exact h3⟩
   ·rw[dX (by omega)] at hx
    have i0:i-s.1.length=0:=by have:=(aE.mp hx).1;simp at this;omega
    rw[i0] at hx;have ex:(t,e.1,e.2)=x:=by simpa using hx
    subst ex
    rcases l4 with h|⟨r,k,h1,h2⟩
    ·refine .inl ⟨h, ?_⟩
     have:s.1=[]:=by
      cases q:s.1 with
      |nil=>rfl
      |cons f fs=>
       exfalso;have f0:s.1[0]? =some f:=by rw[q];rfl
       rcases o.par 0 f f0 with⟨g1,_⟩|⟨_,_,i',_,g2,_⟩
       ·have fm:f∈s.1:=aO f0;obtain⟨_,_,_,_,g5⟩:=o.ent f fm;refine c1 (aN.mpr ⟨f,fm, ?_⟩);rw[g5,g1,l3,h]
       ·omega
     rw[this] at i0 z;simp at i0;exact i0
    ·obtain⟨i',hi'⟩:=cW h2;have:=(aE.mp hi').1;exact .inr ⟨r,k,i',h1,by omega,by rw[cT this];exact hi'⟩
  ·rcases aY.mp hx with hx|hx
   ·exact(pS pr beh t e.1 e.2 s.2 n _ _).mpr (.inl (o.ch x hx k hk))
   ·rw[aG.mp hx];exact(pS pr beh t e.1 e.2 s.2 n _ _).mpr (.inr ⟨k,hk,rfl,rfl⟩)
  ·rcases o.done j x hj (old j x hj hx) with⟨h1,h2⟩|⟨f,h1,h2,h3⟩|h
   ·rcases aX.mp h2 with h2|h2
    ·refine .inr (.inl ⟨(t,e.1,e.2),aV _ (cG _),by rw[h2], ?_⟩);rw[h1];exact kY _
    ·exact .inl ⟨h1,h2⟩
   ·exact .inr (.inl ⟨f,bW _ h1,h2,h3⟩)
   ·refine .inr (.inr ?_);rw[sZ,aP];omega
  ·rw[aP];show s.1.length+1<=601;omega
 ·rw[if_neg c];refine⟨o.ent,o.nd,o.ly,o.par,o.ch,λj x hj hx=> ?_,λx hx=>o.sub x (aF _ hx),o.le⟩
  rcases o.done j x hj hx with⟨h1,h2⟩|h
  ·rcases aX.mp h2 with h2|h2
   ·refine .inr ?_
    by_cases m:e.2∈s.1.map (λx=>x.2.2)
    ·obtain⟨f,f1,f2⟩:=aN.mp m;exact .inl ⟨f,f1,by rw[h2];exact f2,by rw[h1];exact(o.ent f f1).2.1⟩
    ·refine .inr ?_;have:s.1.filter (λe=>decide (e.1<=j))=s.1:=cQ.mpr λf hf=>decide_eq_true (by rw[h1];exact(o.ent f hf).2.1)
     rw[this];exact Nat.lt_of_not_le λz=>c ⟨m,z⟩
   ·exact .inl ⟨h1,h2⟩
  ·exact .inr h
theorem Ok.fold(hp:∀k,k<n->1<=pr k){t:Int}(ht:0<=t):∀ {rest:List (List Nat×T)}{s:List (Ent T)×Lay T},Ok n pr beh t0 t rest s->Ok n pr beh t0 t [] (rest.foldl (one n pr beh t) s)
 |[],_,o=>o
 |e::rest,s,o=>Ok.fold (rest:=rest) (s:=one n pr beh t s e) hp ht (o.step hp ht)
theorem aIv(hp:∀k,k<n->1<=pr k):∀t:Nat,Ok n pr beh t0 (t:Int) ((run n pr beh t0 t).2 t) (run n pr beh t0 t)
 |0=>by
  refine⟨λe h=>(nomatch h),fH,λj x hx=> ?_,λi e h=>by simp[run] at h,λe h=>(nomatch h),λj x hj hx=> ?_,λx hx=>hx,bY _⟩
  ·have hx:x∈(if j=0 then[(([]:List Nat),t0)] else[]):=hx
   by_cases z:j=0
   ·rw[if_pos z] at hx;rw[aG.mp hx,z];exact⟨rfl,λk hk=>(nomatch hk),rfl,.inl rfl⟩
   ·rw[if_neg z] at hx;cases hx
  ·have hx2:x∈(if j=0 then[(([]:List Nat),t0)] else[]):=hx
   by_cases z:j=0
   ·subst z;exact .inl ⟨rfl,hx⟩
   ·rw[if_neg z] at hx2;cases hx2
 |t+1=>by
  have o:=Ok.fold hp (iF t) (aIv hp t);have o:Ok n pr beh t0 (t:Int) [] (run n pr beh t0 (t+1)):=o;refine⟨λe he=> ?_,o.nd,o.ly,o.par,o.ch,λj x hj hx=> ?_,λx hx=>hx,o.le⟩
  ·obtain⟨h1,h2,h3⟩:=o.ent e he;exact⟨h1,by omega,h3⟩
  ·by_cases z:j<=(t:Int)
   ·rcases o.done j x z hx with⟨_,h⟩|h
    ·cases h
    ·exact .inr h
   ·have:j=((t+1:Nat):Int):=by omega
    subst this;exact .inl ⟨rfl,hx⟩
variable (n pr beh)
def HoldsP(b:Int)(B:List (Ent T)):Prop:=(∃e∈B,e.2.1=[])/\∀e∈B,∀k,k<n->e.1+pr k<=b->∃e'∈B,e'.2.2=beh k e.2.2/\e'.1<=e.1+pr k
variable {n pr beh}
section
variable {t b:Int}{s:List (Ent T)×Lay T}{B:List (Ent T)}
theorem holds_all(hp:∀k,k<n->1<=pr k)(o:Ok n pr beh t0 t [] s)(hb:b<=t)(h0:0<=b)(ne:s.1≠[])(hc:(s.1.filter λe=>decide (e.1<=b)).length<=600)(hB:∀x,x∈B↔x∈s.1/\x.1<=b):HoldsP n pr beh b B:=by
 refine⟨?_,λe he k hk hle=> ?_⟩
 ·cases q:s.1 with
  |nil=>exact absurd q ne
  |cons f fs=>
   have f0:s.1[0]? =some f:=by rw[q];rfl
   have fm:=aO f0
   rcases o.par 0 f f0 with⟨g1,_⟩|⟨_,_,i',_,g2,_⟩
   ·refine⟨f,(hB f).mpr ⟨fm, ?_⟩,g1⟩;have:=(o.ent f fm).2.2.1;rw[g1] at this;have:f.1=0:=this;omega
   ·omega
 ·obtain⟨e1,e2⟩:=(hB e).mp he
  rcases o.done _ _ (by omega) (o.ch e e1 k hk) with⟨_,h⟩|⟨f,h1,h2,h3⟩|h
  ·cases h
  ·exact⟨f,(hB f).mpr ⟨h1,by omega⟩,h2,h3⟩
  ·exfalso
   have mono:(s.1.filter λf=>decide (f.1<=e.1+pr k)).length<=(s.1.filter λf=>decide (f.1<=b)).length:=by rw[<-xW,<-xW];exact List.countP_mono_left λf _ hf=>decide_eq_true (Int.le_trans (of_decide_eq_true hf) hle)
   omega
end
end S45
end DL
namespace DL
open PySem PySem.Spec PyProof.Rows L2
section
variable {p:Int×Int}{L:List SK}
noncomputable def gX(p:Int×Int)(q:SQ):List Nat:=(dH p).map λws=>tX p (onQ p q ws)
noncomputable def gR(other one:List Nat):List Nat:=one.map λi=>other.getD i 0
noncomputable def kN(p:Int×Int)(nb:List Nat):List (List Int):=nb.map λi=>(dH p).getD i []
noncomputable def gG(p:Int×Int)(L:List SK)(k:Nat)(t:List (List Int)):List (List Int):=t.map (onQ p (L.getD k AN).1)
noncomputable def prK(L:List SK)(k:Nat):Int:=(L.getD k AN).2
noncomputable def mvD(p:Int×Int)(s:SK):D:=.tup [.int s.2,.tup (bM (gX p s.1))]
def NOk(p:Int×Int)(nb:List Nat):Prop:=nb.length=(dH p).length/\∀i∈nb,i<(dH p).length
theorem aAq(p:Int×Int)(q:SQ):(gX p q).length=(dH p).length:=by unfold gX;rw[aB]
theorem aIb(q:SQ){i:Nat}(hi:i<(dH p).length):(gX p q).getD i 0=tX p (onQ p q ((dH p).getD i [])):=by unfold gX;simp[cA,hi]
theorem aLv(hp:p∈cJ){i:Nat}(hi:i<(dH p).length):Fil p ((dH p).getD i []):=aAw hp (getD_mem hi)
theorem aLG(hp:p∈cJ){q:SQ}(O:qE p q){i:Nat}(hi:i<(dH p).length):(gX p q).getD i 0<(dH p).length:=by rw[aIb q hi];exact(aCY hp (aAB O (aLv hp hi))).2.1
theorem aEe(hp:p∈cJ){q:SQ}(O:qE p q){nb:List Nat}(h:NOk p nb):NOk p (gR (gX p q) nb):=by refine⟨by unfold gR;rw[aB];exact h.1,λi hi=> ?_⟩;obtain⟨j,hj,rfl⟩:=aN.mp hi;exact aLG hp O (h.2 j hj)
theorem wL(hp:p∈cJ){q:SQ}(O:qE p q){nb:List Nat}(h:NOk p nb):kN p (gR (gX p q) nb)=(kN p nb).map (onQ p q):=by
 unfold kN gR;rw[bA,bA];refine bZ λi hi=> ?_
 show(dH p).getD ((gX p q).getD i 0) []=onQ p q ((dH p).getD i []);rw[aIb q (h.2 i hi)];exact(aCY hp (aAB O (aLv hp (h.2 i hi)))).2.2
theorem aBA(hp:p∈cJ){a b:List Nat}(ha:NOk p a)(hb:NOk p b)(h:kN p a=kN p b):a=b:=by
 refine lK (ha.1.trans hb.1.symm) λi h1 h2=> ?_
 have e:(kN p a)[i]'(by unfold kN;rw[aB];exact h1)=(kN p b)[i]'(by unfold kN;rw[aB];exact h2):=by simp only[h]
 unfold kN at e;rw[cY,cY] at e;rw[<-aDj hp (ha.2 _ (iT h1)),<-aDj hp (hb.2 _ (iT h2)),e]
noncomputable def st0(p:Int×Int):List Nat:=bP (dH p).length
theorem aMP(p:Int×Int):NOk p (st0 p):=⟨by unfold st0;rw[jT],λi hi=>cM.mp hi⟩
theorem aDx(p:Int×Int):kN p (st0 p)=dH p:=by
 unfold kN st0;refine lK (by simp) λi h1 h2=> ?_
 rw[cY,mX];simp[cA,h2]
noncomputable def nrQ(p:Int×Int)(L:List SK)(row:List Nat):List Nat:=row.foldl (λnb k=>gR (gX p (L.getD k AN).1) nb) (st0 p)
theorem vE(row:List Nat)(k:Nat):nrQ p L (row++[k])=gR (gX p (L.getD k AN).1) (nrQ p L row):=by unfold nrQ;rw[jU];rfl
theorem wF(hp:p∈cJ)(S:∀s∈L,qE p s.1):∀ {row:List Nat},hX L row->NOk p (nrQ p L row)/\kN p (nrQ p L row)=S45.tabQ (gG p L) (dH p) row:=λ{row}=>by
 have g:∀ (row:List Nat) (nb:List Nat) (t:List (List Int)),NOk p nb->kN p nb=t->hX L row->NOk p (row.foldl (λnb k=>gR (gX p (L.getD k AN).1) nb) nb)/\kN p (row.foldl (λnb k=>gR (gX p (L.getD k AN).1) nb) nb)=row.foldl (λt k=>gG p L k t) t:=λrow=>by
  induction row with
  |nil=>exact λnb t h1 h2 _=>⟨h1,h2⟩
  |cons k row ih=>
   intro nb t h1 h2 h3;have O:qE p (L.getD k AN).1:=S _ (DL.getD_mem (h3 k aH));refine ih _ _ (aEe hp O h1) ?_ λj hj=>h3 j (aF _ hj)
   rw[wL hp O h1,h2];rfl
 exact λh=>g row (st0 p) (dH p) (aMP p) (aDx p) h
end
open Classical in
noncomputable def wJ(L:List SK)(d:D):SK:=if h:∃s,s∈L/\skD s=d then h.choose else AN
theorem xM{L:List SK}(nd:(L.map λs=>sqD s.1).Nodup){s:SK}(h:s∈L):wJ L (skD s)=s:=by
 have ex:∃z,z∈L/\skD z=skD s:=⟨s,h,rfl⟩;unfold wJ;rw[dif_pos ex];obtain⟨h1,h2⟩:=ex.choose_spec;generalize ex.choose=z at h1 h2;obtain⟨i,hi,ez⟩:=cV h1;obtain⟨j,hj,es⟩:=cV h
 have e:sqD z.1=sqD s.1:=by
  have h2:D.tup [sqD z.1,.int z.2]=D.tup [sqD s.1,.int s.2]:=h2;injection h2 with h2
  exact(vK.inj h2).1
 have:i=j:=(fV (i:=i) (j:=j) (h₀:=by rw[aB];exact hi) (h₁:=by rw[aB];exact hj) nd).mp (by rw[cY,cY,ez,es,e]);subst this;exact ez.symm.trans es
def aOM:List D->R->Prop:=λds r=>∃p q,p∈cJ/\qE p q/\ds=[cP p,sqD q]/\r=.val (.tup (bM (gX p q)))
def aDh:List D->R->Prop:=λds r=>∃p L,p∈cJ/\StkOk p L/\(L.map λs=>sqD s.1).Nodup/\ds=[cP p,.lst (L.map skD)]/\r=.own (L.map (mvD p))
def aFO:List D->R->Prop:=λds r=>∃one other:List Nat,one.length<=100/\(∀i∈one,i<other.length)/\ds=[.tup (bM one),.tup (bM other)]/\r=.val (.tup (bM (gR other one)))
def aCR:List D->R->Prop:=λds r=>∃ (B:List (List Int)) (nb:List Nat),nb.length<=100/\(∀i∈nb,i<B.length)/\ds=[.lst (B.map bJ),.tup (bM nb)]/\r=.val (.tup ((nb.map λi=>B.getD i []).map bJ))
def aLA:List D->R->Prop:=λds r=>∃p L row,p∈cJ/\StkOk p L/\hX L row/\ds=[.lst (L.map (mvD p)),.tup (bM row),.tup (bM (st0 p))]/\r=.val (.tup (bM (nrQ p L row)))
section
variable {X:Cx}{sd:List Slot}{a b:Expr}{pos:Pos}{ds:List D}{κ:Type}[DecidableEq κ]{hk:HK X.prog X.w κ}{ks:List κ}{k:κ}
theorem aMN(hu:X.A.units+2<AO)(ha:PEd X sd a (.val (hk.dat k)))(hb:PDc X sd b hk ks ds)(hm:AV .In b=false:=by with_unfolding_all rfl):PEd X sd (.Compare a [.In] [b] pos) (.val (.bl (decide (k∈ks)))):=.mk λσ F H S=>
 (aDq (aIs (hk:=hk)) fW fW hm).to ((ha σ F H S).imp fun v H1 ⟨F1,S1,s1,q1⟩=>(hb.get σ F1 H1 S1).imp fun u H2 ⟨F2,l,S2,s2,eu,g⟩=>by
  obtain⟨ad,rfl,hr⟩:=hk.key q1;obtain⟨o,g1,g2⟩:=g F2 H2 S2 (Same.refl _);refine⟨F2,ad,l,o,k,ks,ds,rfl,eu,S2.sub,hk.mono s2 hr,g1,g2,hu,F2,S2,s1.trans s2, ?_⟩;simp only[ResOk,Rep]
  rfl)
end
section
variable {X:Cx}{sd:List Slot}{a b:Expr}{pos:Pos}{ds:List D}{κ:Type}[DecidableEq κ]{hk:HK X.prog X.w κ}{ks:List κ}{k:κ}{kk:Bool}
theorem xQ(h:kk=true↔k∈ks):decide (k∈ks)=kk:=by
 cases kk with
 |true=>exact decide_eq_true (h.mp rfl)
 |false=>exact decide_eq_false λz=>by cases h.mpr z
theorem aIa(h:kk=true↔k∈ks)(hu:X.A.units+2<AO)(ha:PEd X sd a (.val (hk.dat k)))(hb:PDc X sd b hk ks ds)(hm:AV .In b=false:=by with_unfolding_all rfl):PEd X sd (.Compare a [.In] [b] pos) (.val (.bl kk)):=PEd.cast (aMN hu ha hb hm) (by rw[xQ h])
theorem aJA(h:kk=true↔k∈ks)(hu:X.A.units+2<AO)(ha:PEd X sd a (.val (hk.dat k)))(hb:PDc X sd b hk ks ds)(hm:AV .In b=false:=by with_unfolding_all rfl):PTd X sd (.Compare a [.In] [b] pos) kk:=PTd.cast (aKh hu ha hb hm) (xQ h)
theorem aBD(h:kk=true↔k∈ks)(hu:X.A.units+2<AO)(ha:PEd X sd a (.val (hk.dat k)))(hb:PDc X sd b hk ks ds)(hm:AV .NotIn b=false:=by with_unfolding_all rfl):PTd X sd (.Compare a [.NotIn] [b] pos) (!kk):=PTd.cast (aGo hu ha hb hm) (by rw[xQ h])
end
theorem aBZ(bs:List Bool):((bP bs.length).any λi=>(bs[i]?).getD false)=bs.any id:=by
 apply iL.mpr;simp only[gL,cM,id_eq]
 constructor
 ·rintro⟨i,hi,h⟩;exact⟨bs[i],iT hi,by simpa[hi] using h⟩
 ·rintro⟨b,hb,h⟩;obtain⟨i,hi,rfl⟩:=cV hb;exact⟨i,hi,by simpa[hi] using h⟩
section
variable {X:Cx}{sd:List Slot}{e:Expr}{pos:Pos}
theorem aEI(hc:X.calm=true):lY X (.builtin "any") (λxs H Q=>∃ (a:BL) (bs:List Bool),xs=[.ref a]/\SqL X.K H a (bs.map V.bl)/\Q (.bl (bs.any id)) H):=by
 intro pins s σ H xs us Q I r h;obtain⟨a,bs,rfl,ha,q⟩:=h;obtain⟨u,rfl,ru⟩:=pO r;cases ru;obtain⟨its,rv,p,hz⟩:=I.list ha;have hl:=rv.length;rw[aB] at hl;have isl:s.heap.IsList a its.toArray:=p.isList;have alt:a<s.heap.objs.size:=by obtain⟨o,ho,_⟩:=isl;exact aU ho
 refine call_any_walk (BB isl ?_);refine⟨s.heap.objs.size,[s.heap.objs.size,a],[s.heap.objs.size],its.toArray.size,_,_,λi=>(bs[i]?).getD false,rfl,Walks.list (A:=X.A.in1) (I.ok.hd hc) _ a (bO alt) its.toArray,⟨⟨_,bD _ rfl,rfl,rfl⟩,isl.push _⟩,λi v s' Q' E' hP hQ=> ?_,λh' tk hk=> ?_⟩
 ·obtain⟨b,e,rfl⟩:=aBn rv (by simpa using hP);simp only[e,aHs] at hQ;exact AZ hQ
 ·have e:((bP its.toArray.size).any λi=>(bs[i]?).getD false)=bs.any id:=by rw[aS,<-hl];exact aBZ bs
  rw[e];refine⟨.bl (bs.any id),H,I.kept (t':=tk) λb o g=>hk b o (λz=> ?_) (aI _ g),rfl,q⟩;have zb:b=s.heap.objs.size:=by simpa using z
  exact bO (aU g) zb
theorem aJB{p:Pos}{bs:List Bool}(hg:Gl X "any")(hm:X.mg "any"=none)(ha:PEd X sd e (.bor (bs.map D.bl)))(hc:X.calm=true:=by rfl)(hst:AG [e] X.env=(false,eval e X.env)::AG [] X.env:=by rfl):PEd X sd (.Call (.Name "any" p) [e] [] pos) (.val (.bl (bs.any id))):=
 mE (he:=hst) (aEI hc) hg hm boot_any (aD ha aR trivial hst) λσ F H vs Q S q k=>by
  cases q with
  |cons q1 q2=>cases q2;obtain⟨p,xs,rfl,hp,rl,_⟩:=q1;exact⟨p,bs,rfl,.of (by rw[<-rl.bls];exact hp),k _ F H S (Same.refl _) (by simp only[ResOk,Rep])⟩
end
noncomputable abbrev Bk:=S45.Ent (List (List Int))
noncomputable def enD(e:Bk):D:=.tup [.int e.1,.tup (bM e.2.1),.tup (e.2.2.map bJ)]
structure BkOk(p:Int×Int)(L:List SK)(b:Int)(B:List Bk):Prop where
 len:B.length<=700
 ent:∀e∈B,e.1=S45.prQ (prK L) e.2.1/\e.1<=b/\hX L e.2.1/\e.2.1.length<=400/\e.2.2=S45.tabQ (gG p L) (dH p) e.2.1
 nd:(B.map λe=>e.2.2).Nodup
noncomputable def iC(nb:List Nat):List Key:=nb.map λ(i:Nat)=>(Sum.inl (i:Int):Key)
theorem oH(nb:List Nat):tD (iC nb)=.tup (bM nb):=by unfold tD iC bM;rw[bA];rfl
theorem rQ:∀ {a b:List Nat},iC a=iC b->a=b
 |[],[],_=>rfl
 |[],_::_,h=>by cases h
 |_::_,[],h=>by cases h
 |x::a,y::b,h=>by
  have h:(Sum.inl (x:Int):Key)::iC a=(Sum.inl (y:Int):Key)::iC b:=h;injection h with h1 h2
  have:=Sum.inl.inj h1;rw[rQ h2];congr 1;omega
noncomputable def ksB(p:Int×Int)(L:List SK)(B:List Bk):List (List Key):=B.map λe=>iC (nrQ p L e.2.1)
noncomputable def pcD(P:AD)(w:AM)(K:aA)(p:Int×Int)(L:List SK)(B:List Bk):D:=gD (hkT P w) K (ksB p L B) (B.map λe=>.int e.1)
theorem aLL(L:List SK)(row:List Nat):aHt (aHv L row)=S45.prQ (prK L) row:=by
 unfold S45.prQ aHv prK;generalize row.map (λt=>(L.getD t AN).2)=xs
 have g:∀n:Nat,aHt (xs.take n)=(xs.take n).sum:=λn=>by
  induction n with
  |zero=>rfl
  |succ n ih=>
   by_cases h:n<xs.length
   ·rw[yS 0 h,aEl,ih,pP];simp
   ·have e:xs.take (n+1)=xs.take n:=by rw[hW (by omega),hW (by omega)]
    rw[e,ih]
 have:=g xs.length;rw[cZ] at this;exact this
section
variable {p:Int×Int}{L:List SK}{b:Int}{B:List Bk}
theorem BkOk.nr(hp:p∈cJ)(S:StkOk p L)(O:BkOk p L b B){e:Bk}(he:e∈B):NOk p (nrQ p L e.2.1)/\kN p (nrQ p L e.2.1)=e.2.2:=by obtain⟨_,_,h3,_,h5⟩:=O.ent e he;obtain⟨q1,q2⟩:=wF hp (λs hs=>(S.st s hs).1) h3;exact⟨q1,q2.trans h5.symm⟩
theorem BkOk.inj(hp:p∈cJ)(S:StkOk p L)(O:BkOk p L b B){x y:Bk}(hx:x∈B)(hy:y∈B)(h:nrQ p L x.2.1=nrQ p L y.2.1):x=y:=by
 have e:x.2.2=y.2.2:=by rw[<-(O.nr hp S hx).2,<-(O.nr hp S hy).2,h]
 obtain⟨i,hi,ex⟩:=cV hx;obtain⟨j,hj,ey⟩:=cV hy;have:i=j:=(fV (i:=i) (j:=j) (h₀:=by rw[aB];exact hi) (h₁:=by rw[aB];exact hj) O.nd).mp (by rw[cY,cY,ex,ey,e]);subst this;exact ex.symm.trans ey
end
def aLf:List D->R->Prop:=λds r=>∃p L b B e,StkOk p L/\BkOk p L b B/\e∈B/\ds=[.lst (L.map skD),.int b,.int e.1,.tup (bM e.2.1)]/\r=.val (.bl true)
def aOY(P:AD)(w:AM)(K:aA):List D->R->Prop:=λds r=>∃p L b B,p∈cJ/\StkOk p L/\BkOk p L b B/\ds=[cP p,.lst (L.map skD),.lst (L.map (mvD p)),.int b,.lst (B.map enD)]/\r=.val (pcD P w K p L B)
noncomputable def sS(p:Int×Int)(L:List SK)(B:List Bk)(nb:List Nat)(m:Int):Bool:=B.any λe=>decide (nrQ p L e.2.1=nb)&&decide (e.1<=m)
def aDn(P:AD)(w:AM)(K:aA):List D->R->Prop:=λds r=>∃p L b B nb m,p∈cJ/\StkOk p L/\BkOk p L b B/\ds=[pcD P w K p L B,.tup (bM nb),.int m]/\r=.val (.bl (sS p L B nb m))
noncomputable def aHu(p:Int×Int)(L:List SK)(b:Int)(B:List Bk):Bool:=B.all λe=>(bP L.length).all λk=> !decide (e.1+prK L k<=b)||sS p L B (gR (gX p (L.getD k AN).1) (nrQ p L e.2.1)) (e.1+prK L k)
def aDQ(P:AD)(w:AM)(K:aA):List D->R->Prop:=λds r=>∃p L b B,p∈cJ/\StkOk p L/\BkOk p L b B/\ds=[.lst (L.map (mvD p)),.int b,pcD P w K p L B]/\r=.val (.bl (aHu p L b B))
def aIh:List D->R->Prop:=λds r=>∃p L b B,BkOk p L b B/\0<=b/\ds=[.int b,.lst (B.map enD)]/\r=.val (.bl (B.any λe=>decide (e.2.1=[])))
def aHW:List D->R->Prop:=λds r=>∃p L b B,p∈cJ/\StkOk p L/\(L.map λs=>sqD s.1).Nodup/\BkOk p L b B/\0<=b/\ds=[cP p,.lst (L.map skD),.int b,.lst (B.map enD)]/\r=.val (.bl ((B.any λe=>decide (e.2.1=[]))&&aHu p L b B))
theorem aEV{p:Int×Int}{L:List SK}{b:Int}{B:List Bk}(hp:p∈cJ)(S:StkOk p L)(O:BkOk p L b B):((B.any λe=>decide (e.2.1=[]))&&aHu p L b B)=true↔S45.HoldsP L.length (prK L) (gG p L) b B:=by
 rw[bH,gL];unfold S45.HoldsP;refine and_congr ⟨λ⟨e,h1,h2⟩=>⟨e,h1,of_decide_eq_true h2⟩,λ⟨e,h1,h2⟩=>⟨e,h1,decide_eq_true h2⟩⟩ ?_;unfold aHu;rw[cX];refine⟨λh e he k hk hle=> ?_,λh e he=> ?_⟩
 ·have:=cX.mp (h e he) k (cM.mpr hk);rw[decide_eq_true hle] at this;have:sS p L B (gR (gX p (L.getD k AN).1) (nrQ p L e.2.1)) (e.1+prK L k)=true:=by simpa using this
  obtain⟨x,x1,x2⟩:=gL.mp this;rw[bH] at x2;have y1:=of_decide_eq_true x2.1;refine⟨x,x1, ?_,of_decide_eq_true x2.2⟩;obtain⟨n1,n2⟩:=O.nr hp S he;have Ok:=(S.st _ (DL.getD_mem (d:=(AN:SK)) hk)).1;rw[<-(O.nr hp S x1).2,y1,wL hp Ok n1,n2];rfl
 ·rw[cX];intro k hk;have hk:=cM.mp hk
  by_cases hle:e.1+prK L k<=b
  ·obtain⟨x,x1,x2,x3⟩:=h e he k hk hle;obtain⟨n1,n2⟩:=O.nr hp S he;have Ok:=(S.st _ (DL.getD_mem (d:=(AN:SK)) hk)).1
   have:sS p L B (gR (gX p (L.getD k AN).1) (nrQ p L e.2.1)) (e.1+prK L k)=true:=gL.mpr ⟨x,x1,by
    rw[bH];refine⟨decide_eq_true (aBA hp (O.nr hp S x1).1 (aEe hp Ok n1) ?_),decide_eq_true x3⟩;rw[(O.nr hp S x1).2,wL hp Ok n1,n2,x2]
    rfl⟩
   rw[this,Bool.or_true]
  ·rw[decide_eq_false hle];rfl
section
variable {prog:AD}{w:AM}{A:BM}{E:BJ->BK->Prop}{s:BK}{r:BL}{n:Nat}{t u v:Tok}
theorem aAb{Q:List BJ->BK->Prop}(hh:A.handled=none)(ir:IsRange s.heap r 0 (n:Int) 1 t u v)(hn:n<=1000)
  (q:∀ (h':BN) (tk:Nat) (acc:Array BJ),(∀b o,s.heap.get? b=some o->h'.get? b=some o)->ItemsOf (λi v=>∃t,v=.int (0+i*1) t) acc n->Q acc.toList {s with heap:=h',toks:=tk}):AK (AH prog w) A (collect (.ref r)) Q E s:=by
 have sz:Builtin.Range.rangeSize 0 (n:Int) 1=(n:Int):=by
  rw[rangeSize_one]
  split<;>omega
 have fin:∀ (h':BN) (tk:Nat) (acc:Array BJ) (c':Nat),(∀b o,s.heap.get? b=some o→h'.get? b=some o)→h'.get? s.heap.objs.size=some {cls:= .type "list",dict:=none,data:= .seq acc c',slots:= #[]}→ItemsOf (fun i v=>∃t,v= .int (0+i * 1) t) acc n→AK (AH prog w) A (do
   let o <-load s.heap.objs.size
   match o.data with
   |.seq xs _=>pure xs.toList
   |_=>unsupported "internal:collect") Q E {s with heap:=h',toks:=tk}:=λh' tk acc c' k1 k2 k3=>AA (wpAny_load k2 (AB (q h' tk acc k1 k3)))
 have new:(s.heap.push {cls:=.type "list",data:=.seq ([]:List BJ).toArray}).get? s.heap.objs.size=some {cls:=.type "list",data:=.seq #[]}:=bD _ rfl;have main:=wpAny_extend_range (prog:=prog) (w:=w) (A:=A) (s:={s with heap:=s.heap.push {cls:=.type "list",data:=.seq ([]:List BJ).toArray}}) (R:=λ(x:Result) (st:BK)=>∃ (h':BN) (tk:Nat) (acc:Array BJ) (c':Nat),x=.ok (.ret (.ref s.heap.objs.size))/\st={s with heap:=h',toks:=tk}/\(∀b o,s.heap.get? b=some o->h'.get? b=some o)/\h'.get? s.heap.objs.size=some {cls:=.type "list",dict:=none,data:=.seq acc c',slots:= #[]}/\ItemsOf (λi v=>∃t,v=.int (0+i*1) t) acc n) hh (aI _ ir) (small_one (by omega) (by omega) (by omega) (by omega)) sz (by omega) s.heap.objs.size (.ref s.heap.objs.size) 0 new λh' tk acc c' k1 k2 k3=>⟨h',tk,acc,c',rfl,rfl,λb o g=>k1 b o (bO (aU g)) (aI _ g),k2,k3⟩
 unfold collect;refine AA (wpAny_runValue (BI entry_proto_collect' ?_));rw[Around.under_plainId PySem.F.plain_proto_collect _];refine AA (m:=newList []) (AS (AB ⟨plainId_quiet zO _,BI entry_list_iadd' ?_⟩));rw[Around.under_plainId zO _];refine Ag main (λz st x=> ?_) λz st x=> ?_
 ·cases z with
  |done f=>obtain⟨h',tk,acc,c',e,rfl,k1,k2,k3⟩:=x;cases e;exact fin h' tk acc c' k1 k2 k3
  |again c1=>refine⟨x.1,codeAny_mono x.2 λy st y2=> ?_⟩;obtain⟨h',tk,acc,c',rfl,rfl,k1,k2,k3⟩:=y2;exact fin h' tk acc c' k1 k2 k3
 ·obtain⟨_,_,_,_,e,_⟩:=x;cases e
theorem aAf(r:BL)(n:Nat)(t u v:Tok)(hn:n<=1000):Meets (Builtin.«tuple.__new__» ⟨[.type "tuple",.ref r],[]⟩) (λA R s=>A.handled=none/\IsRange s.heap r 0 (n:Int) 1 t u v/\∀ (h':BN) (tk:Nat) (acc:Array BJ),(∀b o,s.heap.get? b=some o->h'.get? b=some o)->ItemsOf (λi v=>∃t,v=.int (0+i*1) t) acc n->R (.ok (.ret (.ref h'.objs.size))) {s with heap:=h'.push {cls:=.type "tuple",data:=.seq acc},toks:=tk}):=
 .of_wp λprog w A R s h=>by
  obtain⟨hp,gn,dr,tk,os⟩:=s;obtain⟨hh,ir,q⟩:=h;have a1:=sub_tuple_self;have a2:=init_tuple_lookup;have a3:=madeHere_tuple;have ty:Shared.TypeIs ⟨hp,gn,dr,tk,os⟩ (.ref r) "range":=⟨_,ir,rfl⟩;have hh1:A.in1.handled=none:=hh
  wp_walk using AutoSeq1.wpAny_loadPart' ir,wpAny_typeOf ty,aAb (s:=⟨hp,gn,dr,tk,os⟩) hh1 ir hn
  intro h' tk' acc k1 k2;refine AA (m:=Builtin.Tuple.tupleExact acc.toList.toArray) ?_;unfold Builtin.Tuple.tupleExact;have e:acc.toList.toArray=acc:=by simp
  rw[e];exact AS (AB ⟨_,rfl,q h' tk' acc k1 k2⟩) (show acc.size<=AL by rw[k2.1];exact eJ (hV hn))
theorem yD{Q:BJ->BK->Prop}(hh:A.handled=none)(ir:IsRange s.heap r 0 (n:Int) 1 t u v)(hn:n<=1000)
  (q:∀ (h':BN) (tk:Nat) (acc:Array BJ),(∀b o,s.heap.get? b=some o->h'.get? b=some o)->ItemsOf (λi v=>∃t,v=.int (0+i*1) t) acc n->Q (.ref h'.objs.size) {s with heap:=h'.push {cls:=.type "tuple",data:=.seq acc},toks:=tk}):AK (AH prog w) A (call (.type "tuple") [.ref r]) Q E s:=
 callType_new F.called_tuple (by decide) (F.typeCall_tuple_1 _) (F.newCall_tuple_1 _) (λobj=>F.args_object_init_2 obj _) F.entry_tuple_new (aAf r n t u v hn) ⟨hh,ir,λh' tk acc k1 k2=>⟨⟨_,bD _ rfl,rfl⟩,q h' tk acc k1 k2⟩⟩
end
section
variable {X:Cx}{sd:List Slot}{e:Expr}{pos:Pos}
theorem uG{p p2 q2:Pos}{n:Nat}(hg:Gl X "tuple")(hm:X.mg "tuple"=none)(hg2:Gl X "range")(hm2:X.mg "range"=none)(ha:PEd X sd e (.val (.int (n:Int))))(h1:n<=1000)
  (hc:X.calm=true:=by rfl) (hst:AG [e] X.env=(false,eval e X.env)::AG [] X.env:=by rfl) (hst2:AG [.Call (.Name "range" p2) [e] [] q2] X.env=(false,eval (.Call (.Name "range" p2) [e] [] q2) X.env)::AG [] X.env:=by rfl):
  PEd X sd (.Call (.Name "tuple" p) [.Call (.Name "range" p2) [e] [] q2] [] pos) (.val (.tup (bM (bP n)))):=.mk λσ F H S pins s I=>by
 refine Ap (pK I hg hm PyProof.Rows.boot_tuple (PyProof.Rows.callWith_type1 ?_ hst2 rfl));rw[hst2];refine Calls.spliced_cons (Ap (pK I hg2 hm2 boot_range ?_));refine PyProof.Rows.callWith_type1 (thn ((fX (te:=wE X e) fW pa_nil hst) q2 pins s σ H (λus H1=>∃v F1,us=[v]/\StF X.K X.B₀ F1 H1 σ sd/\Same F F1/\ResOk X.K F1 H1 sd (.val (.int (n:Int))) v) I ((ha σ F H S).imp λv H1 ⟨F1,S1,s1,q1⟩=>⟨v,F1,rfl,S1,s1,q1⟩)) λus s1 hus=> ?_) hst rfl;obtain⟨ws,H1,I1,rv,v,F1,rfl,S1,sF,q1⟩:=hus;obtain⟨u,rfl,ru⟩:=pO rv;simp only[ResOk,Rep] at q1;subst q1;obtain⟨t,rfl⟩:=ru;refine call_range_1 (Calls.spliced_nil ?_);refine yD (I1.ok.hd hc) (IsRange.new ..) h1 λh' tk acc kp it=> ?_
 have kp2:∀b o,s1.heap.get? b=some o->h'.get? b=some o:=λb o g=>kp b o (aI _ g)
 have le:s1.heap.objs.size<=h'.objs.size:=eJ (aU (kp s1.heap.objs.size _ (bD _ rfl)));have hD:H1 h'.objs.size=none:=I1.hok.fresh le;have ln:acc.toList.length=n:=by rw[cC];exact it.1
 have vl:Vals ((bP n).map λ(k:Nat)=>V.int (k:Int)) acc.toList:=by
  have g:∀ (l:List BJ) (f:Nat->Int),(∀ (j:Nat) (v:BJ),l[j]? =some v->∃t,v=.int (f j) t)->Vals ((bP l.length).map λ(k:Nat)=>V.int (f k)) l:=λl=>by
   induction l with
   |nil=>intro f _;exact .nil
   |cons x l ih=>intro f h;obtain⟨t,e⟩:=h 0 x rfl;rw[bS,List.range_succ_eq_map,bC,bA];exact .cons ⟨t,e⟩ (ih (λk=>f (k+1)) λj v hv=>h (j+1) v (by simpa using hv))
  have:=g acc.toList (λk=>(k:Int)) λj v hv=>by obtain⟨t,e⟩:=it.2 j v (by rw[<-dW];exact hv);exact⟨t,by rw[e];congr 1;omega⟩
  rw[ln] at this;exact this
 have I3:Inv X pins σ (upd H1 h'.objs.size (.tup ((bP n).map λ(k:Nat)=>V.int (k:Int)))) {s1 with heap:=h'.push {cls:=.type "tuple",data:=.seq acc},toks:=tk}:=
  I1.laid (λb o g=>aI _ (kp2 b o g)) le ⟨by rw[aB,jT];exact eJ (hV h1),acc.toList,vl,by simpa using IsTupD.new h' acc⟩
 obtain⟨S4,s4⟩:=S1.lay (o:=.tup ((bP n).map λ(k:Nat)=>V.int (k:Int))) hD trivial;refine⟨.ref h'.objs.size,_,I3,rfl,_,S4,sF.trans s4, ?_⟩;simp only[ResOk,Rep];refine⟨_,_,rfl,bV, ?_⟩
 have gg:∀ks:List Nat,RepL X.K (upd F1 h'.objs.size (.tup ((bP n).map λ(k:Nat)=>V.int (k:Int)))) (ks.map λ(k:Nat)=>D.int (k:Int)) (ks.map λ(k:Nat)=>V.int (k:Int)):=λks=>by
  induction ks with
  |nil=>exact .nil
  |cons k ks ih=>exact .cons (by simp only[Rep]) ih
 exact gg _
end
noncomputable def mx1(c:Int)(k:Nat):Int:=(c%2147483647+69621*(k:Int)+7919)*48271%2147483647
noncomputable def mx2(c:Int)(k:Nat):Int:=mx1 c k*mx1 c k%2147483629
noncomputable def mxS(c:Int)(k:Nat):Int:=if c%2=0 then c / ((2^(8*k+1):Nat):Int) else(mx2 c k*mx2 c k+16807*(k:Int))%2147483587
def CMx:List D->R->Prop:=λds r=>∃ (c:Int) (k:Nat),ds=[.int c,.int (k:Int)]/\k<=400/\r=.val (.int (mxS c k))
def aLh:List D->R->Prop:=λds r=>∃p q ws,qE p q/\Fil p ws/\ds=[cP p,sqD q,bJ ws]/\r=.val (.int (nwQ p q ws))
def aHD:List D->R->Prop:=λds r=>∃p q ws,qE p q/\Fil p ws/\ds=[cP p,sqD q,bJ ws]/\r=.val (bJ (onQ p q ws))
noncomputable def drQ(p:Int×Int)(c:Int):SQ:=((mxS c 1%10).toNat,mxS c 2%p.2,mxS c 4%p.2,mxS c 3%((2^p.1.toNat:Nat):Int))
def aLu:List D->R->Prop:=λds r=>∃p c,p∈cJ/\ds=[cP p,.int c]/\r=.val (sqD (drQ p c))
theorem aMT{p:Int×Int}(hp:p∈cJ)(c:Int):qE p (drQ p c):=by
 obtain⟨h1,h2,h3,h4,h5⟩:=xY p hp;have p20:(0:Int)<p.2:=by omega
 have m0:=pw0 p.1.toNat;have d1:=cE (mxS c 1) (show(0:Int)<10 by decide);exact⟨hp,by show(mxS c 1%10).toNat<10;omega,⟨dG _ (mO p20),cE _ p20⟩,⟨dG _ (mO p20),cE _ p20⟩,⟨dG _ (mO m0),cE _ m0⟩⟩
theorem lZ{α:Type}{f:α->D}{L:List α}{t:Nat}{d:D}(h:(L.map f)[t]? =some d):∃x,L[t]? =some x/\d=f x/\L.take (t+1)=L.take t++[x]:=by rw[aQ] at h;obtain⟨x,h1,h2⟩:=eE.mp h;exact⟨x,h1,h2.symm,by rw[eZ,h1];rfl⟩
theorem aDW{α:Type}{L:List α}(nd:L.Nodup){t:Nat}{x:α}(h:L[t]? =some x):x∉L.take t:=λz=>by
 obtain⟨i,hi,e⟩:=cV z;have il:i<t:=by rw[bX] at hi;omega
 rw[aIy] at e;obtain⟨t1,e2⟩:=aE.mp h;have:=(fV nd).mp (e.trans e2.symm);omega
theorem aEL{p:Int×Int}(hp:p∈cJ):(dH p).Nodup:=by
 have e:(dH p).map (tX p)=bP (dH p).length:=by
  refine lK (by simp) λi h1 h2=> ?_
  have hi:i<(dH p).length:=by simpa using h1
  rw[cY,mX];have:=aDj hp hi;simpa[cA,hi] using this
 have nd:((dH p).map (tX p)).Nodup:=by rw[e];exact aKG
 exact List.Pairwise.of_map _ (λa b h z=>h (by rw[z])) nd
noncomputable def inK(ws:List Int):List Key:=ws.map λ(i:Int)=>(Sum.inl i:Key)
theorem aIG(ws:List Int):tD (inK ws)=bJ ws:=by unfold tD inK bJ;rw[bA];rfl
theorem aAC:∀ {a b:List Int},inK a=inK b->a=b
 |[],[],_=>rfl
 |[],_::_,h=>by cases h
 |_::_,[],h=>by cases h
 |x::a,y::b,h=>by
  have h:(Sum.inl x:Key)::inK a=(Sum.inl y:Key)::inK b:=h;injection h with h1 h2
  rw[aAC h2,Sum.inl.inj h1]
theorem mV:∀ {a b:List (List Int)},a.map inK=b.map inK->a=b
 |[],[],_=>rfl
 |[],_::_,h=>by cases h
 |_::_,[],h=>by cases h
 |x::a,y::b,h=>by
  rw[bC,bC] at h;injection h with h1 h2
  rw[mV h2,aAC h1]
noncomputable def mgD(P:AD)(w:AM)(K:aA)(p:Int×Int)(s:SK):D:=gD (hkT P w) K ((dH p).map inK) ((dH p).map λws=>bJ (onQ p s.1 ws))
def aOZ(P:AD)(w:AM)(K:aA):List D->R->Prop:=λds r=>∃p L,p∈cJ/\StkOk p L/\ds=[cP p,.lst (L.map skD)]/\r=.own (L.map (mgD P w K p))
noncomputable def vS(L:List SK)(q:SQ):Bool:=(L.map λs=>sqD s.1).any λz=>deq z (sqD q)
theorem aJa{L:List SK}{q:SQ}(h:vS L q=false):sqD q∉L.map λs=>sqD s.1:=λhm=>by
 unfold vS at h;have:=aIw.mp h _ hm
 exact this (xI _ (by
  show pl (kC _ _ _ _)=true;unfold kC
  split
  ·rfl
  ·split<;>rfl))
namespace S45
section
variable {T:Type}[DecidableEq T]{n:Nat}{pr:Nat->Int}{beh:Nat->T->T}{t0:T}
theorem put_len(t:Int)(row:List Nat)(tab:T)(ly:Lay T):∀ (m:Nat) (j:Int),(put pr beh t row tab m ly j).length<=(ly j).length+m
 |0,j=>aM _
 |m+1,j=>by
  have ih:=put_len t row tab ly m j;show(if j=t+pr m then put pr beh t row tab m ly j++[(row++[m],beh m tab)] else put pr beh t row tab m ly j).length<=_
  split
  ·rw[aP];show _+1<=_;omega
  ·omega
def Bd(n:Nat)(s:List (Ent T)×Lay T):Prop:=∀j,(s.2 j).length<=1+n*s.1.length
theorem aLH{t:Int}{s:List (Ent T)×Lay T}(e:List Nat×T)(h:Bd n s):Bd n (one n pr beh t s e):=by
 unfold one
 split
 ·intro j;have:=put_len (pr:=pr) (beh:=beh) t e.1 e.2 s.2 n j;have:=h j;show(put pr beh t e.1 e.2 n s.2 j).length<=1+n*(s.1++[_]).length;rw[aP];show _<=1+n*(s.1.length+1);rw[Nat.mul_succ];omega
 ·exact h
theorem fold_bd{t:Int}:∀ {rest:List (List Nat×T)}{s:List (Ent T)×Lay T},Bd n s->Bd n (rest.foldl (one n pr beh t) s)
 |[],_,h=>h
 |e::rest,s,h=>fold_bd (rest:=rest) (s:=one n pr beh t s e) (aLH e h)
theorem aHL:∀t:Nat,Bd n (run n pr beh t0 t)
 |0=>λj=>by
  show(if j=0 then[(([]:List Nat),t0)] else[]).length<=_
  split
  ·exact aKO _ _
  ·exact bY _
 |t+1=>fold_bd (aHL t)
theorem Ok.take(hp:∀k,k<n->1<=pr k){t:Int}(ht:0<=t):∀ (m:Nat) {rest:List (List Nat×T)}{s:List (Ent T)×Lay T},Ok n pr beh t0 t rest s->Ok n pr beh t0 t (rest.drop m) ((rest.take m).foldl (one n pr beh t) s)
 |0,_,_,o=>o
 |_+1,[],_,o=>o
 |m+1,e::rest,s,o=>Ok.take hp ht m (rest:=rest) (s:=one n pr beh t s e) (o.step hp ht)
theorem len_pr:∀ (row:List Nat),(∀k∈row,1<=pr k)->(row.length:Int)<=prQ pr row
 |[],_=>kY _
 |k::row,h=>by
  have:=len_pr row λj hj=>h j (aF _ hj)
  have h1:=h k aH;show((row.length+1:Nat):Int)<=(pr k::row.map pr).sum;rw[sW];have:prQ pr row=(row.map pr).sum:=rfl;omega
end
end S45
noncomputable abbrev aNN:=List Bk×S45.Lay (List (List Int))
noncomputable def eD(x:List Nat×List (List Int)):D:=.tup [.tup (bM x.1),.tup (x.2.map bJ)]
noncomputable def lyD(s:aNN):Int->List D:=λj=>(s.2 j).map eD
noncomputable def tbK(t:List (List Int)):List (List Key):=t.map inK
theorem aIO(t:List (List Int)):D.tup ((tbK t).map tD)=.tup (t.map bJ):=by
 unfold tbK;rw[bA];congr 1;refine bZ λws _=> ?_
 exact aIG ws
noncomputable def ksE(B:List Bk):List (List (List Key)):=B.map λe=>tbK e.2.2
section
variable {p:Int×Int}{L:List SK}
theorem StkOk.pr(S:StkOk p L):∀k,k<L.length->1<=prK L k:=λk hk=>(S.st _ (DL.getD_mem (d:=(AN:SK)) hk)).2.1
theorem aGF(hp:p∈cJ)(S:StkOk p L){row:List Nat}(h:hX L row):∀ws∈S45.tabQ (gG p L) (dH p) row,ws∈dH p:=λws hw=>by obtain⟨q1,q2⟩:=wF hp (λs hs=>(S.st s hs).1) h;rw[<-q2] at hw;obtain⟨i,hi,rfl⟩:=aN.mp hw;exact DL.getD_mem (q1.2 i hi)
theorem aEA(hp:p∈cJ)(S:StkOk p L){row:List Nat}(h:hX L row):(S45.tabQ (gG p L) (dH p) row).length<=64:=by obtain⟨q1,q2⟩:=wF hp (λs hs=>(S.st s hs).1) h;rw[<-q2];unfold kN;rw[aB,q1.1];exact lU hp
end
end DL
namespace L2
open PySem PySem.Spec PyProof.Rows
end L2
namespace DL
open PySem PySem.Spec PyProof.Rows L2
section
variable {p:Int×Int}{L:List SK}{b:Int}{B C:List Bk}
noncomputable def aKQ(p:Int×Int)(L:List SK)(b:Int)(B:List Bk):Bool:=(B.any λe=>decide (e.2.1=[]))&&aHu p L b B
theorem aLg(hp:p∈cJ)(S:StkOk p L)(O:BkOk p L b B)(h:S45.HoldsP L.length (prK L) (gG p L) b B):aKQ p L b B=true:=(aEV hp S O).mpr h
noncomputable def fl45(B:List Bk)(t:Int):List Bk:=B.filter λe=>decide (e.1<=t)
end
noncomputable def aNw(t:Int):D->Bool
 |.tup (.int a::_)=>decide (a<=t)
 |_=>false
theorem aKg(B:List Bk)(t:Int):((B.map enD).filter (aNw t)).map id=(fl45 B t).map enD:=by rw[nY,List.filter_map];rfl
section
variable {prog:AD}{w:AM}{K:Type}[DecidableEq K]{knd:HeapKind prog w K}{A:BM}{E:BJ->BK->Prop}{s:BK}
theorem aAd{d a:BL}{xs:List (K×BL×BJ)}{k:K}{j:Nat}{p:BL×BJ}{Q:Option DictEntry->BK->Prop}(hu:knd.room A)(hkey:knd.is s.heap k a)(hm:s.heap.DictOfH knd d xs)(hj:xs[j]? =some (k,p))
  (hQ:∀h',h'.DictOfH knd d (xs.eraseIdx j)->Heap.SameBut d s.heap h'->Q (some (entryOfKey knd (k,p))) {s with heap:=h',toks:=s.toks+knd.draws k})
  (hsz:xs.length<=AL):
  AK (AH prog w) A (Builtin.Dict.takeOut d (.ref a)) Q E s:=by
 obtain⟨o,es,ep,ho,hc,hd,he,his,hn⟩:=hm;have hes:es.size<=AL:=by have e:=Az he;omega
 unfold Builtin.Dict.takeOut
 try with_reducible refine Af ?_
 refine AA (knd.pyHash hu hkey ?_);refine AA (wpAny_dictFind_heap (s:={s with toks:=s.toks+knd.draws k}) hu hkey ho hd he his hn (λno=>absurd hj (no j p)) λj' p' hj'=> ?_)
 have ej:j'=j:=by obtain⟨i1,e1⟩:=aE.mp hj';obtain⟨i2,e2⟩:=aE.mp hj;refine(fV (i:=j') (j:=j) (h₀:=by rw[aB];exact i1) (h₁:=by rw[aB];exact i2) hn).mp ?_;rw[cY,cY,e1,e2]
 subst ej;rw[hj] at hj';cases hj';refine AA (Aa (s:={s with toks:=s.toks+knd.draws k}) ho hd ?_);rw[entry_at he j',hj];refine AA (wpAny_updateDictKeys (hz:=hes) (s:={s with toks:=s.toks+knd.draws k}) ho hd (AB (hQ _ ⟨_,_,ep+1,jQ _ ho (Obj.isFreed_of_dict (Obj.data_mapDictKeys hd _)),hc.mapDictKeys _,Obj.data_mapDictKeys hd _, ?_,λx hx=> ?_, ?_⟩ (Heap.SameBut.update ..))))
 ·have:(es.eraseIdxIfInBounds j').toList=es.toList.eraseIdx j':=by obtain⟨l⟩:=es;simp
  rw[this,he,tR]
 ·exact knd.keeps (his x (kQ hx)) ho hd (Heap.SameBut.update ..)
 ·exact hn.sublist ((gJ _ _).map _)
end
section
variable {prog:AD}{w:AM}{K:Type}[DecidableEq K](knd:HeapKind prog w K)(d a:BL)
theorem aCh:
  MeetsIn prog w (Builtin.«dict.pop» ⟨[.ref d, .ref a],[]⟩) (fun A R s=>knd.room A.in1∧∃k xs j p,knd.is s.heap k a∧s.heap.DictOfH knd d xs∧xs.length≤AL∧xs[j]? =some (k,p)∧
   ∀h',h'.DictOfH knd d (xs.eraseIdx j)->Heap.SameBut d s.heap h'->R (.ok (.ret p.2)) {s with heap:=h',toks:=s.toks+knd.draws k}):=
 .of_wp λA R s ⟨hu,k,xs,j,p,hkey,hm,hz,hj,h⟩=>by
  unfold Builtin.«dict.pop»;refine AA ?_;unfold Builtin.Dict.keyAndDefault;refine AA (Ar hm.typeIs ?_);show AK _ _ (pure (d,Value.ref a,none)) _ _ s;refine AB ?_;have hp:(keyPart (Value.ref a)).isSome=false:=rfl;simp only[hp,cB,if_false];obtain⟨o,es,ep,ho,hc,hd,he,his,hn⟩:=id hm;refine AA (Aa ho hd (AA (AB ?_)))
  have ne:es.isEmpty=false:=by have e:=Az he;have:=(aE.mp hj).1;rw[Array.isEmpty_eq_false_iff_exists_mem];exact⟨es[0],Array.getElem_mem (by omega)⟩
  simp only[ne,cB,if_false];refine AA (aAd hu hkey hm hj (λh' hm' hs'=> ?_) hz);simp only[Option.isNone_some,cB,if_false];exact AA (wpAny_letGo (AB ⟨_,rfl,h h' hm' hs'⟩))
end
section
variable {X:Cx}{pins:List (BL×BO)}{σ:St}{H:Hp}{s:BK}{sts:List BP}
noncomputable abbrev reB(X:Cx)(B:Hp)(h:∀b o,X.H₀ b=some o->aFL o->B b=some o):Cx:={X with B₀:=B,hB:=h}
theorem aKA{B:Hp}{hb:∀b o,X.H₀ b=some o->aFL o->B b=some o}(I:Inv X pins σ H s):Inv (reB X B hb) pins σ H s:=
 ⟨⟨I.ok.mod,I.ok.kind,I.ok.glob,I.ok.blt,I.ok.above,I.ok.inj,I.ok.has,I.ok.cab,I.ok.hd,I.ok.frames,I.ok.stk,I.ok.exf,I.ok.bs,I.ok.bsz,I.ok.noex,I.ok.exfs,I.ok.funs,I.ok.frf⟩,I.os,I.bare,I.base,I.loc,I.cell,I.free,I.freeC,I.pin,I.hok,I.len⟩
theorem vJ{B:Hp}{hb:∀b o,X.H₀ b=some o->aFL o->B b=some o}(I:Inv (reB X B hb) pins σ H s):Inv X pins σ H s:=
 ⟨⟨I.ok.mod,I.ok.kind,I.ok.glob,I.ok.blt,I.ok.above,I.ok.inj,I.ok.has,I.ok.cab,I.ok.hd,I.ok.frames,I.ok.stk,I.ok.exf,I.ok.bs,I.ok.bsz,I.ok.noex,I.ok.exfs,I.ok.funs,I.ok.frf⟩,I.os,I.bare,I.base,I.loc,I.cell,I.free,I.freeC,I.pin,I.hok,I.len⟩
theorem aJM{B:Hp}{hb:∀b o,X.H₀ b=some o->aFL o->B b=some o}{D:uO}(h:wSs (reB X B hb) sts D σ H):wSs X sts D σ H:=λpins s I=>thn (h pins s (aKA I)) λf s' q=>by
 cases f with
 |next=>obtain⟨σ',H',I',q⟩:=q;exact⟨σ',H',vJ I',q⟩
 |brk=>obtain⟨σ',H',I',q⟩:=q;exact⟨σ',H',vJ I',q⟩
 |cont=>obtain⟨σ',H',I',q⟩:=q;exact⟨σ',H',vJ I',q⟩
 |ret u=>obtain⟨v,σ',H',I',r,q⟩:=q;exact⟨v,σ',H',vJ I',r,q⟩
end
noncomputable def spP(K:aA)(n:Nat)(C:List D->List D->R->Prop):Sp:=λvs H Q _=>vs.length=n/\∃ (l:BL) (us:List V) (F:Hp) (xs:List V) (ds0 ds:List D) (r:R),vs=.ref l::us/\F l=none/\H=upd F l (.lst xs)/\Smp F/\RepL K F ds0 xs/\RepL K F ds us/\C ds0 ds r/\∀v H',aCH K F H' r v->Q v H'
structure aOz(P:AD)(w:AM)(K:aA)(mg:Str->Option BJ)(base:BN)(x:Str)(k n:Nat)(C:List D->List D->R->Prop):Prop where
 ex:∃ (f:BL) (fd:AX) (ps:List Str),mg x=some (.ref f)/\eM K (.ref f)=true/\Binds K fd ps []/\FnOk P w K mg base CX0 k f fd ps (spP K n C)
structure Lent(K:aA) where
 α:Type
 ad:α->BL
 own:α->List BL
 G:α->V->Hp->Hp->Prop
 hv:∀ {a:α}{v:V}{F H:Hp},G a v F H->v=.ref (ad a)
noncomputable def Lent.sl{K:aA}(Z:Lent K)(a:Z.α):Slot:=.ox (Z.own a) (Z.G a)
section
variable {K:aA}(Z:Lent K)
noncomputable def spL(n:Nat)(C:Z.α->List D->(Z.α->Prop)->Prop):Sp:=λvs H Q _=>vs.length=n/\∃ (v:V) (us:List V) (F:Hp) (a:Z.α) (ds:List D) (post:Z.α->Prop),vs=v::us/\Same F H/\(∀b,b∉Z.own a->H b=F b)/\Smp H/\iZ K F H (Z.sl a) (some v)/\(Z.own a).Nodup/\RepL K F ds us/\C a ds post/\(∀a',post a'->Z.ad a'=Z.ad a)/\
 ∀H',(∃F' a',post a'/\Same F F'/\Same F' H'/\Smp H'/\iZ K F' H' (Z.sl a') (some v)/\(Z.own a').Nodup)->Q .non H'
noncomputable def spM(n:Nat)(C:Z.α->List D->(Z.α->Prop)->Prop):Sp:=λvs H Q _=>vs.length=n/\Smp H/\∃ (v:V) (us:List V) (F:Hp) (a:Z.α) (ds:List D) (post:Z.α->Prop),vs=v::us/\Same F H/\iZ K F H (Z.sl a) (some v)/\(Z.own a).Nodup/\RepL K F ds us/\C a ds post/\(∀a',post a'->Z.ad a'=Z.ad a)/\
 ∀F' H' a',post a'->Same F F'->Same F' H'->Smp H'->iZ K F' H' (Z.sl a') (some v)->(Z.own a').Nodup->(∀b o,b∉Z.own a->H b=some o->H' b=some o)->(∀b o,b∉Z.own a->H b=some o->F b=none->F' b=none/\b∉Z.own a')->Q .non H'
end
open Classical in
noncomputable def xN(as:List BL)(F H:Hp):Hp:=λb=>if b∈as then H b else F b
open Classical in
noncomputable def mG(as:List BL)(F H:Hp):Hp:=λb=>if b∈as then F b else sA F H b
theorem nF{as:List BL}{F H:Hp}:Same F (mG as F H):=λb o e=>by
 unfold mG
 by_cases h:b∈as
 ·rw[if_pos h];exact e
 ·rw[if_neg h];exact rM _ _ e
theorem sJ{as:List BL}{F H:Hp}{b:BL}(hb:b∉as)(h:F b=none):mG as F H b=H b:=by unfold mG;rw[if_neg hb];exact rY h
theorem aAz{as:List BL}{F H:Hp}{b:BL}(hb:b∈as):xN as F H b=H b:=by unfold xN;rw[if_pos hb]
theorem sL{as:List BL}{F H:Hp}{b:BL}(hb:b∉as):xN as F H b=F b:=by unfold xN;rw[if_neg hb]
theorem FnOk.framedL{P:AD}{w:AM}{K:aA}{Z:Lent K}{mg:Str->Option BJ}{base:BN}{k n:Nat}{f:BL}{fd:AX}{ps:List Str}{C:Z.α->List D->(Z.α->Prop)->Prop}(G:FnOk P w K mg base CX0 k f fd ps (spL Z n C)):FnOk P w K mg base CX0 k f fd ps (spM Z n C):=by
 have res:∀ {F H:Hp}{a:Z.α}{v:V},Same F H->iZ K F H (Z.sl a) (some v)->Same F (xN (Z.own a) F H)/\Same (xN (Z.own a) F H) H/\iZ K F (xN (Z.own a) F H) (Z.sl a) (some v):=λ{F H a v} sF so=>by
  obtain⟨v',ev,ow,gg⟩:=so;refine⟨λb o e=> ?_,λb o e=> ?_,v',ev,λb hb=>⟨(ow b hb).1, ?_⟩,λF' H' s k=>gg F' H' s λb hb ob e=>k b hb ob (by rw[aAz hb];exact e)⟩
  ·by_cases h:b∈Z.own a
   ·rw[(ow b h).1] at e;cases e
   ·rw[sL h];exact e
  ·by_cases h:b∈Z.own a
   ·rw[aAz h] at e;exact e
   ·rw[sL h] at e;exact sF b o e
  ·rw[aAz hb];exact(ow b hb).2
 refine⟨λvs H Q E h=> ?_,λA outer s H args us vs Q E hr e0 hb rv h=> ?_⟩
 ·obtain⟨hl,sm,v,us,F,a,ds,post,e,sF,so,nd,rl,c,hp,_⟩:=h;obtain⟨q1,q2,q3⟩:=res sF so;exact G.len vs (xN (Z.own a) F H) (λ_ _=>True) E ⟨hl,v,us,F,a,ds,post,e,q1,λb hb=>sL hb,sm.sub q2,q3,nd,rl,c,hp,λ_ _=>trivial⟩
 ·obtain⟨hl,sm,v,us',F,a,ds,post,ev,sF,so,nd,rl,c,hp,q⟩:=h;obtain⟨q1,sU,q3⟩:=res sF so;obtain⟨_,_,ow,_⟩:=id so;have nU:∀b,b∉Z.own a->F b=none->xN (Z.own a) F H b=none:=λb hbl n=>by rw[sL hbl];exact n
  have e1:aKK P w K mg base A outer s (xN (Z.own a) F H):=⟨e0.frames,e0.mod,λb o e=>⟨(e0.bs b o e).1,sU.free (e0.bs b o e).2⟩,e0.bsz,e0.funs,λb hb=>sU.free (e0.frf b hb),λb o e=>(e0.hok b o (sU b o e)).smp (sm b o (sU b o e)),e0.bare⟩;refine codeAny_mono (G.run A outer s (xN (Z.own a) F H) args us vs (λv3 F3=>v3=.non/\∃F' a',post a'/\Same F F'/\Same F' F3/\Smp F3/\iZ K F' F3 (Z.sl a') (some v)/\(Z.own a').Nodup) E hr e1 hb rv ⟨hl,v,us',F,a,ds,post,ev,q1,λb hb=>sL hb,sm.sub sU,q3,nd,rl,c,hp,λH' z=>⟨rfl,z⟩⟩) λrr s' hrr=> ?_
  cases rr with
  |error e=>exact hrr
  |ok flw=>
   cases flw with
   |ret u=>
    obtain⟨v3,F3,ho,ha,un,hk,ru,e3,F2,a',pa,s1,s2,sm3,so3,nd3⟩:=hrr;subst e3
    have keepF:∀b o,b∉Z.own a->H b=some o->F b=none->F3 b=none:=λb o hbl e n=>by
     have lt:=e0.hok.lt e;cases g:s.heap.get? b with
     |none=>
      exfalso;have ob:=e0.hok b o e;have z:=sm b o e;cases o with
      |lst xs=>obtain⟨_,_,_,_,g'⟩:=ob;rw[g] at g';cases g'
      |tup xs=>obtain⟨_,_,_,oo,g',_⟩:=ob;rw[g] at g';cases g'
      |dK kvs=>obtain⟨_,_,_,_,oo,_,_,g',_⟩:=ob;rw[g] at g';cases g'
      |frz o2 u2=>obtain⟨g',_⟩:=ob;rw[g] at g';cases g'
      |ext φ=>obtain⟨_,⟨oo,g'⟩,_⟩:=ob;rw[g] at g';cases g'
      |_=>exact z
     |some ob=>exact un.free b ob g (nU b hbl n) (by simp)
    have keepO:∀b o,b∉Z.own a->H b=some o->F b=none->∀ob,s.heap.get? b=some ob->s'.heap.get? b=some ob:=λb o hbl e n ob g=>un.keep b ob g (nU b hbl n) (λhb=>by have:=e0.frf b hb;rw[e] at this;cases this) (by simp)
    have sH:∀b o,b∉Z.own a->H b=some o->mG (Z.own a) F3 H b=some o:=λb o hbl e=>by
     cases g:F b with
     |none=>rw[sJ hbl (keepF b o hbl e g)];exact e
     |some o'=>have:=sF b o' g;rw[e] at this;cases this;exact nF _ _ (s2 _ _ (s1 _ _ g))
    have nl:∀ {b:BL}{o:HO},H b=some o->¬ Wr b o->b∉Z.own a:=λe no z=>by obtain⟨_,ob,g,wr⟩:=ow _ z;rw[e] at g;cases g;exact no wr
    have nn:∀ {b:BL},H b=none->b∉Z.own a:=λe z=>by obtain⟨_,ob,g,_⟩:=ow _ z;rw[e] at g;cases g
    have smM:Smp (mG (Z.own a) F3 H):=λb o e=>by
     by_cases hbl:b∈Z.own a
     ·unfold mG at e;rw[if_pos hbl] at e;exact sm3 _ o e
     ·cases g:F3 b with
      |some o'=>have:=nF (as:=Z.own a) (H:=H) b o' g;rw[e] at this;cases this;exact sm3 b o g
      |none=>rw[sJ hbl g] at e;exact sm b o e
    have soM:iZ K F2 (mG (Z.own a) F3 H) (Z.sl a') (some v):=by obtain⟨v',ev,ow3,gg⟩:=so3;refine⟨v',ev,λb hb=>⟨(ow3 b hb).1, ?_⟩,λF' H' s k=>gg F' H' s λb hb ob e=>k b hb ob (nF _ _ e)⟩;obtain⟨_,ob,g,wr⟩:=ow3 b hb;exact⟨ob,nF _ _ g,wr⟩
    refine⟨.non,mG (Z.own a) F3 H,ho,ha,⟨λb o g n hb hx=>un.keep b o g (sU.free n) hb hx,λb o g n hb hx=>un.slot b o g (sU.free n) hb hx,λb o g n hx=> ?_,un.there,λb xs e=>sH _ _ (nl e λz=>z) e,λb o u e=>sH _ _ (nl e λz=>z) e,λb ps e=>⟨#[],by rw[sH _ _ (nl e λz=>z) e];simp⟩⟩,λb o e=> ?_,ru, ?_⟩
    ·rw[sJ (nn n) (un.free b o g (sU.free n) hx)];exact n
    ·have z:=smM b o e
     by_cases hbl:b∈Z.own a
     ·have e':F3 b=some o:=by unfold mG at e;rw[if_pos hbl] at e;exact e
      exact(hk b o e').smp z
     ·cases g:F3 b with
      |some o'=>have:=nF (as:=Z.own a) (H:=H) b o' g;rw[e] at this;cases this;exact(hk b o g).smp z
      |none=>
       rw[sJ hbl g] at e
       have n:F b=none:=by
        cases g2:F b with
        |none=>rfl
        |some o2=>rw[s2 _ _ (s1 _ _ g2)] at g;cases g
       have st:=(e0.hok b o e).smp (F:=λ_=>none) z
       have:ObjOk P w (fun _=>none) s'.heap b o:=st.stay (fun b2 u hb2 gg=>by
        rcases hb2 with rfl|hb2
        ·exact keepO _ o hbl e n u gg
        ·cases hb2) (λb2 hb2=>nomatch hb2) λb2 xs hb2=>nomatch hb2
       exact this.smp z
    ·refine q F2 (mG (Z.own a) F3 H) a' pa s1 (s2.trans nF) smM soM nd3 sH λb o hbl e n=> ?_
     have n3:=keepF b o hbl e n;refine⟨s2.free n3,λhb=> ?_⟩;obtain⟨_,_,ow3,_⟩:=so3;obtain⟨_,ob,g,_⟩:=ow3 b hb;rw[n3] at g;cases g
   |_=>exact hrr
theorem rD:∀ {sd:List Slot}{i:Nat}{z:Slot},(cH sd).Nodup->sd[i]? =some z->(iN z).Nodup
 |[],_,_,_,e=>by simp at e
 |y::zs,0,z,h,e=>by
  have:y=z:=by simpa using e
  subst this;exact(bF.mp (show(iN y++cH zs).Nodup from h)).1
 |y::zs,i+1,z,h,e=>rD (sd:=zs) (i:=i) (bF.mp (show(iN y++cH zs).Nodup from h)).2.1 (by simpa using e)
structure vA(P:AD)(w:AM)(K:aA)(Z:Lent K)(mg:Str->Option BJ)(base:BN)(x:Str)(k n:Nat)(C:Z.α->List D->(Z.α->Prop)->Prop):Prop where
 ex:∃ (f:BL) (fd:AX) (ps:List Str),mg x=some (.ref f)/\eM K (.ref f)=true/\Binds K fd ps []/\FnOk P w K mg base CX0 k f fd ps (spL Z n C)
noncomputable def aBe{K:aA}(Z:Lent K)(n:Nat)(a:Z.α)(ds:List D):List Slot:=Z.sl a::(ds.map Slot.val++gS (n-(ds.length+1)) .un)
theorem aJF{P:AD}{w:AM}{K:aA}{Z:Lent K}{mg:Str->Option BJ}{base:BN}{x qual:Str}{st:BP}{f:BL}{fd:AX}{N ps:List Str}{k:Nat}{C:Z.α->List D->(Z.α->Prop)->Prop}(F:Fun K x qual st f fd)(S:pY N ps (bI st))
  (hm:mg x=some (.ref f)) (hb:∀ (kV doc pm:BJ) (an:Option BL) (cdv ct:BJ) (us:List BJ),us.length=ps.length->bindArgs (gK x qual (lH st) (iX st) (bI st) .none kV doc pm an cdv ct) ⟨us,[]⟩=pure (ps.zip us))
  (body:∀ (cdv:BJ) (A:BM) (outer:List Env) (s:BK) (H:Hp) (E:XK) (B:Hp) (hB:∀b o,H b=some o→aFL o→B b=some o),Room k (A.deeper (Ah qual (bI st) s.heap.objs.size f cdv))→∀a ds post,ds.length+1=ps.length→C a ds post→
   PSd (reB (nO CX0 P w K mg base N qual (bI st) f cdv A outer s H E).nox B hB) (aBe Z N.length a ds) (iX st) {nx:=λsd'=>∃a',post a'/\sd'[0]? =some (Z.sl a'),rt:=λ_=>False})
  (hw:∀ (a:Z.α) (v:V) (F H:Hp) (b:BL) (o:HO),Z.G a v F H->b∈Z.own a->H b=some o->¬ aFL o):vA P w K Z mg base x (k+1) ps.length C:=by
 refine⟨f,fd,ps,hm,F.kp,F.binds hb,F.ok S (λvs H Q E h=>h.1) λcdv A outer s H vs Q E hr h=> ?_⟩;obtain⟨hl,v,us,F0,a,ds,post,rfl,sF,hH,sm,so,nd,rl,c,hp,q⟩:=h;have hds:ds.length+1=ps.length:=by rw[<-rl.len];exact hl
 have hB:∀b o,H b=some o->aFL o->F0 b=some o:=λb o e no=>by
  by_cases hbl:b∈Z.own a
  ·obtain⟨_,_,_,gg⟩:=so;exact absurd no (hw a _ F0 H b o (gg F0 H (Same.refl _) λ_ _ _ e=>e) hbl e)
  ·rw[<-hH b hbl];exact e
 refine⟨_,uE,aJM (B:=F0) (hb:=hB) ?_⟩;have hlen:N.length-(us.length+1)=N.length-(ds.length+1):=by rw[rl.len]
 have S0:StF K F0 F0 H (L2.start N (v::us)) (aBe Z N.length a ds):=by
  refine⟨Same.refl _,sF,sm, ?_, ?_⟩
  ·unfold L2.start aBe;show SlotsOk K F0 _ (_::_) (some v::(us.map some++gS (N.length-(us.length+1)) none));rw[hlen];exact⟨_,_,rfl,so,qZ (m:=0) rl⟩
  ·unfold aBe;rw[qP,qS,dD];exact nd
 refine(body cdv A outer s _ E F0 hB hr a ds post hds c (L2.start N (v::us)) F0 _ S0).imp ?_ ?_ (λ_ _ ⟨_,_,_,_,z⟩=>z) λ_ _ ⟨_,_,_,_,z⟩=>z
 ·rintro σ' H' ⟨sd',F',S',s',a',pa,hs⟩;obtain⟨o,h1,so'⟩:=S'.slots.get hs;obtain⟨v',rfl,ow',gg⟩:=so';have e1:=Z.hv (gg F' H' (Same.refl _) λ_ _ _ e=>e);obtain⟨v0,ev,_,g0⟩:=so;cases ev;have e0:=Z.hv (g0 F0 H (Same.refl _) λ_ _ _ e=>e);have evv:v'=v:=by rw[e1,e0,hp a' pa]
  subst evv;refine q H' ⟨F',a',pa,S'.base,S'.sub,S'.smp,⟨v',rfl,ow',gg⟩, ?_⟩;have nd':=S'.nd;exact rD nd' hs
 ·rintro v' H' ⟨r',ro,e⟩;exact e.elim
section
variable {X:Cx}{sd:List Slot}{c:Expr}{es:List Expr}{pos cp p p2:Pos}{ds:List D}{E:kR}{k n:Nat}{f x:Str}
theorem aFe{Z:Lent X.K}{C:Z.α->List D->(Z.α->Prop)->Prop}{post:Z.α->Prop}{a:Z.α}(i:Nat)(hs:sd[i]? =some (Z.sl a))(hxi:PE X (.Name x p2) (lG i))(G:vA X.prog X.w X.K Z X.mg X.base f k n C)(hr:Room k X.A)(hg:Gl X f)(ha:PAd X sd es (ds.map R.val))(hc:C a ds post)(hp:∀a',post a'->Z.ad a'=Z.ad a)(hn:ds.length+1=n)(hE:∀a',post a'->E.nx (sd.set i (Z.sl a')))
  (hdb:(f==("__debug__":Str))=false:=by decide) (he:AG (.Name x p2::es) X.env=(false,eval (.Name x p2) X.env)::AG es X.env:=by rfl) (hpl:(Au cp (AG es X.env)).any (·.1)=false:=by rfl)
  (hsw:Ad (.Call (.Name f p) (.Name x p2::es) [] cp) none pos.line X.env=pure false:=by rfl):PSd1 X sd (.Expr (.Call (.Name f p) (.Name x p2::es) [] cp) pos) E:=.mk λσ F H S=>by
 obtain⟨fa,fd,ps,hm,hkp,bd,G⟩:=G.ex;obtain⟨o0,h1,v,h2,_⟩:=S.slots.get hs;refine(pW (aDR (FnOk.framedL G) hr hg hm hkp bd .nil aLl (fX hxi zV he) hdb he hpl) hsw).to ⟨v,by rw[h1,h2],(ha σ F H S).imp λus H1 ⟨F1,S1,s1,q1⟩=> ?_⟩;have rl:=q1.vals;obtain⟨o1,g1,so⟩:=S1.slots.get hs
 have eo:o1=some v:=by rw[h1,h2] at g1;exact(cF.inj g1).symm
 subst eo;refine⟨by rw[dD,bS,rl.len];exact hn,S1.smp,v,us,F1,a,ds,post,by rw[dD],S1.sub,so,rD S1.nd hs,rl,hc,hp,λF' H' a' pa s2 s3 sm so' nd kp kf=> ?_⟩;have S2:=S1.le (iG sd i);have no:∀b,b∈cH (sd.set i .un)->b∉Z.own a:=λb hb z=>jB S1.nd hs (show b∈iN (Z.sl a) from z) hb
 have S3:StF X.K X.B₀ F' H' σ (sd.set i .un):=⟨fun b o e=>s2 _ _ (S1.base _ _ e),s3,sm,S2.slots.mono s2 fun b hb=>by
  obtain⟨n1,ob,e,_⟩:=S2.slots.owns hb
  exact⟨(kf b ob (no b hb) e n1).1,λxs e'=>kp b xs (no b hb) e'⟩,S2.nd⟩
 have S4:=S3.setT i so' nd λb hb hb2=>by obtain⟨n1,ob,e,_⟩:=S2.slots.owns hb2;exact(kf b ob (no b hb2) e n1).2 hb
 rw[jY,lJ g1] at S4;exact⟨_,F',S4,s1.trans s2,hE a' pa⟩
theorem aEK{body:List BP}(W:Nat->List Slot->Prop)(h0:∃m sd0,Le sd sd0/\W m sd0)
  (hb:∀m sdm,W m sdm->∃t:Bool,PTd X sdm c t/\(t=false->E.nx sdm)/\(t=true->PSd X sdm body {E with nx:=λsd'=>∃m' sd2,m'<m/\Le sd' sd2/\W m' sd2,ct:=λsd'=>∃m' sd2,m'<m/\Le sd' sd2/\W m' sd2,bk:=E.nx}))
  (hp:PassesOwn (AH X.prog X.w) X.A X.env X.xe:=by exact PassesOwn.never):PSd1 X sd (.While c body [] pos) E:=.mk λσ F H S=>
 (aGj hp aID uE).to (by
  obtain⟨m0,sd0,le0,q0⟩:=h0;refine⟨λm σ' H'=>∃sdm F',StF X.K X.B₀ F' H' σ' sdm/\Same F F'/\W m sdm,⟨m0,sd0,F,S.le le0,Same.refl _,q0⟩, ?_⟩;rintro m σ' H' ⟨sdm,F',S',s',qm⟩;obtain⟨t,ht,h1,h2⟩:=hb m sdm qm;refine(ht σ' F' H' S').imp λb H1 ⟨eb,F1,S1,s1⟩=> ?_
  subst eb;cases b with
  |false=>exact aIC ⟨sdm,F1,S1,s'.trans s1,h1 rfl⟩
  |true=>
   refine aIB ⟨λσ2 H2=>∃m' sd2 F2,m'<m/\StF X.K X.B₀ F2 H2 σ2 sd2/\Same F F2/\W m' sd2,λσ2 H2 ⟨m',sd2,F2,lt,S2,s2,w2⟩=>⟨m',lt,sd2,F2,S2,s2,w2⟩, ?_⟩;refine(h2 rfl σ' F1 H1 S1).imp ?_ ?_ ?_ ?_
   ·rintro σ4 H4 ⟨sd4,F4,S4,s4,m',sd5,lt,le,q5⟩;exact⟨m',sd5,F4,lt,S4.le le,(s'.trans s1).trans s4,q5⟩
   ·exact λv H4 q=>q
   ·rintro σ4 H4 ⟨sd4,F4,S4,s4,q⟩;exact⟨sd4,F4,S4,(s'.trans s1).trans s4,q⟩
   ·rintro σ4 H4 ⟨sd4,F4,S4,s4,m',sd5,lt,le,q5⟩
    exact⟨m',sd5,F4,lt,S4.le le,(s'.trans s1).trans s4,q5⟩)
end
theorem zZ{P:AD}{w:AM}{H:Hp}{h h':BN}{cs:List BL}(x:HOk P w H h)(k:∀b u,b∉cs->h.get? b=some u->h'.get? b=some u)(hn:∀b∈cs,H b=none):HOk P w H h':=λa o e=>
 (x a o e).stay (fun b u hb q=>k b u (fun z=>by
  have n:=hn b z
  rcases hb with rfl|hb
  ·rw[e] at n;cases n
  ·rw[hb] at n
   cases n) q) (λ_ q=>q) λ_ _ q=>q
section
variable {prog:AD}{w:AM}{A:BM}{d I:BL}{od:BO}{es:Array DictEntry}{ep:Nat}
theorem aMu(hh:A.handled=none)(c:od.data=.dict es ep)(ne:d≠I):Walks prog w A I [I,d] [I] es.size (λi v=>∃u,es[i]? =some u/\v=u.key) (λi h=>h.IsKeyIter I d i es.size ep/\h.get? d=some od) where
 sub:=λb hb=>aX.mpr (.inl (aG.mp hb))
 frame:=λi h h' st k=>by obtain⟨⟨o,g,q⟩,g2⟩:=st;exact⟨⟨o,k I aH o g,q⟩,k d (by simp) od g2⟩
 item:=λi s Q E hi st q=>yU st.1 st.2 c hi λh' st' sb=>q _ h' s.toks ⟨es[i],by simp[hi],rfl⟩ ⟨st',(sb.2 d ne).trans st.2⟩ λb o hb g=>(sb.2 b λz=>hb (by rw[z];exact cG _)).trans g
 done:=λs Q E st q=>aBi hh st.1 st.2 c (aM _) λh' eb=>q h' s.toks λb o hb g=>eb b o (λz=>hb (by rw[z];exact cG _)) g
 self:=λi s Q E st q=>wpAny_pyIter_keyiter st.1 q
theorem srcD(sm:(d==AU)=false)(x:od.ExactDict)(c:od.data=.dict es ep):PySem.W.KdlSrc prog w "dict" d d es.size (λi v=>∃u,es[i]? =some u/\v=u.key) (λh=>h.get? d=some od) where
 type:=λs ok=>oS ok x
 there:=λh ok=>⟨aU ok,aU ok⟩
 keep:=λh h' ok k=>k d (.inl rfl) od ok
 notList:=by decide
 notTuple:=by decide
 hint:=λA E s Q ok q=>PySem.W.kdl_hint_dict (oS ok x) q
 iter:=λA s hh ok=>⟨_,_,λE Q q=>aBz sm ok x c q,aMu hh c (bO (aU ok)),⟨⟨_,bD _ rfl,rfl,rfl⟩,aI _ ok⟩⟩
end
section
variable {prog:AD}{w:AM}{A:BM}{I:BL}{fp wr:List BL}{n:Nat}{P:Nat->BJ->Prop}{St:Nat->BN->Prop}{J:BN->Prop}{bt:Nat->Nat->Bool}{R:Result->BK->Prop}{S:BL}
def aNJ(prog:AD)(w:AM)(A:BM)(J:BN->Prop)(P:Nat->BJ->Prop)(bt:Nat->Nat->Bool):Prop:=∀i k x y (t:BK) (Q:BJ->BK->Prop) (E:BJ->BK->Prop),J t.heap->P i x->P k y->Q (.bool (bt i k)) t->AK (AH prog w) A (richCompare .Lt x y) Q E t
def aIJ(cs:List BL)(J:BN->Prop):Prop:=∀h h':BN,J h->(∀b o,b∉cs->h.get? b=some o->h'.get? b=some o)->J h'
noncomputable def two2(v:BJ)(c:Nat):BO:={cls:=.type "list",dict:=none,data:=.seq #[v,v] c,slots:= #[]}
theorem aEx(W:Walks prog w A.in1 I fp wr n P St)(ask:aNJ prog w A.in1 J P bt)(stay:aIJ (S::wr) J)(nS:S∉fp):∀ (k j:Nat) (s:BK) (v0:BJ) (c:Nat),n=k+(j+1)->St (j+1) s.heap->P (Ac bt j) v0->J s.heap->s.heap.get? S=some (two2 v0 c)->
  (∀v h' tk,P (Ac bt (n-1)) v->(∀b o,b∉S::wr->s.heap.get? b=some o->h'.get? b=some o)->R (.ok (.ret v)) {s with heap:=h',toks:=tk})->codeAny (AH prog w) A (.builtin "min.loop" ⟨[.ref I,.none,.ref S],[]⟩) R s:=λk=>by
 have nW:S∉wr:=λz=>nS (W.sub S z)
 have nm:(toString "min"++toString ".loop":String)="min.loop":=by decide
 have upO:∀ {h:BN}{f:BO->BO}{b:BL}{o:BO},b∉S::wr->h.get? b=some o->(h.update S f).get? b=some o:=λ{h f b o} hb g=>by rw[dR _ _ (λz=>hb (by rw[<-z];exact aH))];exact g
 have upF:∀ {h:BN}{f:BO->BO}{i:Nat},St i h->St i (h.update S f):=λ{h f i} st=>W.frame _ _ _ st λb hb o g=>by rw[dR _ _ (show S≠b from λz=>nS (by rw[z];exact hb))];exact g
 have sub1:∀ {b:BL},b∉S::wr->b∉wr:=λhb z=>hb (aF _ z)
 induction k with
 |zero=>
  intro j s v0 c en st p0 hJ hS fin;have ej:n=j+1:=by omega
  refine BI F.entry_min_loop ?_;rw[Around.under_plainId F.plain_min_loop];refine AA (m:=seqItems? (.ref S)) (wpAny_seqItems hS rfl ?_);refine AA (m:=tryCatch (pyNext (.ref I)) _) (wpAny_tryCatch (W.done s _ _ (by rw[ej];exact st) λh1 tk k1=> ?_));refine AA (m:=updateSeq S λ_=> #[]) (wpAny_updateSeq (k1 S _ nW hS) rfl (AA (wpAny_letGo (AB ?_))));exact fin v0 _ tk (by rw[ej];exact p0) λb o hb g=>upO hb (k1 b o (sub1 hb) g)
 |succ k ih=>
  intro j s v0 c en st p0 hJ hS fin;refine BI F.entry_min_loop ?_;rw[Around.under_plainId F.plain_min_loop];refine AA (m:=seqItems? (.ref S)) (wpAny_seqItems hS rfl ?_);refine AA (m:=tryCatch (pyNext (.ref I)) _) (wpAny_tryCatch (W.item (j+1) s _ _ (by omega) st λv h1 tk pv st1 k1=> ?_));have hS1:=k1 S _ nW hS;have hJ1:J h1:=stay _ _ hJ λb o hb g=>k1 b o (sub1 hb) g
  refine AA (m:=tryCatch (holding [v,v] (richCompare .Lt v v0>>=_)) _) (wpAny_tryCatch (Af (AA (ask (j+1) (Ac bt j) v v0 ⟨h1,s.gens,s.drawn,tk,s.os⟩ _ _ hJ1 pv p0 ?_))));refine AA (Af (AZ (AA (wpAny_letGo (AB ?_)))));have ab:Ac bt (j+1)=if bt (j+1) (Ac bt j) then j+1 else Ac bt j:=rfl
  cases q:bt (j+1) (Ac bt j) with
  |true=>rw[q,if_pos rfl] at ab;simp only[if_true];refine AA (wpAny_updateSeq hS1 rfl (AA (wpAny_letGo ?_)));rw[nm];refine AB ⟨plainId_quiet F.plain_min_loop _,ih (j+1) _ v _ (by omega) (upF st1) (by rw[ab];exact pv) (stay _ _ hJ1 λb o hb g=>upO hb g) (jQ _ hS1 rfl) λv' h2 tk2 p2 k2=> ?_⟩;exact fin v' h2 tk2 p2 λb o hb g=>k2 b o hb (upO hb (k1 b o (sub1 hb) g))
  |false=>rw[q,if_neg bN] at ab;simp only[cB,if_false];refine AA (wpAny_letGo ?_);rw[nm];refine AB ⟨plainId_quiet F.plain_min_loop _,ih (j+1) _ v0 c (by omega) st1 (by rw[ab];exact p0) hJ1 hS1 λv' h2 tk2 p2 k2=> ?_⟩;exact fin v' h2 tk2 p2 λb o hb g=>k2 b o hb (k1 b o (sub1 hb) g)
theorem aBU(W:Walks prog w A.in1 I fp wr n P St)(ask:aNJ prog w A.in1 J P bt)(stay:aIJ (S::wr) J)(nS:S∉fp)(h0:0<n){s:BK}{c:Nat}(st:St 0 s.heap)(hJ:J s.heap)(hS:s.heap.get? S=some {cls:=.type "list",dict:=none,data:=.seq #[] c,slots:= #[]})
  (fin:∀v h' tk,P (Ac bt (n-1)) v->(∀b o,b∉S::wr->s.heap.get? b=some o->h'.get? b=some o)->R (.ok (.ret v)) {s with heap:=h',toks:=tk}):codeAny (AH prog w) A (.builtin "min.loop" ⟨[.ref I,.none,.ref S],[]⟩) R s:=by
 have nW:S∉wr:=λz=>nS (W.sub S z)
 have nm:(toString "min"++toString ".loop":String)="min.loop":=by decide
 have upO:∀ {h:BN}{f:BO->BO}{b:BL}{o:BO},b∉S::wr->h.get? b=some o->(h.update S f).get? b=some o:=λ{h f b o} hb g=>by rw[dR _ _ (λz=>hb (by rw[<-z];exact aH))];exact g
 have sub1:∀ {b:BL},b∉S::wr->b∉wr:=λhb z=>hb (aF _ z)
 refine BI F.entry_min_loop ?_;rw[Around.under_plainId F.plain_min_loop];refine AA (m:=seqItems? (.ref S)) (wpAny_seqItems hS rfl ?_);refine AA (m:=tryCatch (pyNext (.ref I)) _) (wpAny_tryCatch (W.item 0 s _ _ h0 st λv h1 tk pv st1 k1=> ?_));have hS1:=k1 S _ nW hS;refine AA (m:=updateSeq S λ_=> #[v,v]) (wpAny_updateSeq hS1 rfl ?_);rw[nm];refine AB ⟨plainId_quiet F.plain_min_loop _,aEx W ask stay nS (n-1) 0 _ v _ (by omega) (W.frame _ _ _ st1 λb hb o g=> ?_) pv (stay _ _ hJ λb o hb g=>upO hb (k1 b o (sub1 hb) g)) (jQ _ hS1 rfl) λv' h2 tk2 p2 k2=> ?_⟩
 ·rw[dR _ _ (show S≠b from λz=>nS (by rw[z];exact hb))];exact g
 ·exact fin v' h2 tk2 p2 λb o hb g=>k2 b o hb (upO hb (k1 b o (sub1 hb) g))
theorem aFk{E:BJ->BK->Prop}{s:BK}{x:BJ}{Q:BJ->BK->Prop}
  (h:AK (AH prog w) A.in1 (pyIter x) (fun it t=>∃ (I:BL) (fp wr:List BL) (n:Nat) (P:Nat→BJ→Prop) (St:Nat→BN→Prop) (J:BN→Prop) (bt:Nat→Nat→Bool),it= .ref I∧Walks prog w A.in1 I fp wr n P St∧St 0 t.heap∧(∀b∈fp,b<t.heap.objs.size)∧0<n∧aNJ prog w A.in1 J P bt∧J t.heap∧aIJ (t.heap.objs.size::wr) J∧
   ∀v h' tk,P (Ac bt (n-1)) v->(∀b o,b∉wr->t.heap.get? b=some o->h'.get? b=some o)->Q v {t with heap:=h',toks:=tk}) E s):
  AK (AH prog w) A (call (.builtin "min") [x]) Q E s:=by
 have nm:(toString "min"++toString ".loop":String)="min.loop":=by decide
 refine call_function_tree F.kind_min F.plain_min F.entry_min (F.args_min1 _) ?_;refine AA (m:=Builtin.Builtins.bindParams "min" ["key","default"] 0 ⟨[],[]⟩) (wpAny_of_eq (a:=[none,none]) rfl (AA (AB ?_)));refine AA (Ag h (λit t hx=> ?_) λ_ _ z=>z);obtain⟨I,fp,wr,n,P,St,J,bt,rfl,W,st,hfp,h0,ask,hJ,stay,q⟩:=hx;refine AA (AS ?_);have nS:t.heap.objs.size∉fp:=λz=>fJ _ (hfp _ z)
 rw[nm];refine AB ⟨plainId_quiet F.plain_min_loop _,aBU W ask stay nS h0 (W.frame _ _ _ st λb _ o g=>aI _ g) (stay _ _ hJ λb o _ g=>aI _ g) (bD _ rfl) λv h' tk pv k=> ?_⟩;refine q v h' tk pv λb o hb g=>k b o (λz=> ?_) (aI _ g)
 rcases aX.mp z with z|z
 ·exact fJ _ (z▸aU g)
 ·exact hb z
end
noncomputable def rkA(r:AF->Nat)(xs:Array AF)(i:Nat):Nat:=match xs[i]? with
 |some p=>r p
 |none=>0
def AscR(r:AF->Nat)(xs:Array AF)(l h:Nat):Prop:=∀i j,l<=i->i<j->j<h->rkA r xs i<rkA r xs j
theorem jE{r:AF->Nat}{xs ys:Array AF}{i j:Nat}(h:xs[i]? =ys[j]?):rkA r xs i=rkA r ys j:=by unfold rkA;rw[h]
theorem eV{r:AF->Nat}{xs:Array AF}{i:Nat}(h:i<xs.size):rkA r xs i=r xs[i]:=by unfold rkA;rw[getElem?_pos xs i h]
structure lS(prog:AD)(w:AM)(A:BM)(E:BJ->BK->Prop)(s:BK)(κ:At)(r:AF->Nat)(a₀:Array AF):Prop where
 ask:∀ {x y:AF}{st:BQ}{Q:Option Bool->BQ->Prop},x∈a₀.toList->y∈a₀.toList->kindOf st=κ->Q (some (decide (r x<r y))) st->wpS (AH prog w) A E s (lt' x y) Q st
 nd:(a₀.toList.map r).Nodup
structure SB(κ:At)(a₀:Array AF)(st:BQ):Prop where
 perm:(AJ st).Perm a₀
 kind:kindOf st=κ
 failed:failedOf st=none
structure Stp(κ:At)(a₀:Array AF)(lo hi:Nat)(st st':BQ):Prop where
 sb:SB κ a₀ st'
 pend:AC st'=AC st
 keep:∀k,k<lo\/hi<=k->(AJ st')[k]? =(AJ st)[k]?
section
variable {prog:AD}{w:AM}{A:BM}{E:BJ->BK->Prop}{s:BK}{κ:At}{r:AF->Nat}{a₀:Array AF}{st st':BQ}
theorem SB.size(h:SB κ a₀ st):(AJ st).size=a₀.size:=h.perm.size_eq
theorem SB.mem(h:SB κ a₀ st){i:Nat}(hi:i<(AJ st).size):(AJ st)[i]∈a₀.toList:=(iB.mp h.perm).mem_iff.mp (by simp)
theorem aOt{xs:Array AF}(nd:(xs.toList.map r).Nodup){i j:Nat}(hi:i<xs.size)(hj:j<xs.size)(hij:i≠j):rkA r xs i≠rkA r xs j:=λe=>by
 rw[eV hi,eV hj] at e;have e2:(xs.toList.map r)[i]'(by simpa using hi)=(xs.toList.map r)[j]'(by simpa using hj):=by simpa using e
 exact hij ((fV nd).mp e2)
theorem SB.nd(h:SB κ a₀ st)(K:lS prog w A E s κ r a₀):((AJ st).toList.map r).Nodup:=(((iB.mp h.perm).map r).nodup_iff).mpr K.nd
theorem SB.ne(h:SB κ a₀ st)(K:lS prog w A E s κ r a₀){i j:Nat}(hi:i<a₀.size)(hj:j<a₀.size)(hij:i≠j):rkA r (AJ st) i≠rkA r (AJ st) j:=
 aOt (h.nd K) (by rw[h.size];exact hi) (by rw[h.size];exact hj) hij
theorem Stp.refl(h:SB κ a₀ st)(lo hi:Nat):Stp κ a₀ lo hi st st:=⟨h,rfl,λ_ _=>rfl⟩
theorem Stp.trans{lo hi:Nat}{st'':BQ}(h:Stp κ a₀ lo hi st st')(h2:Stp κ a₀ lo hi st' st''):Stp κ a₀ lo hi st st'':=⟨h2.sb,h2.pend.trans h.pend,λk hk=>(h2.keep k hk).trans (h.keep k hk)⟩
theorem SB.setArr(h:SB κ a₀ st){xs:Array AF}(hp:xs.Perm (AJ st)):SB κ a₀ (setArr st xs):=⟨hp.trans h.perm,h.kind,h.failed⟩
theorem fG{xs:Array AF}{i:Nat}{Q:AF->BQ->Prop}(hi:i<xs.size)(h:Q xs[i] st):wpS (AH prog w) A E s (elem' xs i) Q st:=by rw[elem'_eq,getElem?_pos xs i hi];exact AI h
theorem rS{i j:Nat}{Q:Option Bool->BQ->Prop}(K:lS prog w A E s κ r a₀)(hB:SB κ a₀ st)(hi:i<a₀.size)(hj:j<a₀.size)
  (h:Q (some (decide (rkA r (AJ st) i<rkA r (AJ st) j))) st):wpS (AH prog w) A E s (ltAt' i j) Q st:=by
 have hi':i<(AJ st).size:=by rw[hB.size];exact hi
 have hj':j<(AJ st).size:=by rw[hB.size];exact hj
 rw[ltAt'_eq];refine AE (wpS_get ?_);show wpS _ _ _ _ (do let x <-elem' (AJ st) i;let y <-elem' (AJ st) j;lt' x y) Q st;refine AE (fG hi' (AE (fG hj' (K.ask (hB.mem hi') (hB.mem hj') hB.kind ?_))));rw[eV hi',eV hj'] at h;exact h
theorem zH{xs:Array AF}{i j:Nat}(hj:j<=xs.size)(k:Nat):
  rkA r (mirror xs i j ((j-i) / 2)) k=if i<=k/\k<j then rkA r xs (i+j-1-k) else rkA r xs k:=by
 have e:=getElem?_mirror_all (i:=i) hj k
 by_cases h1:i<=k/\k<j
 ·rw[if_pos h1] at e ⊢;exact jE e
 ·rw[if_neg h1] at e ⊢;exact jE e
theorem zG{xs:Array AF}{src d:Nat}(hs:src<xs.size)(hd:d<=src)(k:Nat):
  rkA r (bubble xs src d) k=if k=src-d then rkA r xs src else if src-d<k/\k<=src then rkA r xs (k-1) else rkA r xs k:=by
 have e:=getElem?_bubble hs d hd k
 by_cases h1:k=src-d
 ·rw[if_pos h1] at e ⊢;exact jE e
 ·rw[if_neg h1] at e ⊢
  by_cases h2:src-d<k/\k<=src
  ·rw[if_pos h2] at e ⊢;exact jE e
  ·rw[if_neg h2] at e ⊢;exact jE e
theorem AscR.snoc{xs:Array AF}{l h:Nat}(a:AscR r xs l h)(lt:l<h)(q:rkA r xs (h-1)<rkA r xs h):AscR r xs l (h+1):=λi j hi hij hj=>by
 by_cases e:j=h
 ·subst e
  by_cases e2:i=j-1
  ·rw[e2];exact q
  ·exact pQ (a i (j-1) hi (by omega) (by omega)) q
 ·exact a i j hi hij (by omega)
theorem aDS{lo a nrem:Nat}{Q:Option (Option Nat)×Nat->BQ->Prop}(K:lS prog w A E s κ r a₀)(hB:SB κ a₀ st)(ha:1<=a)(han:a<=nrem)(hn:lo+nrem<=a₀.size)(hs:AscR r (AJ st) lo (lo+a))
  (h:∀m,a<=m->m<=nrem->AscR r (AJ st) lo (lo+m)->(m<nrem->rkA r (AJ st) (lo+m)<rkA r (AJ st) (lo+m-1))->Q (none,m) st):
  wpS (AH prog w) A E s (forIn [a:nrem] ((none,a):Option (Option Nat) × Nat) fun _ __s=>do
   let __x <-ltAt' (lo+__s.snd) (lo+__s.snd-1)
   match __x with
   |some smaller=>if smaller=true then pure (ForInStep.done (none,__s.snd)) else pure (ForInStep.yield (none,__s.snd+1))
   |_=>pure (ForInStep.done (some none,__s.snd))) Q st:=by
 refine AW (I:=λx c st'=>st'=st/\c=(none,x)/\AscR r (AJ st) lo (lo+x)) ?_ ?_ ⟨rfl,rfl,hs⟩
 ·rintro x c st' hx hxn ⟨rfl,rfl,hs'⟩;dsimp only;refine AE (rS K hB (by omega) (by omega) ?_)
  by_cases q:rkA r (AJ st') (lo+x)<rkA r (AJ st') (lo+x-1)
  ·simp only[q,decide_true,if_true];exact AI (h x hx (by omega) hs' λ_=>q)
  ·simp only[q,decide_false,cB,if_false];refine AI ⟨rfl,rfl, ?_⟩;have ne:=hB.ne K (i:=lo+x) (j:=lo+x-1) (by omega) (by omega) (by omega);exact hs'.snoc (by omega) (by omega)
 ·rintro c st' ⟨rfl,rfl,hs'⟩;rw[show max a nrem=nrem by omega] at hs' ⊢;exact h nrem han (aM _) hs' λz=>absurd z (fJ _)
def DscR(r:AF->Nat)(xs:Array AF)(l h:Nat):Prop:=∀i j,l<=i->i<j->j<h->rkA r xs j<rkA r xs i
theorem DscR.snoc{xs:Array AF}{l h:Nat}(a:DscR r xs l h)(lt:l<h)(q:rkA r xs h<rkA r xs (h-1)):DscR r xs l (h+1):=λi j hi hij hj=>by
 by_cases e:j=h
 ·subst e
  by_cases e2:i=j-1
  ·rw[e2];exact q
  ·exact pQ q (a i (j-1) hi (by omega) (by omega))
 ·exact a i j hi hij (by omega)
theorem aCq{lo nrem:Nat}{Q:Option Nat->BQ->Prop}(K:lS prog w A E s κ r a₀)(hB:SB κ a₀ st)(h1:1<=nrem)(hn:lo+nrem<=a₀.size)
  (h:∀m st',1<=m->m<=nrem->Stp κ a₀ lo (lo+nrem) st st'->AscR r (AJ st') lo (lo+m)->Q (some m) st'):wpS (AH prog w) A E s (countRun' lo nrem) Q st:=by
 rw[countRun'_eq];refine AE (aDS K hB (aM 1) h1 hn (λi j h1 h2 h3=>by omega) λm hm1 hm2 hs hq=> ?_);dsimp only
 by_cases e:m=nrem
 ·rw[if_pos (by simpa using e)];exact AI (h m st hm1 hm2 (.refl hB _ _) hs)
 ·rw[if_neg (by simpa using e)]
  by_cases m1:m>1
  ·rw[if_pos m1];refine AE (rS K hB (by omega) (by omega) ?_);rw[decide_eq_true (hs lo (lo+m-1) (aM _) (by omega) (by omega))];dsimp only;rw[if_pos rfl];exact AI (h m st hm1 hm2 (.refl hB _ _) hs)
  ·rw[if_neg m1];have em:m=1:=by omega
   subst em;have hq:=hq (by omega);refine AE (wpS_lift (Aw ⟨rfl, ?_⟩));refine AE (Ab (AW (I:=λx c st'=>st'=st/\c=(none,x,0)/\DscR r (AJ st) lo (lo+x)) (Q:=λc st'=>st'=st/\∃m,c=(none,m,0)/\2<=m/\m<=nrem/\DscR r (AJ st) lo (lo+m)) ?step ?fin ⟨rfl,rfl, ?init⟩) ?post)
   case init=>
    intro i j h1 h2 h3;have e1:i=lo:=by omega
    have e2:j=lo+1:=by omega
    subst e1 e2;exact hq
   case step=>
    rintro x c st' hx hxn ⟨rfl,rfl,hs'⟩;dsimp only;refine AE (rS K hB (by omega) (by omega) ?_)
    by_cases q:rkA r (AJ st') (lo+x)<rkA r (AJ st') (lo+x-1)
    ·simp only[q,decide_true,if_true];rw[if_neg (by omega)];exact AI ⟨rfl,rfl,hs'.snoc (by omega) q⟩
    ·simp only[q,decide_false,cB,if_false];refine AE (rS K hB (by omega) (by omega) ?_);have ne:=hB.ne K (i:=lo+x) (j:=lo+x-1) (by omega) (by omega) (by omega);rw[decide_eq_true (show rkA r (AJ st') (lo+x-1)<rkA r (AJ st') (lo+x) by omega)];dsimp only;rw[if_pos rfl];exact AI ⟨rfl,x,rfl,hx,by omega,hs'⟩
   case fin=>rintro c st' ⟨rfl,rfl,hs'⟩;rw[show max (1+1) nrem=nrem by omega] at hs' ⊢;exact⟨rfl,nrem,rfl,by omega,aM _,hs'⟩
   case post=>
    rintro c st' ⟨rfl,m,rfl,m2,mn,hd⟩;dsimp only;rw[if_neg (by omega),reverseSlice'_eq];refine AE (Ay ?_);have hz:lo+m<=(AJ st').size:=by rw[hB.size];omega
    have S:Stp κ a₀ lo (lo+nrem) st' (setArr st' (mirror (AJ st') lo (lo+m) ((lo+m-lo) / 2))):=by refine⟨hB.setArr (mirror_perm _ _ _ _),rfl,λk hk=> ?_⟩;show(mirror (AJ st') lo (lo+m) ((lo+m-lo) / 2))[k]? =_;rw[getElem?_mirror_all hz,if_neg (by omega)]
    refine AE (aDS K S.sb (by omega) mn hn (λi j h1 h2 h3=> ?_) λm' a1 a2 a3 _=> ?_)
    ·show rkA r (mirror (AJ st') lo (lo+m) ((lo+m-lo) / 2)) i<rkA r (mirror (AJ st') lo (lo+m) ((lo+m-lo) / 2)) j;rw[zH hz,zH hz,if_pos (by omega),if_pos (by omega)];exact hd _ _ (by omega) (by omega) (by omega)
    ·exact AI (h m' _ (by omega) a2 S a3)
theorem aGS{lo n ok:Nat}{Q:Bool->BQ->Prop}(K:lS prog w A E s κ r a₀)(hB:SB κ a₀ st)(hn:lo+n<=a₀.size)(hok:ok<=n)(hs:AscR r (AJ st) lo (lo+ok))
  (h:∀st',Stp κ a₀ lo (lo+n) st st'->AscR r (AJ st') lo (lo+n)->Q true st'):wpS (AH prog w) A E s (binarySort' lo n ok) Q st:=by
 rw[binarySort'_eq]
 refine AE (Ab (AW (I:=fun k c st'=>c=(none,())∧Stp κ a₀ lo (lo+n) st st'∧AscR r (AJ st') lo (lo+min k n))
  (Q:=λc st'=>c=(none,())/\Stp κ a₀ lo (lo+n) st st'/\AscR r (AJ st') lo (lo+n)) ?step ?fin ?init) ?post)
 case post=>rintro c st' ⟨rfl,S,hs'⟩;exact AI (h st' S hs')
 case init=>refine⟨rfl,.refl hB _ _,λi j hi hij hj=> ?_⟩;exact hs i j hi hij (by omega)
 case fin=>
  rintro c st' ⟨hc,S,hs'⟩;refine⟨hc,S, ?_⟩
  rwa[show min (max (max ok 1) n) n=n by omega] at hs'
 case step=>
  rintro k c st' hak hkn ⟨rfl,S,hs'⟩;rw[show min k n=k by omega] at hs';have hB':=S.sb;have hk:lo+k<a₀.size:=by omega
  refine AE (Ab (AW (I:=fun x c st''=>st''=st'∧∃l r',c=(none,l,r')∧l≤r'∧r'≤k∧r' - l≤k - x∧
    (∀i,i<l->rkA r (AJ st') (lo+i)<rkA r (AJ st') (lo+k))/\(∀i,r'<=i->i<k->rkA r (AJ st') (lo+k)<rkA r (AJ st') (lo+i)))
   (Q:=fun c st''=>st''=st'∧∃l r',c=(none,l,r')∧l≤k∧
    (∀i,i<l->rkA r (AJ st') (lo+i)<rkA r (AJ st') (lo+k))/\(∀i,l<=i->i<k->rkA r (AJ st') (lo+k)<rkA r (AJ st') (lo+i))) ?istep ?ifin ?iinit) ?ipost)
  case iinit=>exact⟨rfl,0,k,rfl,by omega,by omega,by omega,λi hi=>by omega,λi h1 h2=>by omega⟩
  case ifin=>
   rintro c st'' ⟨rfl,l,r',rfl,hlr,hrk,hm,hlo,hhi⟩;have:l=r':=by omega
   subst this;exact⟨rfl,l,l,rfl,hrk,hlo,hhi⟩
  case istep=>
   rintro x c st'' _ hxk ⟨rfl,l,r',rfl,hlr,hrk,hm,hlo,hhi⟩;dsimp only
   by_cases hge:l>=r'
   ·rw[if_pos hge];have:l=r':=by omega
    subst this;exact AI ⟨rfl,l,l,rfl,hrk,hlo,hhi⟩
   ·rw[if_neg hge];refine AE (rS K hB' hk (by omega) ?_)
    by_cases hless:rkA r (AJ st'') (lo+k)<rkA r (AJ st'') (lo+(l+r') / 2)
    ·simp only[hless,decide_true,if_true];refine AI ⟨rfl,l,(l+r') / 2,rfl,by omega,by omega,by omega,hlo,λi h1 h2=> ?_⟩
     by_cases e:i=(l+r') / 2
     ·rw[e];exact hless
     ·exact pQ hless (hs' _ _ (by omega) (by omega) (by omega))
    ·simp only[hless,decide_false,cB,if_false];have ne:=hB'.ne K (i:=lo+k) (j:=lo+(l+r') / 2) hk (by omega) (by omega);have hl:rkA r (AJ st'') (lo+(l+r') / 2)<rkA r (AJ st'') (lo+k):=by omega
     refine AI ⟨rfl,(l+r') / 2+1,r',rfl,by omega,by omega,by omega,λi h1=> ?_,hhi⟩
     by_cases e:i=(l+r') / 2
     ·rw[e];exact hl
     ·exact pQ (hs' _ _ (by omega) (by omega) (by omega)) hl
  case ipost=>
   rintro c st'' ⟨rfl,l,r',rfl,hlk,hlo,hhi⟩;show wpS _ _ _ _ (do moveDown' (lo+k) (lo+l);pure (ForInStep.yield (none,()))) _ _;rw[moveDown'_eq];have hks:lo+k<(AJ st'').size:=by rw[hB'.size];exact hk
   have ed:lo+k-(lo+l)=k-l:=by omega
   rw[ed];refine AE (Ay (AI ⟨rfl,S.trans ⟨hB'.setArr (bubble_perm _ _ _),rfl,λi hi=> ?_⟩, ?_⟩))
   ·show(bubble (AJ st'') (lo+k) (k-l))[i]? =_;rw[getElem?_bubble hks _ (by omega),if_neg (by omega),if_neg (by omega)]
   rw[show min (k+1) n=k+1 by omega];intro i j hi hij hj;show rkA r (bubble (AJ st'') (lo+k) (k-l)) i<rkA r (bubble (AJ st'') (lo+k) (k-l)) j;rw[zG hks (by omega),zG hks (by omega),show lo+k-(k-l)=lo+l by omega]
   have hlo':∀i,lo<=i->i<lo+l->rkA r (AJ st'') i<rkA r (AJ st'') (lo+k):=λi a b=>by
    have:=hlo (i-lo) (by omega)
    rwa[show lo+(i-lo)=i by omega] at this
   have hhi':∀i,lo+l<=i->i<lo+k->rkA r (AJ st'') (lo+k)<rkA r (AJ st'') i:=λi a b=>by
    have:=hhi (i-lo) (by omega) (by omega)
    rwa[show lo+(i-lo)=i by omega] at this
   repeat' split
   all_goals first
    |(exfalso;omega)
    |exact hlo' _ (by omega) (by omega)
    |exact hhi' _ (by omega) (by omega)
    |exact hs' _ _ (by omega) (by omega) (by omega)
end
noncomputable def mR:Bool->AF->Array AF->Nat->Nat->Nat->StateT BQ Sem (Option Nat):=sortPriv%PySem.Builtin.gallop
noncomputable def bey(left:Bool)(key:AF)(arr:Array AF)(base i:Nat):StateT BQ Sem (Option Bool):=do
  let x <-elem' arr (base+i)
  if left then lt' x key else return (<-lt' key x).map (!·)
theorem aCb(left:Bool)(key:AF)(arr:Array AF)(base n hint:Nat):mR left key arr base n hint=(do
 let mut lastofs:=0
 let mut ofs:=1
 let mut lo:=0
 let mut hi:=0
 let some right <-bey left key arr base hint|return none
 if right then
  let maxofs:=n-hint
  for _ in[0:n] do
   if ofs>=maxofs then break
   let some more <-bey left key arr base (hint+ofs)|return none
   if !more then break
   lastofs:=ofs
   ofs:=2*ofs+1
  lo:=hint+lastofs+1
  hi:=hint+min ofs maxofs
 else
  let maxofs:=hint+1
  for _ in[0:n] do
   if ofs>=maxofs then break
   let some found <-bey left key arr base (hint-ofs)|return none
   if found then break
   lastofs:=ofs
   ofs:=2*ofs+1
  lo:=hint+1-min ofs maxofs
  hi:=hint-lastofs
 for _ in[0:n] do
  if lo>=hi then break
  let m:=lo+(hi-lo) / 2
  let some more <-bey left key arr base m|return none
  if more then lo:=m+1 else hi:=m
 return some hi):=rfl
section
variable {prog:AD}{w:AM}{A:BM}{E:BJ->BK->Prop}{s:BK}{κ:At}{r:AF->Nat}{a₀:Array AF}{st st':BQ}
theorem rJ{left:Bool}{key:AF}{xs:Array AF}{base i:Nat}{Q:Option Bool->BQ->Prop}(K:lS prog w A E s κ r a₀)(hk:kindOf st=κ)(mx:∀x∈xs.toList,x∈a₀.toList)(mk:key∈a₀.toList)(hi:base+i<xs.size)(ne:rkA r xs (base+i)≠r key)
  (h:Q (some (decide (rkA r xs (base+i)<r key))) st):wpS (AH prog w) A E s (bey left key xs base i) Q st:=by
 unfold bey;refine AE (fG hi ?_);have m1:xs[base+i]∈a₀.toList:=mx _ (by simp);rw[eV hi] at h ne;cases left with
 |true=>exact K.ask m1 mk hk h
 |false=>
  refine AE (K.ask mk m1 hk (AI ?_))
  have e:(!decide (r key<r xs[base+i]))=decide (r xs[base+i]<r key):=by
   by_cases q:r xs[base+i]<r key
   ·rw[decide_eq_true q,decide_eq_false (by omega)];rfl
   ·rw[decide_eq_false q,decide_eq_true (by omega)];rfl
  show Q (some (!decide (r key<r xs[base+i]))) st;rw[e];exact h
theorem AscR.le{xs:Array AF}{base n:Nat}(a:AscR r xs base (base+n)){i j:Nat}(hij:i<=j)(hj:j<n):rkA r xs (base+i)<=rkA r xs (base+j):=by
 by_cases e:i=j
 ·rw[e];exact aM _
 ·exact eJ (a _ _ (by omega) (by omega) (by omega))
theorem pZ{left:Bool}{key:AF}{xs:Array AF}{base n hint:Nat}{Q:Option Nat->BQ->Prop}(K:lS prog w A E s κ r a₀)(hk:kindOf st=κ)(mx:∀x∈xs.toList,x∈a₀.toList)(mk:key∈a₀.toList)(hx:base+n<=xs.size)(hh:hint<n)
  (asc:AscR r xs base (base+n)) (ne:∀i,i<n->rkA r xs (base+i)≠r key)
  (h:∀k,k<=n->(∀i,i<k->rkA r xs (base+i)<r key)->(∀i,k<=i->i<n->r key<rkA r xs (base+i))->Q (some k) st):wpS (AH prog w) A E s (mR left key xs base n hint) Q st:=by
 rw[aCb];refine AE (rJ K hk mx mk (by omega) (ne _ hh) ?_)
 by_cases q:rkA r xs (base+hint)<r key
 ·simp only[q,decide_true,if_true]
  refine AE (Ab (AW (I:=fun x c st'=>st'=st∧∃last ofs,c=(none,last,ofs)∧last<ofs∧x+1≤ofs∧hint+last<n∧rkA r xs (base+(hint+last))<r key)
   (Q:=λc st'=>st'=st/\∃last ofs,c=(none,last,ofs)/\last<ofs/\hint+last<n/\rkA r xs (base+(hint+last))<r key/\(n-hint<=ofs\/(hint+ofs<n/\r key<rkA r xs (base+(hint+ofs))))) ?step ?fin ⟨rfl,0,1,rfl,by omega,by omega,hh,q⟩) ?post)
  case fin=>rintro c st' ⟨rfl,last,ofs,rfl,a,b,c,d⟩;exact⟨rfl,last,ofs,rfl,a,c,d,.inl (by omega)⟩
  case step=>
   rintro x c st' _ hxn ⟨rfl,last,ofs,rfl,a,b,c,d⟩;dsimp only
   by_cases z:ofs>=n-hint
   ·rw[if_pos z];exact AI ⟨rfl,last,ofs,rfl,a,c,d,.inl z⟩
   ·rw[if_neg z];refine AE (rJ K hk mx mk (by omega) (ne _ (by omega)) ?_)
    by_cases y:rkA r xs (base+(hint+ofs))<r key
    ·simp only[y,decide_true,Bool.not_true,cB,if_false];exact AI ⟨rfl,ofs,2*ofs+1,rfl,by omega,by omega,by omega,y⟩
    ·simp only[y,decide_false,Bool.not_false,if_true];have y':=ne (hint+ofs) (by omega);exact AI ⟨rfl,last,ofs,rfl,a,c,d,.inr ⟨by omega,by omega⟩⟩
  case post=>
   rintro c st' ⟨rfl,last,ofs,rfl,a,b,c,d⟩;dsimp only;have l1:hint+last+1<=hint+min ofs (n-hint):=by omega
   have l2:hint+min ofs (n-hint)<=n:=by omega
   have hl:∀i,i<hint+last+1->rkA r xs (base+i)<r key:=λi hi=>cD (asc.le (by omega) b) c
   have hg:∀i,hint+min ofs (n-hint)<=i->i<n->r key<rkA r xs (base+i):=λi h1 h2=>by
    rcases d with d|⟨d1,d2⟩
    ·omega
    ·exact aZ d2 (asc.le (by omega) h2)
   refine AE (Ab (AW (I:=fun x c st''=>st''=st'∧∃lo hi,c=(none,lo,hi)∧lo≤hi∧hi≤n∧hi - lo≤n - x∧(∀i,i<lo→rkA r xs (base+i)<r key)∧(∀i,hi≤i→i<n→r key<rkA r xs (base+i)))
    (Q:=λc st''=>st''=st'/\∃k,c=(none,k,k)/\k<=n/\(∀i,i<k->rkA r xs (base+i)<r key)/\(∀i,k<=i->i<n->r key<rkA r xs (base+i))) ?step ?fin ⟨rfl,_,_,rfl,l1,l2,by omega,hl,hg⟩) ?post)
   case post=>rintro c st'' ⟨rfl,k,rfl,a,b,c⟩;exact AI (h k a b c)
   case fin=>
    rintro c st'' ⟨rfl,lo,hi,rfl,a,b,c,d,e⟩;have:lo=hi:=by omega
    subst this;exact⟨rfl,lo,rfl,b,d,e⟩
   case step=>
    rintro x c st'' _ hxn ⟨rfl,lo,hi,rfl,a,b,c,d,e⟩;dsimp only
    by_cases q:lo>=hi
    ·rw[if_pos q];have:lo=hi:=by omega
     subst this;exact AI ⟨rfl,lo,rfl,b,d,e⟩
    ·rw[if_neg q];refine AE (rJ K hk mx mk (by omega) (ne _ (by omega)) ?_)
     by_cases z:rkA r xs (base+(lo+(hi-lo) / 2))<r key
     ·simp only[z,decide_true,if_true];refine AI ⟨rfl,lo+(hi-lo) / 2+1,hi,rfl,by omega,b,by omega,λi hi'=> ?_,e⟩;exact cD (asc.le (by omega) (by omega)) z
     ·simp only[z,decide_false,cB,if_false];have z':=ne (lo+(hi-lo) / 2) (by omega);refine AI ⟨rfl,lo,lo+(hi-lo) / 2,rfl,by omega,by omega,by omega,d,λi h1 h2=> ?_⟩;exact aZ (by omega) (asc.le h1 h2)
 ·simp only[q,decide_false,cB,if_false];have q':=ne hint hh
  refine AE (Ab (AW (I:=fun x c st'=>st'=st∧∃last ofs,c=(none,last,ofs)∧last<ofs∧x+1≤ofs∧last≤hint∧r key<rkA r xs (base+(hint - last)))
   (Q:=λc st'=>st'=st/\∃last ofs,c=(none,last,ofs)/\last<ofs/\last<=hint/\r key<rkA r xs (base+(hint-last))/\(hint+1<=ofs\/(ofs<=hint/\rkA r xs (base+(hint-ofs))<r key))) ?step ?fin ⟨rfl,0,1,rfl,by omega,by omega,by omega,by rw[Nat.sub_zero];omega⟩) ?post)
  case fin=>rintro c st' ⟨rfl,last,ofs,rfl,a,b,c,d⟩;exact⟨rfl,last,ofs,rfl,a,c,d,.inl (by omega)⟩
  case step=>
   rintro x c st' _ hxn ⟨rfl,last,ofs,rfl,a,b,c,d⟩;dsimp only
   by_cases z:ofs>=hint+1
   ·rw[if_pos z];exact AI ⟨rfl,last,ofs,rfl,a,c,d,.inl z⟩
   ·rw[if_neg z];refine AE (rJ K hk mx mk (by omega) (ne _ (by omega)) ?_)
    by_cases y:rkA r xs (base+(hint-ofs))<r key
    ·simp only[y,decide_true,if_true];exact AI ⟨rfl,last,ofs,rfl,a,c,d,.inr ⟨by omega,y⟩⟩
    ·simp only[y,decide_false,cB,if_false];have y':=ne (hint-ofs) (by omega);exact AI ⟨rfl,ofs,2*ofs+1,rfl,by omega,by omega,by omega,by omega⟩
  case post=>
   rintro c st' ⟨rfl,last,ofs,rfl,a,b,c,d⟩;dsimp only;have l1:hint+1-min ofs (hint+1)<=hint-last:=by omega
   have l2:hint-last<=n:=by omega
   have hl:∀i,i<hint+1-min ofs (hint+1)->rkA r xs (base+i)<r key:=λi hi=>by
    rcases d with d|⟨d1,d2⟩
    ·omega
    ·exact cD (asc.le (by omega) (by omega)) d2
   have hg:∀i,hint-last<=i->i<n->r key<rkA r xs (base+i):=λi h1 h2=>aZ c (asc.le (by omega) h2)
   refine AE (Ab (AW (I:=fun x c st''=>st''=st'∧∃lo hi,c=(none,lo,hi)∧lo≤hi∧hi≤n∧hi - lo≤n - x∧(∀i,i<lo→rkA r xs (base+i)<r key)∧(∀i,hi≤i→i<n→r key<rkA r xs (base+i)))
    (Q:=λc st''=>st''=st'/\∃k,c=(none,k,k)/\k<=n/\(∀i,i<k->rkA r xs (base+i)<r key)/\(∀i,k<=i->i<n->r key<rkA r xs (base+i))) ?step ?fin ⟨rfl,_,_,rfl,l1,l2,by omega,hl,hg⟩) ?post)
   case post=>rintro c st'' ⟨rfl,k,rfl,a,b,c⟩;exact AI (h k a b c)
   case fin=>
    rintro c st'' ⟨rfl,lo,hi,rfl,a,b,c,d,e⟩;have:lo=hi:=by omega
    subst this;exact⟨rfl,lo,rfl,b,d,e⟩
   case step=>
    rintro x c st'' _ hxn ⟨rfl,lo,hi,rfl,a,b,c,d,e⟩;dsimp only
    by_cases q:lo>=hi
    ·rw[if_pos q];have:lo=hi:=by omega
     subst this;exact AI ⟨rfl,lo,rfl,b,d,e⟩
    ·rw[if_neg q];refine AE (rJ K hk mx mk (by omega) (ne _ (by omega)) ?_)
     by_cases z:rkA r xs (base+(lo+(hi-lo) / 2))<r key
     ·simp only[z,decide_true,if_true];refine AI ⟨rfl,lo+(hi-lo) / 2+1,hi,rfl,by omega,b,by omega,λi hi'=> ?_,e⟩;exact cD (asc.le (by omega) (by omega)) z
     ·simp only[z,decide_false,cB,if_false];have z':=ne (lo+(hi-lo) / 2) (by omega);refine AI ⟨rfl,lo,lo+(hi-lo) / 2,rfl,by omega,by omega,by omega,d,λi h1 h2=> ?_⟩;exact aZ (by omega) (asc.le h1 h2)
end
structure MS(r:AF->Nat)(a b:Array AF)(out:List AF)(ia ib:Nat):Prop where
 ha:ia<=a.size
 hb:ib<=b.size
 perm:out.Perm (a.toList.take ia++b.toList.take ib)
 asc:(out.map r).Pairwise (·<·)
 la:∀x∈out,∀i,ia<=i->i<a.size->r x<rkA r a i
 lb:∀x∈out,∀i,ib<=i->i<b.size->r x<rkA r b i
def MD(r:AF->Nat)(a b:Array AF)(out:List AF):Prop:=out.Perm (a.toList++b.toList)/\(out.map r).Pairwise (·<·)
section
variable {r:AF->Nat}{a b:Array AF}{out:List AF}{ia ib:Nat}
theorem MS.swap(m:MS r a b out ia ib):MS r b a out ib ia:=⟨m.hb,m.ha,m.perm.trans iD,m.asc,m.lb,m.la⟩
theorem MS.pushA(m:MS r a b out ia ib)(h:ia<a.size)(asa:AscR r a 0 a.size)(hb:∀j,ib<=j->j<b.size->rkA r a ia<rkA r b j):MS r a b (out++[a[ia]]) (ia+1) ib:=by
 refine⟨h,m.hb, ?_, ?_,λx hx i h1 h2=> ?_,λx hx i h1 h2=> ?_⟩
 ·have e:a.toList.take (ia+1)=a.toList.take ia++[a[ia]]:=by rw[eZ];simp[h]
  rw[e,fD];refine(m.perm.append_right _).trans ?_;rw[fD];exact List.Perm.append_left _ iD
 ·rw[aW,qK];refine⟨m.asc,kW _ _,λx hx y hy=> ?_⟩;obtain⟨z,hz,rfl⟩:=aN.mp hx;have:y=r a[ia]:=by simpa using hy
  rw[this,<-eV (r:=r) h];exact m.la z hz ia (aM _) h
 ·rcases aY.mp hx with hx|hx
  ·exact m.la x hx i (by omega) h2
  ·rw[aG.mp hx,<-eV (r:=r) h];exact asa ia i (bY _) (by omega) h2
 ·rcases aY.mp hx with hx|hx
  ·exact m.lb x hx i h1 h2
  ·rw[aG.mp hx,<-eV (r:=r) h];exact hb i h1 h2
theorem MS.pushB(m:MS r a b out ia ib)(h:ib<b.size)(asb:AscR r b 0 b.size)(hb:∀j,ia<=j->j<a.size->rkA r b ib<rkA r a j):MS r a b (out++[b[ib]]) ia (ib+1):=(m.swap.pushA h asb hb).swap
theorem aHh{k:Nat}(h:ia+k<a.size):(a.extract ia (ia+(k+1))).toList=(a.extract ia (ia+k)).toList++[a[ia+k]]:=by simp only[eA,cU];rw[show ia+(k+1)-ia=k+1 by omega,show ia+k-ia=k by omega,eZ];simp[h]
theorem aGn(i:Nat):(a.extract i (i+0)).toList=[]:=by simp[eA,cU]
theorem MS.extA(asa:AscR r a 0 a.size)(m:MS r a b out ia ib):∀k,ia+k<=a.size->(∀i,i<k->∀j,ib<=j->j<b.size->rkA r a (ia+i)<rkA r b j)->MS r a b (out++(a.extract ia (ia+k)).toList) (ia+k) ib
 |0,_,_=>by rw[aGn,dD];exact m
 |k+1,h,hb=>by
  have ih:=MS.extA asa m k (by omega) λi hi=>hb i (by omega)
  rw[aHh (by omega),<-fD];exact ih.pushA (by omega) asa (hb k (by omega))
theorem MS.extB(asb:AscR r b 0 b.size)(m:MS r a b out ia ib)(k:Nat)(h:ib+k<=b.size)(hb:∀i,i<k->∀j,ia<=j->j<a.size->rkA r b (ib+i)<rkA r a j):MS r a b (out++(b.extract ib (ib+k)).toList) ia (ib+k):=(m.swap.extA asb k h hb).swap
theorem MS.done(m:MS r a b out a.size b.size):MD r a b out:=by refine⟨?_,m.asc⟩;have:=m.perm;rw[hW (by simp),hW (by simp)] at this;exact this
theorem MS.finA(m:MS r a b out ia b.size)(asa:AscR r a 0 a.size):MD r a b (out++(a.extract ia a.size).toList):=by
 have h:=m.ha;have:=m.extA asa (a.size-ia) (by omega) λi hi j h1 h2=>by omega
 rw[show ia+(a.size-ia)=a.size by omega] at this;exact this.done
theorem MS.finL(m:MS r a b out ia ib)(asa:AscR r a 0 a.size)(asb:AscR r b 0 b.size)(h1:ia+1=a.size)(hab:∀j,j<b.size->rkA r b j<rkA r a (a.size-1)):MD r a b (out++(b.extract ib b.size).toList++(a.extract ia a.size).toList):=by
 have h:=m.hb
 have:=m.extB asb (b.size-ib) (by omega) λi hi j h1 h2=>by
  have e:j=a.size-1:=by omega
  rw[e];exact hab _ (by omega)
 rw[show ib+(b.size-ib)=b.size by omega] at this;exact this.finA asa
theorem aKx(i:Nat)(h:a.size<=i):(a.extract i a.size).toList=[]:=by
 rw[eA,cU];have:a.size-i=0:=by omega
 rw[this];rfl
end
noncomputable def aOI(st:BQ)(g:Nat):BQ:=SortSt.mk' (kindOf st) (AJ st) (AC st) g (failedOf st)
noncomputable def kI:Nat->StateT BQ Sem Unit:=sortPriv%PySem.Builtin.setMinGallop
theorem jV(g:Nat):kI g=modify λs=>aOI s g:=rfl
noncomputable def xK:Array AF->Array AF->StateT BQ Sem (Array AF):=sortPriv%PySem.Builtin.mergeLo
structure SameG(st st':BQ):Prop where
 kind:kindOf st'=kindOf st
 arr:AJ st'=AJ st
 pend:AC st'=AC st
 failed:failedOf st'=failedOf st
theorem SameG.refl(st:BQ):SameG st st:=⟨rfl,rfl,rfl,rfl⟩
theorem SameG.set{st st':BQ}(h:SameG st st')(g:Nat):SameG st (aOI st' g):=⟨h.kind,h.arr,h.pend,h.failed⟩
structure MPre(r:AF->Nat)(a₀ a b:Array AF):Prop where
 a1:1<=a.size
 b1:1<=b.size
 asa:AscR r a 0 a.size
 asb:AscR r b 0 b.size
 ma:∀x∈a.toList,x∈a₀.toList
 mb:∀x∈b.toList,x∈a₀.toList
 ne:∀i j,i<a.size->j<b.size->rkA r a i≠rkA r b j
 first:rkA r b 0<rkA r a 0
 last:rkA r b (b.size-1)<rkA r a (a.size-1)
theorem AscR.le0{r:AF->Nat}{xs:Array AF}{n i j:Nat}(a:AscR r xs 0 n)(hij:i<=j)(hj:j<n):rkA r xs i<=rkA r xs j:=by
 by_cases e:i=j
 ·rw[e];exact aM _
 ·exact eJ (a _ _ (by omega) (by omega) (by omega))
noncomputable abbrev SM:=StateT BQ Sem
noncomputable abbrev ML1:=Option (Array AF)×Array AF×Nat×Nat×Nat×Nat
noncomputable abbrev ML2:=Option (Array AF)×Array AF×Nat×Nat×Nat×Nat×Nat
noncomputable abbrev ML0:=Option (Array AF)×Array AF×Nat×Nat×Nat
noncomputable def dnA(a b out:Array AF)(ia ib:Nat):Array AF:=out++a.extract ia a.size++b.extract ib b.size
noncomputable def lsA(a b out:Array AF)(ia ib:Nat):Array AF:=out++b.extract ib b.size++a.extract ia a.size
noncomputable def lo1(a b:Array AF)(mg:Nat)(c:ML1):SM (ForInStep ML1):=do
 let y <-elem' b c.2.2.2.1
 let x <-elem' a c.2.2.1
 let q <-lt' y x
 match q with
 |some bw=>
  if bw=true then do
   let y <-elem' b c.2.2.2.1
   if(c.2.2.2.1+1==b.size)=true then pure (.done (some (dnA a b (c.2.1.push y) c.2.2.1 (c.2.2.2.1+1)),c.2.1.push y,c.2.2.1,c.2.2.2.1+1,0,c.2.2.2.2.2+1))
   else if c.2.2.2.2.2+1>=mg then pure (.done (none,c.2.1.push y,c.2.2.1,c.2.2.2.1+1,0,c.2.2.2.2.2+1))
   else pure (.yield (none,c.2.1.push y,c.2.2.1,c.2.2.2.1+1,0,c.2.2.2.2.2+1))
  else do
   let x <-elem' a c.2.2.1
   if(c.2.2.1+1+1==a.size)=true then pure (.done (some (lsA a b (c.2.1.push x) (c.2.2.1+1) c.2.2.2.1),c.2.1.push x,c.2.2.1+1,c.2.2.2.1,c.2.2.2.2.1+1,0))
   else if c.2.2.2.2.1+1>=mg then pure (.done (none,c.2.1.push x,c.2.2.1+1,c.2.2.2.1,c.2.2.2.2.1+1,0))
   else pure (.yield (none,c.2.1.push x,c.2.2.1+1,c.2.2.2.1,c.2.2.2.2.1+1,0))
 |_=>pure (.done (some (dnA a b c.2.1 c.2.2.1 c.2.2.2.1),c.2.1,c.2.2.1,c.2.2.2.1,c.2.2.2.2.1,c.2.2.2.2.2))
noncomputable def aNl(a b out:Array AF)(ia ib mg k k1:Nat):SM (ForInStep ML2):=do
 let x <-elem' a ia
 if(ia+1+1==a.size)=true then pure (.done (some (lsA a b (out.push x) (ia+1) ib),out.push x,ia+1,ib,mg,k,k1))
 else if(decide (k<7)&&decide (k1<7))=true then pure (.done (none,out.push x,ia+1,ib,mg,k,k1))
 else pure (.yield (none,out.push x,ia+1,ib,mg,k,k1))
noncomputable def aNm(a b out:Array AF)(ia ib mg k bc:Nat):SM (ForInStep ML2):=do
 let y <-elem' b ib
 if(ib+1==b.size)=true then pure (.done (some (dnA a b (out.push y) ia (ib+1)),out.push y,ia,ib+1,mg,k,bc))
 else do
  let x <-elem' a ia
  let q <-mR true x b (ib+1) (b.size-(ib+1)) 0
  match q with
  |some k1=>
   if k1>0 then
    if(ib+1+k1==b.size)=true then pure (.done (some (dnA a b (out.push y++b.extract (ib+1) (ib+1+k1)) ia (ib+1+k1)),out.push y++b.extract (ib+1) (ib+1+k1),ia,ib+1+k1,mg,k,k1))
    else aNl a b (out.push y++b.extract (ib+1) (ib+1+k1)) ia (ib+1+k1) mg k k1
   else aNl a b (out.push y) ia (ib+1) mg k k1
  |_=>pure (.done (some (dnA a b (out.push y) ia (ib+1)),out.push y,ia,ib+1,mg,k,bc))
noncomputable def aKV(a b out:Array AF)(ia ib mg ac bc:Nat):SM (ForInStep ML2):=do
 kI mg
 let y <-elem' b ib
 let q <-mR false y a ia (a.size-ia) 0
 match q with
 |some k=>
  if k>0 then
   if(ia+k+1==a.size)=true then pure (.done (some (lsA a b (out++a.extract ia (ia+k)) (ia+k) ib),out++a.extract ia (ia+k),ia+k,ib,mg,k,bc))
   else if(ia+k==a.size)=true then pure (.done (some (dnA a b (out++a.extract ia (ia+k)) (ia+k) ib),out++a.extract ia (ia+k),ia+k,ib,mg,k,bc))
   else aNm a b (out++a.extract ia (ia+k)) (ia+k) ib mg k bc
  else aNm a b out ia ib mg k bc
 |_=>pure (.done (some (dnA a b out ia ib),out,ia,ib,mg,ac,bc))
noncomputable def lo2(a b:Array AF)(c:ML2):SM (ForInStep ML2):=
 if c.2.2.2.2.1>1 then aKV a b c.2.1 c.2.2.1 c.2.2.2.1 (c.2.2.2.2.1-1) c.2.2.2.2.2.1 c.2.2.2.2.2.2
 else aKV a b c.2.1 c.2.2.1 c.2.2.2.1 c.2.2.2.2.1 c.2.2.2.2.2.1 c.2.2.2.2.2.2
noncomputable def lo0(a b:Array AF)(c:ML0):SM (ForInStep ML0):=do
 let d <-forIn [:a.size+b.size] ((none,c.2.1,c.2.2.1,c.2.2.2.1,0,0):ML1) λ_ d=>lo1 a b c.2.2.2.2 d
 match d.1 with
 |some r=>pure (.done (some r,d.2.1,d.2.2.1,d.2.2.2.1,c.2.2.2.2))
 |none=>do
  liftM (rule "list.sort.gallop")
  let e <-forIn [:a.size+b.size] ((none,d.2.1,d.2.2.1,d.2.2.2.1,c.2.2.2.2+1,d.2.2.2.2.1,d.2.2.2.2.2):ML2) λ_ e=>lo2 a b e
  match e.1 with
  |some r=>pure (.done (some r,e.2.1,e.2.2.1,e.2.2.2.1,e.2.2.2.2.1))
  |none=>do
   kI (e.2.2.2.2.1+1)
   pure (.yield (none,e.2.1,e.2.2.1,e.2.2.2.1,e.2.2.2.2.1+1))
noncomputable def loM(a b:Array AF):SM (Array AF):=do
 liftM (rule "list.sort.merge-lo")
 let y <-elem' b 0
 if(1==b.size)=true then pure (dnA a b #[y] 0 1)
 else if(0+1==a.size)=true then pure (lsA a b #[y] 0 1)
 else do
  let g <-get
  let c <-forIn [:a.size+b.size] ((none, #[y],0,1,gallopOf g):ML0) λ_ c=>lo0 a b c
  match c.1 with
  |some r=>pure r
  |none=>liftM (unsupported "internal:list.sort.merge-bound":Sem (Array AF))
theorem aMr(a b:Array AF):xK a b=loM a b:=by kernel_rfl
def FIN(r:AF->Nat)(a b:Array AF)(o:Option (Array AF)):Prop:=∃res,o=some res/\MD r a b res.toList
def OKm(r:AF->Nat)(a b:Array AF)(N:Nat)(o:Option (Array AF))(out:Array AF)(ia ib:Nat):Prop:=o=none/\MS r a b out.toList ia ib/\ia+1<a.size/\ib<b.size/\N<=ia+ib
theorem OKm.mono{r:AF->Nat}{a b:Array AF}{N N':Nat}{o:Option (Array AF)}{out:Array AF}{ia ib:Nat}(h:OKm r a b N o out ia ib)(le:N'<=N):OKm r a b N' o out ia ib:=⟨h.1,h.2.1,h.2.2.1,h.2.2.2.1,cK le h.2.2.2.2⟩
section
variable {prog:AD}{w:AM}{A:BM}{E:BJ->BK->Prop}{s:BK}{κ:At}{r:AF->Nat}{a₀ a b out:Array AF}{st st0:BQ}{ia ib:Nat}
theorem MPre.last'(M:MPre r a₀ a b):∀j,j<b.size->rkA r b j<rkA r a (a.size-1):=λj hj=>cD (M.asb.le0 (by omega) (by omega)) M.last
theorem zU(M:MPre r a₀ a b)(m:MS r a b out.toList ia ib)(h:ib=b.size):FIN r a b (some (dnA a b out ia ib)):=by subst h;refine⟨_,rfl, ?_⟩;have:=m.finA M.asa;unfold dnA;rw[dL,dL,aKx _ (aM _),dD];exact this
theorem zT(M:MPre r a₀ a b)(m:MS r a b out.toList ia ib)(h:ia+1=a.size):FIN r a b (some (lsA a b out ia ib)):=by refine⟨_,rfl, ?_⟩;have:=m.finL M.asa M.asb h M.last';unfold lsA;rw[dL,dL];exact this
theorem MS.pushA'(M:MPre r a₀ a b)(m:MS r a b out.toList ia ib)(h:ia<a.size)(hb:∀j,ib<=j->j<b.size->rkA r a ia<rkA r b j):MS r a b (out.push a[ia]).toList (ia+1) ib:=by rw[lA];exact m.pushA h M.asa hb
theorem MS.pushB'(M:MPre r a₀ a b)(m:MS r a b out.toList ia ib)(h:ib<b.size)(hb:∀j,ia<=j->j<a.size->rkA r b ib<rkA r a j):MS r a b (out.push b[ib]).toList ia (ib+1):=by rw[lA];exact m.pushB h M.asb hb
theorem MS.extA'(M:MPre r a₀ a b)(m:MS r a b out.toList ia ib){k:Nat}(h:ia+k<=a.size)(hb:∀i,i<k->∀j,ib<=j->j<b.size->rkA r a (ia+i)<rkA r b j):MS r a b (out++a.extract ia (ia+k)).toList (ia+k) ib:=by rw[dL];exact m.extA M.asa k h hb
theorem MS.extB'(M:MPre r a₀ a b)(m:MS r a b out.toList ia ib){k:Nat}(h:ib+k<=b.size)(hb:∀i,i<k->∀j,ia<=j->j<a.size->rkA r b (ib+i)<rkA r a j):MS r a b (out++b.extract ib (ib+k)).toList ia (ib+k):=by rw[dL];exact m.extB M.asb k h hb
def P2(r:AF->Nat)(a b:Array AF)(st0:BQ)(N:Nat):ForInStep ML2->BQ->Prop:=λq st'=>SameG st0 st'/\match q with
 |.done c=>FIN r a b c.1\/OKm r a b N c.1 c.2.1 c.2.2.1 c.2.2.2.1
 |.yield c=>OKm r a b N c.1 c.2.1 c.2.2.1 c.2.2.2.1
theorem aDK{N mg k k1:Nat}(M:MPre r a₀ a b)(S:SameG st0 st)(m:MS r a b out.toList ia ib)(h1:ia+1<a.size)(h2:ib<b.size)(hN:N<=ia+1+ib)(hb:∀j,ib<=j->j<b.size->rkA r a ia<rkA r b j):wpS (AH prog w) A E s (aNl a b out ia ib mg k k1) (P2 r a b st0 N) st:=by
 unfold aNl;refine AE (fG (by omega) ?_);have m2:=m.pushA' M (by omega) hb
 by_cases e:ia+1+1=a.size
 ·rw[if_pos (by simpa using e)];exact AI ⟨S,.inl (zT M m2 e)⟩
 ·rw[if_neg (by simpa using e)]
  split
  ·exact AI ⟨S,.inr ⟨rfl,m2,by show ia+1+1<_;omega,h2,hN⟩⟩
  ·exact AI ⟨S,rfl,m2,by show ia+1+1<_;omega,h2,hN⟩
theorem aDs{N mg k bc:Nat}(K:lS prog w A E s κ r a₀)(hk:kindOf st0=κ)(M:MPre r a₀ a b)(S:SameG st0 st)(m:MS r a b out.toList ia ib)(h1:ia+1<a.size)(h2:ib<b.size)(hN:N<=ia+1+ib)(hb:∀j,ia<=j->j<a.size->rkA r b ib<rkA r a j):wpS (AH prog w) A E s (aNm a b out ia ib mg k bc) (P2 r a b st0 N) st:=by
 unfold aNm;refine AE (fG (by omega) ?_);have m2:=m.pushB' M h2 hb
 by_cases e:ib+1=b.size
 ·rw[if_pos (by simpa using e)];exact AI ⟨S,.inl (zU M m2 e)⟩
 ·rw[if_neg (by simpa using e)];have h1':ia<a.size:=by omega
  refine AE (fG h1' (AE (pZ K (S.kind.trans hk) M.mb (M.ma _ (by simp)) (by omega) (by omega) (λi j h1 h2 h3=>M.asb i j (by omega) h2 (by omega)) (λi hi e=>M.ne ia (ib+1+i) h1' (by omega) (by rw[e,eV h1'])) λk1 c1 c2 c3=> ?_)));dsimp only;rw[<-eV (r:=r) h1'] at c2 c3;have m3:=m2.extB' M (k:=k1) (by omega) λi hi j j1 j2=>aZ (c2 i hi) (M.asa.le0 j1 j2)
  have c3':∀j,ib+1+k1<=j->j<b.size->rkA r a ia<rkA r b j:=λj j1 j2=>by
   have:=c3 (j-(ib+1)) (by omega) (by omega)
   rwa[show ib+1+(j-(ib+1))=j by omega] at this
  by_cases z:k1>0
  ·rw[if_pos z]
   by_cases y:ib+1+k1=b.size
   ·rw[if_pos (by simpa using y)];exact AI ⟨S,.inl (zU M m3 y)⟩
   ·rw[if_neg (by simpa using y)];exact aDK M S m3 h1 (by omega) (by omega) c3'
  ·rw[if_neg z];have z0:k1=0:=by omega
   subst z0;exact aDK M S m2 h1 (by omega) (by omega) c3'
theorem aKq{N mg ac bc:Nat}(K:lS prog w A E s κ r a₀)(hk:kindOf st0=κ)(M:MPre r a₀ a b)(S:SameG st0 st)(m:MS r a b out.toList ia ib)(h1:ia+1<a.size)(h2:ib<b.size)(hN:N<=ia+1+ib):wpS (AH prog w) A E s (aKV a b out ia ib mg ac bc) (P2 r a b st0 N) st:=by
 unfold aKV;rw[jV];refine AE (Ay ?_);have S:=S.set mg;refine AE (fG h2 (AE (pZ K (S.kind.trans hk) M.ma (M.mb _ (by simp)) (by omega) (by omega) (λi j h1 h2 h3=>M.asa i j (by omega) h2 (by omega)) (λi hi e=>M.ne (ia+i) ib (by omega) h2 (by rw[e,eV h2])) λk c1 c2 c3=> ?_)));dsimp only;rw[<-eV (r:=r) h2] at c2 c3;have m3:=m.extA' M (k:=k) (by omega) λi hi j j1 j2=>aZ (c2 i hi) (M.asb.le0 j1 j2)
 have c3':∀j,ia+k<=j->j<a.size->rkA r b ib<rkA r a j:=λj j1 j2=>by
  have:=c3 (j-ia) (by omega) (by omega)
  rwa[show ia+(j-ia)=j by omega] at this
 have kl:ia+k<a.size:=by
  by_cases q:ia+k<a.size
  ·exact q
  ·have:=c2 (a.size-1-ia) (by omega);rw[show ia+(a.size-1-ia)=a.size-1 by omega] at this;have:=M.last' ib h2;omega
 by_cases z:k>0
 ·rw[if_pos z]
  by_cases y:ia+k+1=a.size
  ·rw[if_pos (by simpa using y)];exact AI ⟨S,.inl (zT M m3 y)⟩
  ·rw[if_neg (by simpa using y),if_neg (by simp;omega)];exact aDs K hk M S m3 (by omega) h2 (by omega) c3'
 ·rw[if_neg z];have z0:k=0:=by omega
  subst z0;exact aDs K hk M S m (by omega) h2 (by omega) c3'
def P1(r:AF->Nat)(a b:Array AF)(st:BQ)(N:Nat):ForInStep ML1->BQ->Prop:=λq st'=>st'=st/\match q with
 |.done c=>FIN r a b c.1\/OKm r a b N c.1 c.2.1 c.2.2.1 c.2.2.2.1
 |.yield c=>OKm r a b N c.1 c.2.1 c.2.2.1 c.2.2.2.1
theorem aLE{N mg:Nat}{c:ML1}(K:lS prog w A E s κ r a₀)(hk:kindOf st=κ)(M:MPre r a₀ a b)(h:OKm r a b N c.1 c.2.1 c.2.2.1 c.2.2.2.1):wpS (AH prog w) A E s (lo1 a b mg c) (P1 r a b st (N+1)) st:=by
 obtain⟨o,out,ia,ib,ac,bc⟩:=c;obtain⟨h0,m,h1,h2,hN⟩:=h;dsimp only at h0 m h1 h2 hN;unfold lo1;dsimp only;have h1':ia<a.size:=by omega
 refine AE (fG h2 (AE (fG h1' (AE (K.ask (M.mb _ (by simp)) (M.ma _ (by simp)) hk ?_)))));dsimp only
 by_cases q:r b[ib]<r a[ia]
 ·rw[if_pos (by simpa using q)];refine AE (fG h2 ?_);have q':rkA r b ib<rkA r a ia:=by rw[eV h2,eV h1'];exact q
  have m2:=m.pushB' M h2 λj j1 j2=>aZ q' (M.asa.le0 j1 j2)
  by_cases e:ib+1=b.size
  ·rw[if_pos (by simpa using e)];exact AI ⟨rfl,.inl (zU M m2 e)⟩
  ·rw[if_neg (by simpa using e)]
   split
   ·exact AI ⟨rfl,.inr ⟨rfl,m2,h1,by show ib+1<_;omega,by show _<=ia+(ib+1);omega⟩⟩
   ·exact AI ⟨rfl,rfl,m2,h1,by show ib+1<_;omega,by show _<=ia+(ib+1);omega⟩
 ·rw[if_neg (by simpa using q)];refine AE (fG h1' ?_)
  have q':rkA r a ia<rkA r b ib:=by have:=M.ne ia ib h1' h2;rw[eV h1',eV h2] at this ⊢;omega
  have m2:=m.pushA' M h1' λj j1 j2=>aZ q' (M.asb.le0 j1 j2)
  by_cases e:ia+1+1=a.size
  ·rw[if_pos (by simpa using e)];exact AI ⟨rfl,.inl (zT M m2 e)⟩
  ·rw[if_neg (by simpa using e)]
   split
   ·exact AI ⟨rfl,.inr ⟨rfl,m2,by show ia+1+1<_;omega,h2,by show _<=ia+1+ib;omega⟩⟩
   ·exact AI ⟨rfl,rfl,m2,by show ia+1+1<_;omega,h2,by show _<=ia+1+ib;omega⟩
def P0(r:AF->Nat)(a b:Array AF)(st0:BQ)(N:Nat):ForInStep ML0->BQ->Prop:=λq st'=>SameG st0 st'/\match q with
 |.done c=>FIN r a b c.1
 |.yield c=>OKm r a b N c.1 c.2.1 c.2.2.1 c.2.2.2.1
theorem aMi{N:Nat}{c:ML0}(K:lS prog w A E s κ r a₀)(hk:kindOf st0=κ)(M:MPre r a₀ a b)(S:SameG st0 st)(h:OKm r a b N c.1 c.2.1 c.2.2.1 c.2.2.2.1):wpS (AH prog w) A E s (lo0 a b c) (P0 r a b st0 (N+1)) st:=by
 obtain⟨o,out,ia,ib,mg⟩:=c;obtain⟨h0,m,h1,h2,hN⟩:=h;dsimp only at h0 m h1 h2 hN;unfold lo0;dsimp only;refine AE (Ab (AW (I:=λx d st'=>st'=st/\OKm r a b (N+x) d.1 d.2.1 d.2.2.1 d.2.2.2.1) (Q:=λd st'=>st'=st/\(FIN r a b d.1\/OKm r a b (N+1) d.1 d.2.1 d.2.2.1 d.2.2.2.1)) ?step ?fin ⟨rfl,rfl,m,h1,h2,hN⟩) ?post)
 case step=>
  rintro x d st' _ hx ⟨rfl,hd⟩;refine Ab (aLE K (S.kind.trans hk) M hd) λq st'' hq=> ?_
  obtain⟨rfl,hq⟩:=hq;cases q with
  |done d=>exact⟨rfl,hq.imp id λz=>z.mono (by omega)⟩
  |yield d=>exact⟨rfl,hq⟩
 case fin=>rintro d st' ⟨rfl,_,_,h3,h4,h5⟩;omega
 case post=>
  rintro d st' ⟨rfl,hd⟩;obtain⟨o1,out,ia,ib,ac,bc⟩:=d
  rcases hd with⟨res,e,hres⟩|⟨e,m,h1,h2,hN⟩
  ·dsimp only at e;subst e;exact AI ⟨S,res,rfl,hres⟩
  ·dsimp only at e m h1 h2 hN;subst e;dsimp only;refine AE (wpS_lift (Aw ⟨rfl, ?_⟩));refine AE (Ab (AW (I:=λx d st'=>SameG st0 st'/\OKm r a b (N+1+x) d.1 d.2.1 d.2.2.1 d.2.2.2.1) (Q:=λd st'=>SameG st0 st'/\(FIN r a b d.1\/OKm r a b (N+1) d.1 d.2.1 d.2.2.1 d.2.2.2.1)) ?step2 ?fin2 ⟨S,rfl,m,h1,h2,hN⟩) ?post2)
   case step2=>
    rintro x ⟨o2,out,ia,ib,mg,ac,bc⟩ st' _ hx ⟨S,_,m,h1,h2,hN⟩;dsimp only at m h1 h2 hN;have key:∀mg,wpS (AH prog w) A E s (aKV a b out ia ib mg ac bc) (P2 r a b st0 (N+1+(x+1))) st':=λmg=>aKq K hk M S m h1 h2 (by omega)
    unfold lo2;dsimp only
    split<;>
    ·refine Ab (key _) λq st'' hq=> ?_
     obtain⟨S',hq⟩:=hq;cases q with
     |done d=>exact⟨S',hq.imp id λz=>z.mono (by omega)⟩
     |yield d=>exact⟨S',hq⟩
   case fin2=>rintro d st' ⟨_,_,_,h3,h4,h5⟩;omega
   case post2=>
    rintro⟨o2,out,ia,ib,mg,ac,bc⟩ st' ⟨S,hd⟩
    rcases hd with⟨res,e,hres⟩|⟨e,m,h1,h2,hN⟩
    ·dsimp only at e;subst e;exact AI ⟨S,res,rfl,hres⟩
    ·dsimp only at e m h1 h2 hN;subst e;dsimp only;rw[jV];exact AE (Ay (AI ⟨S.set _,rfl,m,h1,h2,hN⟩))
theorem aAK{Q:Array AF->BQ->Prop}(K:lS prog w A E s κ r a₀)(hk:kindOf st=κ)(M:MPre r a₀ a b)
  (h:∀out st',MD r a b out.toList->SameG st st'->Q out st'):wpS (AH prog w) A E s (xK a b) Q st:=by
 rw[aMr];unfold loM;refine AE (wpS_lift (Aw ⟨rfl, ?_⟩));have b1:=M.b1;have a1:=M.a1;refine AE (fG (by omega) ?_);have m0:MS r a b (#[]:Array AF).toList 0 0:=⟨by omega,by omega,by simp,by simp,λx hx=>by simp at hx,λx hx=>by simp at hx⟩;have m:MS r a b (#[b[0]]:Array AF).toList 0 1:=m0.pushB' M (by omega) λj j1 j2=>aZ M.first (M.asa.le0 j1 j2)
 by_cases e:1=b.size
 ·rw[if_pos (by simpa using e)];obtain⟨res,e2,hr⟩:=zU M m e;cases e2;exact AI (h _ _ hr (.refl _))
 ·rw[if_neg (by simpa using e)]
  by_cases e1:0+1=a.size
  ·rw[if_pos (by simpa using e1)];obtain⟨res,e2,hr⟩:=zT M m e1;cases e2;exact AI (h _ _ hr (.refl _))
  ·rw[if_neg (by simpa using e1)];refine AE (wpS_get (AE (Ab (AW (I:=λx d st'=>SameG st st'/\OKm r a b (x+1) d.1 d.2.1 d.2.2.1 d.2.2.2.1) (Q:=λd st'=>SameG st st'/\FIN r a b d.1) ?step ?fin ⟨.refl _,rfl,m,by show 0+1<_;omega,by show 1<_;omega,aM _⟩) ?post)))
   case step=>
    rintro x d st' _ hx ⟨S,hd⟩;refine Ab (aMi K hk M S hd) λq st'' hq=> ?_
    obtain⟨S',hq⟩:=hq;cases q with
    |done d=>exact⟨S',hq⟩
    |yield d=>exact⟨S',hq⟩
   case fin=>rintro d st' ⟨_,_,_,h3,h4,h5⟩;omega
   case post=>rintro d st' ⟨S,res,e,hr⟩;rw[e];exact AI (h _ _ hr S)
end
structure HS(r:AF->Nat)(a b:Array AF)(out:List AF)(na nb:Nat):Prop where
 ha:na<=a.size
 hb:nb<=b.size
 perm:out.Perm (a.toList.drop na++b.toList.drop nb)
 dsc:(out.map r).Pairwise (λx y=>y<x)
 la:∀x∈out,∀i,i<na->rkA r a i<r x
 lb:∀x∈out,∀i,i<nb->rkA r b i<r x
section
variable {r:AF->Nat}{a b:Array AF}{out:List AF}{na nb:Nat}
theorem HS.swap(m:HS r a b out na nb):HS r b a out nb na:=⟨m.hb,m.ha,m.perm.trans iD,m.dsc,m.lb,m.la⟩
theorem HS.pushA(m:HS r a b out (na+1) nb)(asa:AscR r a 0 a.size)(hb:∀j,j<nb->rkA r b j<rkA r a na):HS r a b (out++[a[na]'m.ha]) na nb:=by
 have h:na<a.size:=m.ha;refine⟨eJ h,m.hb, ?_, ?_,λx hx i h1=> ?_,λx hx i h1=> ?_⟩
 ·have e:a.toList.drop na=a[na]::a.toList.drop (na+1):=by rw[gH (by simpa using h)];simp
  rw[e,aKF];exact(iD).trans (List.Perm.cons _ m.perm)
 ·rw[aW,qK];refine⟨m.dsc,kW _ _,λx hx y hy=> ?_⟩;obtain⟨z,hz,rfl⟩:=aN.mp hx;have:y=r a[na]:=by simpa using hy
  rw[this,<-eV (r:=r) h];exact m.la z hz na (lO _)
 ·rcases aY.mp hx with hx|hx
  ·exact m.la x hx i (by omega)
  ·rw[aG.mp hx,<-eV (r:=r) h];exact asa i na (bY _) h1 h
 ·rcases aY.mp hx with hx|hx
  ·exact m.lb x hx i h1
  ·rw[aG.mp hx,<-eV (r:=r) h];exact hb i h1
theorem aGr{k:Nat}(h:k+1<=na)(h2:na<=a.size):(a.extract (na-(k+1)) na).toList.reverse=(a.extract (na-k) na).toList.reverse++[a[na-(k+1)]'(by omega)]:=by
 simp only[eA,cU]
 have e:a.toList.drop (na-(k+1))=a[na-(k+1)]'(by omega)::a.toList.drop (na-k):=by rw[gH (by simp;omega)];rw[show na-(k+1)+1=na-k by omega];simp
 rw[e,show na-(na-(k+1))=(na-(na-k))+1 by omega,aFy,List.reverse_cons]
theorem HS.extA(asa:AscR r a 0 a.size)(m:HS r a b out na nb):∀k,k<=na->(∀i,na-k<=i->i<na->∀j,j<nb->rkA r b j<rkA r a i)->HS r a b (out++(a.extract (na-k) na).toList.reverse) (na-k) nb
 |0,_,_=>by
  have e:(a.extract (na-0) na).toList.reverse=[]:=by simp[eA,cU]
  rw[e,dD];exact m
 |k+1,h,hb=>by
  have ih:=HS.extA asa m k (by omega) λi h1 h2=>hb i (by omega) h2
  rw[aGr h m.ha,<-fD];have e:na-k=na-(k+1)+1:=by omega
  rw[e] at ih;have:=ih.pushA asa (hb (na-(k+1)) (aM _) (by omega));rw[show a.extract (na-k) na=a.extract (na-(k+1)+1) na by rw[e]];exact this
theorem HS.extB(asb:AscR r b 0 b.size)(m:HS r a b out na nb)(k:Nat)(h:k<=nb)(hb:∀i,nb-k<=i->i<nb->∀j,j<na->rkA r a j<rkA r b i):HS r a b (out++(b.extract (nb-k) nb).toList.reverse) na (nb-k):=(m.swap.extA asb k h hb).swap
theorem HS.done(m:HS r a b out 0 0):MD r a b out.reverse:=by
 refine⟨(List.reverse_perm _).trans ?_, ?_⟩
 ·have:=m.perm;simpa using this
 ·rw[aKH,List.pairwise_reverse];exact m.dsc
theorem HS.finB(m:HS r a b out 0 nb)(asb:AscR r b 0 b.size):MD r a b ((b.extract 0 nb).toList++out.reverse):=by
 have:=m.extB asb nb (aM _) λi h1 h2 j hj=>by omega
 rw[uQ] at this;have:=this.done
 rwa[aFA,aFq] at this
theorem HS.finL(m:HS r a b out na 1)(asa:AscR r a 0 a.size)(asb:AscR r b 0 b.size)(first:∀i,i<a.size->rkA r b 0<rkA r a i):MD r a b ((b.extract 0 1).toList++(a.extract 0 na).toList++out.reverse):=by
 have ha:=m.ha
 have:=m.extA asa na (aM _) λi h1 h2 j hj=>by
  have:j=0:=by omega
  subst this;exact first i (by omega)
 rw[uQ] at this;have:=this.finB asb
 rwa[aFA,aFq,<-fD] at this
end
noncomputable def wO:Array AF->Array AF->StateT BQ Sem (Array AF):=sortPriv%PySem.Builtin.mergeHi
noncomputable abbrev MH1:=Option (Array AF)×Nat×Nat×Array AF×Nat×Nat
noncomputable abbrev MH2:=Option (Array AF)×Nat×Nat×Array AF×Nat×Nat×Nat
noncomputable abbrev MH0:=Option (Array AF)×Nat×Nat×Array AF×Nat
noncomputable def dnH(a b out:Array AF)(na nb:Nat):Array AF:=a.extract 0 na++b.extract 0 nb++out.reverse
noncomputable def fsB(a b out:Array AF)(na nb:Nat):Array AF:=b.extract 0 nb++a.extract 0 na++out.reverse
noncomputable def hi1(a b:Array AF)(mg:Nat)(c:MH1):SM (ForInStep MH1):=do
 let y <-elem' b (c.2.2.1-1)
 let x <-elem' a (c.2.1-1)
 let q <-lt' y x
 match q with
 |some aw=>
  if aw=true then do
   let x <-elem' a (c.2.1-1)
   if(c.2.1-1==0)=true then pure (.done (some (dnH a b (c.2.2.2.1.push x) (c.2.1-1) c.2.2.1),c.2.1-1,c.2.2.1,c.2.2.2.1.push x,c.2.2.2.2.1+1,0))
   else if c.2.2.2.2.1+1>=mg then pure (.done (none,c.2.1-1,c.2.2.1,c.2.2.2.1.push x,c.2.2.2.2.1+1,0))
   else pure (.yield (none,c.2.1-1,c.2.2.1,c.2.2.2.1.push x,c.2.2.2.2.1+1,0))
  else do
   let y <-elem' b (c.2.2.1-1)
   if(c.2.2.1-1==1)=true then pure (.done (some (fsB a b (c.2.2.2.1.push y) c.2.1 (c.2.2.1-1)),c.2.1,c.2.2.1-1,c.2.2.2.1.push y,0,c.2.2.2.2.2+1))
   else if c.2.2.2.2.2+1>=mg then pure (.done (none,c.2.1,c.2.2.1-1,c.2.2.2.1.push y,0,c.2.2.2.2.2+1))
   else pure (.yield (none,c.2.1,c.2.2.1-1,c.2.2.2.1.push y,0,c.2.2.2.2.2+1))
 |_=>pure (.done (some (dnH a b c.2.2.2.1 c.2.1 c.2.2.1),c.2.1,c.2.2.1,c.2.2.2.1,c.2.2.2.2.1,c.2.2.2.2.2))
noncomputable def aNi(a b out:Array AF)(na nb mg k k1:Nat):SM (ForInStep MH2):=do
 let x <-elem' a (na-1)
 if(na-1==0)=true then pure (.done (some (dnH a b (out.push x) (na-1) nb),na-1,nb,out.push x,mg,k,k1))
 else if(decide (k<7)&&decide (k1<7))=true then pure (.done (none,na-1,nb,out.push x,mg,k,k1))
 else pure (.yield (none,na-1,nb,out.push x,mg,k,k1))
noncomputable def aNp(a b out:Array AF)(na nb mg k bc:Nat):SM (ForInStep MH2):=do
 let y <-elem' b (nb-1)
 if(nb-1==1)=true then pure (.done (some (fsB a b (out.push y) na (nb-1)),na,nb-1,out.push y,mg,k,bc))
 else do
  let x <-elem' a (na-1)
  let q <-mR true x b 0 (nb-1) (nb-1-1)
  match q with
  |some at_=>
   if nb-1-at_>0 then
    if(at_==1)=true then pure (.done (some (fsB a b (out.push y++(b.extract at_ (nb-1)).reverse) na at_),na,at_,out.push y++(b.extract at_ (nb-1)).reverse,mg,k,nb-1-at_))
    else if(at_==0)=true then pure (.done (some (dnH a b (out.push y++(b.extract at_ (nb-1)).reverse) na at_),na,at_,out.push y++(b.extract at_ (nb-1)).reverse,mg,k,nb-1-at_))
    else aNi a b (out.push y++(b.extract at_ (nb-1)).reverse) na at_ mg k (nb-1-at_)
   else aNi a b (out.push y) na (nb-1) mg k (nb-1-at_)
  |_=>pure (.done (some (dnH a b (out.push y) na (nb-1)),na,nb-1,out.push y,mg,k,bc))
noncomputable def aKU(a b out:Array AF)(na nb mg ac bc:Nat):SM (ForInStep MH2):=do
 kI mg
 let y <-elem' b (nb-1)
 let q <-mR false y a 0 na (na-1)
 match q with
 |some at_=>
  if na-at_>0 then
   if(at_==0)=true then pure (.done (some (dnH a b (out++(a.extract at_ na).reverse) at_ nb),at_,nb,out++(a.extract at_ na).reverse,mg,na-at_,bc))
   else aNp a b (out++(a.extract at_ na).reverse) at_ nb mg (na-at_) bc
  else aNp a b out na nb mg (na-at_) bc
 |_=>pure (.done (some (dnH a b out na nb),na,nb,out,mg,ac,bc))
noncomputable def hi2(a b:Array AF)(c:MH2):SM (ForInStep MH2):=
 if c.2.2.2.2.1>1 then aKU a b c.2.2.2.1 c.2.1 c.2.2.1 (c.2.2.2.2.1-1) c.2.2.2.2.2.1 c.2.2.2.2.2.2
 else aKU a b c.2.2.2.1 c.2.1 c.2.2.1 c.2.2.2.2.1 c.2.2.2.2.2.1 c.2.2.2.2.2.2
noncomputable def hi0(a b:Array AF)(c:MH0):SM (ForInStep MH0):=do
 let d <-forIn [:a.size+b.size] ((none,c.2.1,c.2.2.1,c.2.2.2.1,0,0):MH1) λ_ d=>hi1 a b c.2.2.2.2 d
 match d.1 with
 |some r=>pure (.done (some r,d.2.1,d.2.2.1,d.2.2.2.1,c.2.2.2.2))
 |none=>do
  liftM (rule "list.sort.gallop")
  let e <-forIn [:a.size+b.size] ((none,d.2.1,d.2.2.1,d.2.2.2.1,c.2.2.2.2+1,d.2.2.2.2.1,d.2.2.2.2.2):MH2) λ_ e=>hi2 a b e
  match e.1 with
  |some r=>pure (.done (some r,e.2.1,e.2.2.1,e.2.2.2.1,e.2.2.2.2.1))
  |none=>do
   kI (e.2.2.2.2.1+1)
   pure (.yield (none,e.2.1,e.2.2.1,e.2.2.2.1,e.2.2.2.2.1+1))
noncomputable def hiM(a b:Array AF):SM (Array AF):=do
 liftM (rule "list.sort.merge-hi")
 let x <-elem' a (a.size-1)
 if(a.size-1==0)=true then pure (dnH a b #[x] (a.size-1) b.size)
 else if(b.size==1)=true then pure (fsB a b #[x] (a.size-1) b.size)
 else do
  let g <-get
  let c <-forIn [:a.size+b.size] ((none,a.size-1,b.size, #[x],gallopOf g):MH0) λ_ c=>hi0 a b c
  match c.1 with
  |some r=>pure r
  |none=>liftM (unsupported "internal:list.sort.merge-bound":Sem (Array AF))
theorem aMX(a b:Array AF):wO a b=hiM a b:=by kernel_rfl
def OKh(r:AF->Nat)(a b:Array AF)(N:Nat)(o:Option (Array AF))(out:Array AF)(na nb:Nat):Prop:=o=none/\HS r a b out.toList na nb/\1<=na/\2<=nb/\na+nb+N<=a.size+b.size
theorem OKh.mono{r:AF->Nat}{a b:Array AF}{N N':Nat}{o:Option (Array AF)}{out:Array AF}{na nb:Nat}(h:OKh r a b N o out na nb)(le:N'<=N):OKh r a b N' o out na nb:=⟨h.1,h.2.1,h.2.2.1,h.2.2.2.1,by have:=h.2.2.2.2;omega⟩
section
variable {prog:AD}{w:AM}{A:BM}{E:BJ->BK->Prop}{s:BK}{κ:At}{r:AF->Nat}{a₀ a b out:Array AF}{st st0:BQ}{na nb:Nat}
theorem MPre.first'(M:MPre r a₀ a b):∀i,i<a.size->rkA r b 0<rkA r a i:=λi hi=>aZ M.first (M.asa.le0 (bY _) hi)
theorem ex0(xs:Array AF):(xs.extract 0 0).toList=[]:=by simp[eA,cU]
theorem aBa(M:MPre r a₀ a b)(m:HS r a b out.toList na nb)(h:na=0):FIN r a b (some (dnH a b out na nb)):=by subst h;refine⟨_,rfl, ?_⟩;have:=m.finB M.asb;unfold dnH;rw[dL,dL,ex0,xV,lP];exact this
theorem aAT(M:MPre r a₀ a b)(m:HS r a b out.toList na nb)(h:nb=1):FIN r a b (some (fsB a b out na nb)):=by subst h;refine⟨_,rfl, ?_⟩;have:=m.finL M.asa M.asb M.first';unfold fsB;rw[dL,dL,lP];exact this
theorem HS.pushA'(M:MPre r a₀ a b)(m:HS r a b out.toList na nb)(h1:1<=na)(hb:∀j,j<nb->rkA r b j<rkA r a (na-1)):HS r a b (out.push (a[na-1]'(by have:=m.ha;omega))).toList (na-1) nb:=by
 rw[lA];have e:na=na-1+1:=by omega
 have m':HS r a b out.toList (na-1+1) nb:=by rw[<-e];exact m
 exact m'.pushA M.asa hb
theorem HS.pushB'(M:MPre r a₀ a b)(m:HS r a b out.toList na nb)(h1:1<=nb)(hb:∀j,j<na->rkA r a j<rkA r b (nb-1)):HS r a b (out.push (b[nb-1]'(by have:=m.hb;omega))).toList na (nb-1):=by
 rw[lA];have e:nb=nb-1+1:=by omega
 have m':HS r a b out.toList na (nb-1+1):=by rw[<-e];exact m
 exact(m'.swap.pushA M.asb hb).swap
theorem HS.extA'(M:MPre r a₀ a b)(m:HS r a b out.toList na nb){t:Nat}(h:t<=na)(hb:∀i,t<=i->i<na->∀j,j<nb->rkA r b j<rkA r a i):HS r a b (out++(a.extract t na).reverse).toList t nb:=by rw[dL,lP];have:=m.extA M.asa (na-t) (by omega) (by rw[show na-(na-t)=t by omega];exact hb);rw[show na-(na-t)=t by omega] at this;exact this
theorem HS.extB'(M:MPre r a₀ a b)(m:HS r a b out.toList na nb){t:Nat}(h:t<=nb)(hb:∀i,t<=i->i<nb->∀j,j<na->rkA r a j<rkA r b i):HS r a b (out++(b.extract t nb).reverse).toList na t:=by rw[dL,lP];have:=m.extB M.asb (nb-t) (by omega) (by rw[show nb-(nb-t)=t by omega];exact hb);rw[show nb-(nb-t)=t by omega] at this;exact this
def H2(r:AF->Nat)(a b:Array AF)(st0:BQ)(N:Nat):ForInStep MH2->BQ->Prop:=λq st'=>SameG st0 st'/\match q with
 |.done c=>FIN r a b c.1\/OKh r a b N c.1 c.2.2.2.1 c.2.1 c.2.2.1
 |.yield c=>OKh r a b N c.1 c.2.2.2.1 c.2.1 c.2.2.1
theorem aDV{N mg k k1:Nat}(M:MPre r a₀ a b)(S:SameG st0 st)(m:HS r a b out.toList na nb)(h1:1<=na)(h2:2<=nb)(hN:na-1+nb+N<=a.size+b.size)(hb:∀j,j<nb->rkA r b j<rkA r a (na-1)):wpS (AH prog w) A E s (aNi a b out na nb mg k k1) (H2 r a b st0 N) st:=by
 unfold aNi;have ha:=m.ha;refine AE (fG (by omega) ?_);have m2:=m.pushA' M h1 hb
 by_cases e:na-1=0
 ·rw[if_pos (by simpa using e)];exact AI ⟨S,.inl (aBa M m2 e)⟩
 ·rw[if_neg (by simpa using e)]
  split
  ·exact AI ⟨S,.inr ⟨rfl,m2,by show 1<=na-1;omega,h2,hN⟩⟩
  ·exact AI ⟨S,rfl,m2,by show 1<=na-1;omega,h2,hN⟩
theorem aDG{N mg k bc:Nat}(K:lS prog w A E s κ r a₀)(hk:kindOf st0=κ)(M:MPre r a₀ a b)(S:SameG st0 st)(m:HS r a b out.toList na nb)(h1:1<=na)(h2:2<=nb)(hN:na-1+nb+N<=a.size+b.size)(hb:∀j,j<na->rkA r a j<rkA r b (nb-1)):wpS (AH prog w) A E s (aNp a b out na nb mg k bc) (H2 r a b st0 N) st:=by
 unfold aNp;have ha:=m.ha;have hbb:=m.hb;refine AE (fG (by omega) ?_);have m2:=m.pushB' M (by omega) hb
 by_cases e:nb-1=1
 ·rw[if_pos (by simpa using e)];exact AI ⟨S,.inl (aAT M m2 e)⟩
 ·rw[if_neg (by simpa using e)];have h1':na-1<a.size:=by omega
  refine AE (fG h1' (AE (pZ K (S.kind.trans hk) M.mb (M.ma _ (by simp)) (by omega) (by omega) (λi j h1 h2 h3=>M.asb i j (by omega) h2 (by omega)) (λi hi e=>M.ne (na-1) i h1' (by omega) (by rw[uR] at e;rw[e,eV h1'])) λat_ c1 c2 c3=> ?_)));dsimp only;simp only[uR] at c2 c3;rw[<-eV (r:=r) h1'] at c2 c3;have m3:=m2.extB' M (t:=at_) c1 λi i1 i2 j hj=>cD (M.asa.le0 (by omega) h1') (c3 i i1 i2)
  have a0:1<=at_:=by
   by_cases q:at_=0
   ·subst q;have:=c3 0 (aM _) (by omega);have:=M.first' (na-1) h1';omega
   ·omega
  by_cases z:nb-1-at_>0
  ·rw[if_pos z]
   by_cases y:at_=1
   ·rw[if_pos (by simpa using y)];exact AI ⟨S,.inl (aAT M m3 y)⟩
   ·rw[if_neg (by simpa using y),if_neg (by simp;omega)];exact aDV M S m3 h1 (by omega) (by omega) c2
  ·rw[if_neg z];have z0:at_=nb-1:=by omega
   subst z0;exact aDV M S m2 h1 (by omega) (by omega) c2
theorem aKD{N mg ac bc:Nat}(K:lS prog w A E s κ r a₀)(hk:kindOf st0=κ)(M:MPre r a₀ a b)(S:SameG st0 st)(m:HS r a b out.toList na nb)(h1:1<=na)(h2:2<=nb)(hN:na-1+nb+N<=a.size+b.size):wpS (AH prog w) A E s (aKU a b out na nb mg ac bc) (H2 r a b st0 N) st:=by
 unfold aKU;have ha:=m.ha;have hbb:=m.hb;rw[jV];refine AE (Ay ?_);have S:=S.set mg;have h2':nb-1<b.size:=by omega
 refine AE (fG h2' (AE (pZ K (S.kind.trans hk) M.ma (M.mb _ (by simp)) (by omega) (by omega) (λi j h1 h2 h3=>M.asa i j (by omega) h2 (by omega)) (λi hi e=>M.ne i (nb-1) (by omega) h2' (by rw[uR] at e;rw[e,eV h2'])) λat_ c1 c2 c3=> ?_)));dsimp only;simp only[uR] at c2 c3;rw[<-eV (r:=r) h2'] at c2 c3;have m3:=m.extA' M (t:=at_) c1 λi i1 i2 j hj=>cD (M.asb.le0 (by omega) h2') (c3 i i1 i2)
 by_cases z:na-at_>0
 ·rw[if_pos z]
  by_cases y:at_=0
  ·rw[if_pos (by simpa using y)];exact AI ⟨S,.inl (aBa M m3 y)⟩
  ·rw[if_neg (by simpa using y)];exact aDG K hk M S m3 (by omega) h2 (by omega) c2
 ·rw[if_neg z];have z0:at_=na:=by omega
  subst z0;exact aDG K hk M S m h1 h2 hN c2
def H1(r:AF->Nat)(a b:Array AF)(st:BQ)(N:Nat):ForInStep MH1->BQ->Prop:=λq st'=>st'=st/\match q with
 |.done c=>FIN r a b c.1\/OKh r a b N c.1 c.2.2.2.1 c.2.1 c.2.2.1
 |.yield c=>OKh r a b N c.1 c.2.2.2.1 c.2.1 c.2.2.1
theorem aNb{N mg:Nat}{c:MH1}(K:lS prog w A E s κ r a₀)(hk:kindOf st=κ)(M:MPre r a₀ a b)(h:OKh r a b N c.1 c.2.2.2.1 c.2.1 c.2.2.1):wpS (AH prog w) A E s (hi1 a b mg c) (H1 r a b st (N+1)) st:=by
 obtain⟨o,na,nb,out,ac,bc⟩:=c;obtain⟨h0,m,h1,h2,hN⟩:=h;dsimp only at h0 m h1 h2 hN;unfold hi1;dsimp only;have ha:=m.ha;have hbb:=m.hb;have h1':na-1<a.size:=by omega
 have h2':nb-1<b.size:=by omega
 refine AE (fG h2' (AE (fG h1' (AE (K.ask (M.mb _ (by simp)) (M.ma _ (by simp)) hk ?_)))));dsimp only
 by_cases q:r b[nb-1]<r a[na-1]
 ·rw[if_pos (by simpa using q)];refine AE (fG h1' ?_);have q':rkA r b (nb-1)<rkA r a (na-1):=by rw[eV h1',eV h2'];exact q
  have m2:=m.pushA' M h1 λj hj=>cD (M.asb.le0 (by omega) h2') q'
  by_cases e:na-1=0
  ·rw[if_pos (by simpa using e)];exact AI ⟨rfl,.inl (aBa M m2 e)⟩
  ·rw[if_neg (by simpa using e)]
   split
   ·exact AI ⟨rfl,.inr ⟨rfl,m2,by show 1<=na-1;omega,h2,by show na-1+nb+_<=_;omega⟩⟩
   ·exact AI ⟨rfl,rfl,m2,by show 1<=na-1;omega,h2,by show na-1+nb+_<=_;omega⟩
 ·rw[if_neg (by simpa using q)];refine AE (fG h2' ?_)
  have q':rkA r a (na-1)<rkA r b (nb-1):=by have:=M.ne (na-1) (nb-1) h1' h2';rw[eV h1',eV h2'] at this ⊢;omega
  have m2:=m.pushB' M (by omega) λj hj=>cD (M.asa.le0 (by omega) h1') q'
  by_cases e:nb-1=1
  ·rw[if_pos (by simpa using e)];exact AI ⟨rfl,.inl (aAT M m2 e)⟩
  ·rw[if_neg (by simpa using e)]
   split
   ·exact AI ⟨rfl,.inr ⟨rfl,m2,h1,by show 2<=nb-1;omega,by show na+(nb-1)+_<=_;omega⟩⟩
   ·exact AI ⟨rfl,rfl,m2,h1,by show 2<=nb-1;omega,by show na+(nb-1)+_<=_;omega⟩
def H0(r:AF->Nat)(a b:Array AF)(st0:BQ)(N:Nat):ForInStep MH0->BQ->Prop:=λq st'=>SameG st0 st'/\match q with
 |.done c=>FIN r a b c.1
 |.yield c=>OKh r a b N c.1 c.2.2.2.1 c.2.1 c.2.2.1
theorem aMG{N:Nat}{c:MH0}(K:lS prog w A E s κ r a₀)(hk:kindOf st0=κ)(M:MPre r a₀ a b)(S:SameG st0 st)(h:OKh r a b N c.1 c.2.2.2.1 c.2.1 c.2.2.1):wpS (AH prog w) A E s (hi0 a b c) (H0 r a b st0 (N+1)) st:=by
 obtain⟨o,na,nb,out,mg⟩:=c;obtain⟨h0,m,h1,h2,hN⟩:=h;dsimp only at h0 m h1 h2 hN;unfold hi0;dsimp only;refine AE (Ab (AW (I:=λx d st'=>st'=st/\OKh r a b (N+x) d.1 d.2.2.2.1 d.2.1 d.2.2.1) (Q:=λd st'=>st'=st/\(FIN r a b d.1\/OKh r a b (N+1) d.1 d.2.2.2.1 d.2.1 d.2.2.1)) ?step ?fin ⟨rfl,rfl,m,h1,h2,hN⟩) ?post)
 case step=>
  rintro x d st' _ hx ⟨rfl,hd⟩;refine Ab (aNb K (S.kind.trans hk) M hd) λq st'' hq=> ?_
  obtain⟨rfl,hq⟩:=hq;cases q with
  |done d=>exact⟨rfl,hq.imp id λz=>z.mono (by omega)⟩
  |yield d=>exact⟨rfl,hq⟩
 case fin=>rintro d st' ⟨rfl,_,_,h3,h4,h5⟩;omega
 case post=>
  rintro d st' ⟨rfl,hd⟩;obtain⟨o1,na,nb,out,ac,bc⟩:=d
  rcases hd with⟨res,e,hres⟩|⟨e,m,h1,h2,hN⟩
  ·dsimp only at e;subst e;exact AI ⟨S,res,rfl,hres⟩
  ·dsimp only at e m h1 h2 hN;subst e;dsimp only;refine AE (wpS_lift (Aw ⟨rfl, ?_⟩));refine AE (Ab (AW (I:=λx d st'=>SameG st0 st'/\OKh r a b (N+1+x) d.1 d.2.2.2.1 d.2.1 d.2.2.1) (Q:=λd st'=>SameG st0 st'/\(FIN r a b d.1\/OKh r a b (N+1) d.1 d.2.2.2.1 d.2.1 d.2.2.1)) ?step2 ?fin2 ⟨S,rfl,m,h1,h2,hN⟩) ?post2)
   case step2=>
    rintro x ⟨o2,na,nb,out,mg,ac,bc⟩ st' _ hx ⟨S,_,m,h1,h2,hN⟩;dsimp only at m h1 h2 hN;have key:∀mg,wpS (AH prog w) A E s (aKU a b out na nb mg ac bc) (H2 r a b st0 (N+1+(x+1))) st':=λmg=>aKD K hk M S m h1 h2 (by omega)
    unfold hi2;dsimp only
    split<;>
    ·refine Ab (key _) λq st'' hq=> ?_
     obtain⟨S',hq⟩:=hq;cases q with
     |done d=>exact⟨S',hq.imp id λz=>z.mono (by omega)⟩
     |yield d=>exact⟨S',hq⟩
   case fin2=>rintro d st' ⟨_,_,_,h3,h4,h5⟩;omega
   case post2=>
    rintro⟨o2,na,nb,out,mg,ac,bc⟩ st' ⟨S,hd⟩
    rcases hd with⟨res,e,hres⟩|⟨e,m,h1,h2,hN⟩
    ·dsimp only at e;subst e;exact AI ⟨S,res,rfl,hres⟩
    ·dsimp only at e m h1 h2 hN;subst e;dsimp only;rw[jV];exact AE (Ay (AI ⟨S.set _,rfl,m,h1,h2,hN⟩))
theorem aAE{Q:Array AF->BQ->Prop}(K:lS prog w A E s κ r a₀)(hk:kindOf st=κ)(M:MPre r a₀ a b)
  (h:∀out st',MD r a b out.toList->SameG st st'->Q out st'):wpS (AH prog w) A E s (wO a b) Q st:=by
 rw[aMX];unfold hiM;refine AE (wpS_lift (Aw ⟨rfl, ?_⟩));have b1:=M.b1;have a1:=M.a1;refine AE (fG (by omega) ?_);have m0:HS r a b (#[]:Array AF).toList a.size b.size:=⟨aM _,aM _,by rw[aCB (by simp),aCB (by simp)];exact .refl _,by simp,λx hx=>by simp at hx,λx hx=>by simp at hx⟩;have m:HS r a b (#[a[a.size-1]]:Array AF).toList (a.size-1) b.size:=m0.pushA' M a1 λj hj=>M.last' j hj
 by_cases e:a.size-1=0
 ·rw[if_pos (by simpa using e)];obtain⟨res,e2,hr⟩:=aBa M m e;cases e2;exact AI (h _ _ hr (.refl _))
 ·rw[if_neg (by simpa using e)]
  by_cases e1:b.size=1
  ·rw[if_pos (by simpa using e1)];obtain⟨res,e2,hr⟩:=aAT M m e1;cases e2;exact AI (h _ _ hr (.refl _))
  ·rw[if_neg (by simpa using e1)];refine AE (wpS_get (AE (Ab (AW (I:=λx d st'=>SameG st st'/\OKh r a b (x+1) d.1 d.2.2.2.1 d.2.1 d.2.2.1) (Q:=λd st'=>SameG st st'/\FIN r a b d.1) ?step ?fin ⟨.refl _,rfl,m,by show 1<=a.size-1;omega,by show 2<=b.size;omega,by show a.size-1+b.size+(0+1)<=_;omega⟩) ?post)))
   case step=>
    rintro x d st' _ hx ⟨S,hd⟩;refine Ab (aMG K hk M S hd) λq st'' hq=> ?_
    obtain⟨S',hq⟩:=hq;cases q with
    |done d=>exact⟨S',hq⟩
    |yield d=>exact⟨S',hq⟩
   case fin=>rintro d st' ⟨_,_,_,h3,h4,h5⟩;omega
   case post=>rintro d st' ⟨S,res,e,hr⟩;rw[e];exact AI (h _ _ hr S)
end
noncomputable abbrev Pnd:=Array (Nat×Nat×Nat)
noncomputable def wbA(sa:Nat)(m:Array AF)(xs:Array AF):Array AF:=m.toList.zipIdx.foldl (λa (q:AF×Nat)=>a.setIfInBounds (sa+q.2) q.1) xs
noncomputable def mgC(x y:Array AF)(na nb sa:Nat):SM Bool:=do
 let merged <-if na<=nb then xK x y else wO x y
 modify λs=>setArr s (wbA sa merged (AJ s))
 let s <-get
 pure (failedOf s).isNone
noncomputable def mgB(xs:Array AF)(sa na sb nb:Nat):SM Bool:=do
 if(na==0)=true then pure true
 else do
  let x <-elem' xs (sa+na-1)
  let q <-mR true x xs sb nb (nb-1)
  match q with
  |some nb=>if(nb==0)=true then pure true else mgC (xs.extract sa sb) (xs.extract sb (sb+nb)) na nb sa
  |_=>pure false
noncomputable def mgA(i:Nat):SM Bool:=do
 let s <-get
 match(AC s)[i]?,(AC s)[i+1]? with
 |some (sa,na,pw),some (sb,nb,_)=>do
  set (BD s (((AC s).setIfInBounds i (sa,na+nb,pw)).eraseIdxIfInBounds (i+1)))
  let y <-elem' (AJ s) sb
  let q <-mR false y (AJ s) sa na 0
  match q with
  |some k=>mgB (AJ s) (sa+k) (na-k) sb nb
  |_=>pure false
 |_,_=>liftM (unsupported "internal:list.sort.pending":Sem Bool)
theorem aMg(i:Nat):mergeAt' i=mgA i:=by kernel_rfl
noncomputable def aOV(pw:Nat):SM (ForInStep (Option Unit×Unit)):=do
 let s <-get
 match(if(AC s).size>1 then(AC s)[(AC s).size-2]? else none) with
 |some (_,_,older)=>
  if older<=pw then pure (.done (none,()))
  else do
   let b <-mergeAt' ((AC s).size-2)
   if(!b)=true then pure (.done (some (),())) else pure (.yield (none,()))
 |_=>pure (.done (none,()))
noncomputable def aBd(lo n size:Nat):SM (ForInStep (Option Unit×Nat)):=do
 let s <-get
 match(AC s).back? with
 |some (s1,n1,_)=>do
  let c <-forIn [:size] ((none,()):Option Unit×Unit) λ_ _=>aOV (power' size (2*s1+n1) (2*s1+n1+n1+n) size)
  match c.1 with
  |some r=>pure (.done (some r,lo))
  |none=>do
   modify λs=>BD s ((AC s).modify ((AC s).size-1) λ(st,len,_)=>(st,len,power' size (2*s1+n1) (2*s1+n1+n1+n) size))
   modify λs=>BD s ((AC s).push (lo,n,0))
   pure (.yield (none,lo+n))
 |_=>do
  modify λs=>BD s ((AC s).push (lo,n,0))
  pure (.yield (none,lo+n))
noncomputable def aHz(size minrun:Nat)(c:Option Unit×Nat):SM (ForInStep (Option Unit×Nat)):=
 if c.2>=size then pure (.done (none,c.2))
 else do
  let f <-countRun' c.2 (size-c.2)
  match f with
  |some found=>
   if found<minrun then do
    liftM (rule "list.sort.binary-insertion")
    let b <-binarySort' c.2 (min (size-c.2) minrun) found
    if(!b)=true then pure (.done (some (),c.2)) else aBd c.2 (min (size-c.2) minrun) size
   else aBd c.2 found size
  |_=>pure (.done (some (),c.2))
noncomputable def aLB:SM (ForInStep (Option Unit×Unit)):=do
 let s <-get
 if(AC s).size<=1 then pure (.done (none,()))
 else do
  let b <-mergeAt' (if((if(AC s).size-2>0 then(AC s)[(AC s).size-2-1]?.map (·.2.1) else none).any (·<((AC s)[(AC s).size-2+1]?.elim 0 (·.2.1))))=true then(AC s).size-2-1 else(AC s).size-2)
  if(!b)=true then pure (.done (some (),())) else pure (.yield (none,()))
noncomputable def srM:SM Unit:=do
 let s <-get
 let c <-forIn [:(AJ s).size] ((none,0):Option Unit×Nat) λ_ c=>aHz (AJ s).size (minRun' (AJ s).size (AJ s).size 0) c
 match c.1 with
 |some r=>pure r
 |none=>do
  let d <-forIn [:(AJ s).size] ((none,()):Option Unit×Unit) λ_ _=>aLB
  match d.1 with
  |some r=>pure r
  |none=>pure ()
theorem aMz:sortRuns'=srM:=by kernel_rfl
section
variable {r:AF->Nat}{xs:Array AF}
theorem aCX{i j t:Nat}(h:i+t<j)(hj:j<=xs.size):rkA r (xs.extract i j) t=rkA r xs (i+t):=by refine jE ?_;rw[Array.getElem?_extract,if_pos (by omega)]
theorem aHT(sa t:Nat):∀ (l:List AF) (n:Nat) (xs:Array AF),sa+n+l.length<=xs.size->((l.zipIdx n).foldl (λa (q:AF×Nat)=>a.setIfInBounds (sa+q.2) q.1) xs)[t]? =if sa+n<=t/\t<sa+n+l.length then l[t-(sa+n)]? else xs[t]?
 |[],n,xs,_=>by rw[if_neg (by rw[gW];omega)];rfl
 |p::l,n,xs,h=>by
  rw[bS] at h
  have S:(xs.setIfInBounds (sa+n) p)[t]? =if sa+n=t then some p else xs[t]? :=by
   rw[Array.getElem?_setIfInBounds]
   by_cases e:sa+n=t
   ·rw[if_pos e,if_pos e,if_pos (by omega)]
   ·rw[if_neg e,if_neg e]
  rw[List.zipIdx_cons,List.foldl_cons,aHT sa t l (n+1) _ (by rw[Array.size_setIfInBounds];omega),bS,S]
  by_cases e:sa+n=t
  ·rw[if_neg (show ¬ (sa+(n+1)<=t/\t<sa+(n+1)+l.length) by omega),if_pos e,if_pos (show sa+n<=t/\t<sa+n+(l.length+1) by omega),show t-(sa+n)=0 by omega];rfl
  ·by_cases q:sa+(n+1)<=t/\t<sa+(n+1)+l.length
   ·rw[if_pos q,if_pos (show sa+n<=t/\t<sa+n+(l.length+1) by omega),show t-(sa+n)=t-(sa+(n+1))+1 by omega,List.getElem?_cons_succ]
   ·rw[if_neg q,if_neg e,if_neg (show ¬ (sa+n<=t/\t<sa+n+(l.length+1)) by omega)]
theorem aLi{sa:Nat}{m:Array AF}(h:sa+m.size<=xs.size)(t:Nat):(wbA sa m xs)[t]? =if sa<=t/\t<sa+m.size then m[t-sa]? else xs[t]? :=by have:=aHT sa t m.toList 0 xs (by simpa using h);unfold wbA;rw[this];simp
theorem aKm{sa:Nat}{m:Array AF}(h:sa+m.size<=xs.size):(wbA sa m xs).toList=xs.toList.take sa++(m.toList++xs.toList.drop (sa+m.size)):=by
 apply uJ;intro t;rw[dW,aLi h];have l1:(xs.toList.take sa).length=sa:=by rw[bX];simp;omega
 by_cases h1:t<sa
 ·rw[if_neg (by omega),cT (by rw[l1];exact h1),aAP h1,dW]
 ·rw[dX (by rw[l1];omega),l1]
  by_cases h2:t<sa+m.size
  ·rw[if_pos ⟨by omega,h2⟩,cT (by simp;omega),dW]
  ·rw[if_neg (by omega),dX (by simp;omega),aHp,cC];rw[show sa+m.size+(t-sa-m.size)=t by omega,dW]
theorem aCo{sa n:Nat}(h:sa+n<=xs.size):xs.toList=xs.toList.take sa++((xs.extract sa (sa+n)).toList++xs.toList.drop (sa+n)):=by
 rw[eA,cU,show sa+n-sa=n by omega];have e:xs.toList.drop (sa+n)=(xs.toList.drop sa).drop n:=by rw[aNf]
 rw[e,iE,iE]
theorem aJV{sa:Nat}{m:Array AF}(h:sa+m.size<=xs.size)(hp:m.toList.Perm (xs.extract sa (sa+m.size)).toList):(wbA sa m xs).Perm xs:=by apply iB.mpr;rw[aKm h];refine List.Perm.trans ?_ (List.Perm.of_eq (aCo (xs:=xs) h).symm);exact List.Perm.append_left _ (List.Perm.append_right _ hp)
theorem aKj{i j k:Nat}(h1:i<=j)(h2:j<=k)(h3:k<=xs.size):(xs.extract i j).toList++(xs.extract j k).toList=(xs.extract i k).toList:=by simp only[eA,cU];rw[show k-i=(j-i)+(k-j) by omega,List.take_add,aNf,show i+(j-i)=j by omega]
end
section
variable {prog:AD}{w:AM}{A:BM}{E:BJ->BK->Prop}{s:BK}{κ:At}{r:AF->Nat}{a₀:Array AF}{st st':BQ}
theorem aKb{st2:BQ}{Q:PUnit->BQ->Prop}(h:Q ⟨⟩ st2):wpS (AH prog w) A E s (set st2:StateT BQ Sem PUnit) Q st:=by unfold wpS;rw[StateT.run_set];exact AB ⟨rfl,h⟩
theorem aAL{i sa na pw sb nb pw':Nat}{Q:Bool->BQ->Prop}(K:lS prog w A E s κ r a₀)(hB:SB κ a₀ st)(p1:(AC st)[i]? =some (sa,na,pw))(p2:(AC st)[i+1]? =some (sb,nb,pw'))(hs:sb=sa+na)(n1:1<=na)(n2:1<=nb)(hz:sb+nb<=a₀.size)
  (A1:AscR r (AJ st) sa sb) (A2:AscR r (AJ st) sb (sb+nb))
  (h:∀st',SB κ a₀ st'->AC st'=((AC st).setIfInBounds i (sa,na+nb,pw)).eraseIdxIfInBounds (i+1)->(∀k,k<sa\/sb+nb<=k->(AJ st')[k]? =(AJ st)[k]?)->AscR r (AJ st') sa (sb+nb)->Q true st'):wpS (AH prog w) A E s (mergeAt' i) Q st:=by
 have sz:=hB.size;have mem:∀x∈(AJ st).toList,x∈a₀.toList:=λx hx=>(iB.mp hB.perm).mem_iff.mp hx
 rw[aMg];unfold mgA;refine AE (wpS_get ?_);rw[p1,p2];dsimp only;refine AE (aKb ?_);have hB1:SB κ a₀ (BD st (((AC st).setIfInBounds i (sa,na+nb,pw)).eraseIdxIfInBounds (i+1))):=⟨hB.perm,hB.kind,hB.failed⟩
 have h1:∀st',SameG (BD st (((AC st).setIfInBounds i (sa,na+nb,pw)).eraseIdxIfInBounds (i+1))) st'->AscR r (AJ st) sa (sb+nb)->Q true st':=λst' S a=>by refine h st' ⟨by rw[S.arr];exact hB.perm,by rw[S.kind];exact hB.kind,by rw[S.failed];exact hB.failed⟩ S.pend (λk _=>by rw[S.arr]) ?_;rw[S.arr];exact a
 have hsb:sb<(AJ st).size:=by omega
 refine AE (fG hsb (AE (pZ K hB1.kind mem (mem _ (by simp)) (by omega) (by omega) (by rw[<-hs];exact A1) (λj hj e=> ?_) λk c1 c2 c3=> ?_)))
 ·rw[<-eV (r:=r) hsb] at e;exact hB.ne K (i:=sa+j) (j:=sb) (by omega) (by omega) (by omega) e
 rw[<-eV (r:=r) hsb] at c2 c3
 have c2':∀j,sa<=j->j<sa+k->rkA r (AJ st) j<rkA r (AJ st) sb:=λj j1 j2=>by
  have:=c2 (j-sa) (by omega)
  rwa[show sa+(j-sa)=j by omega] at this
 have c3':∀j,sa+k<=j->j<sb->rkA r (AJ st) sb<rkA r (AJ st) j:=λj j1 j2=>by
  have:=c3 (j-sa) (by omega) (by omega)
  rwa[show sa+(j-sa)=j by omega] at this
 have A2l:∀j,sb<=j->j<sb+nb->rkA r (AJ st) sb<=rkA r (AJ st) j:=λj j1 j2=>by
  by_cases e:j=sb
  ·rw[e];exact aM _
  ·exact eJ (A2 sb j (aM _) (by omega) j2)
 dsimp only;unfold mgB
 by_cases e0:na-k=0
 ·rw[if_pos (by simpa using e0)];refine AI (h1 _ (.refl _) λi j i1 ij j1=> ?_)
  by_cases q1:j<sb
  ·exact A1 i j i1 ij q1
  ·by_cases q2:i<sb
   ·exact aZ (c2' i i1 (by omega)) (A2l j (by omega) j1)
   ·exact A2 i j (by omega) ij j1
 ·rw[if_neg (by simpa using e0)];have ekn:sa+k+(na-k)-1=sb-1:=by omega
  have hkb:sb-1<(AJ st).size:=by omega
  rw[ekn];refine AE (fG hkb (AE (pZ K hB1.kind mem (mem _ (by simp)) (by omega) (by omega) A2 (λj hj e=> ?_) λn2' d1 d2 d3=> ?_)))
  ·rw[<-eV (r:=r) hkb] at e;exact hB.ne K (i:=sb+j) (j:=sb-1) (by omega) (by omega) (by omega) e
  rw[<-eV (r:=r) hkb] at d2 d3
  have d2':∀j,sb<=j->j<sb+n2'->rkA r (AJ st) j<rkA r (AJ st) (sb-1):=λj j1 j2=>by
   have:=d2 (j-sb) (by omega)
   rwa[show sb+(j-sb)=j by omega] at this
  have d3':∀j,sb+n2'<=j->j<sb+nb->rkA r (AJ st) (sb-1)<rkA r (AJ st) j:=λj j1 j2=>by
   have:=d3 (j-sb) (by omega) (by omega)
   rwa[show sb+(j-sb)=j by omega] at this
  have n2p:n2'≠0:=λz=>by subst z;have a:=d3' sb (by omega) (by omega);have b:=c3' (sb-1) (by omega) (by omega);omega
  dsimp only;rw[if_neg (by simpa using n2p)];unfold mgC
  have M:MPre r a₀ ((AJ st).extract (sa+k) sb) ((AJ st).extract sb (sb+n2')):=by
   have s1:((AJ st).extract (sa+k) sb).size=sb-(sa+k):=by rw[kS];omega
   have s2:((AJ st).extract sb (sb+n2')).size=n2':=by rw[kS];omega
   have e1:∀t,t<sb-(sa+k)->rkA r ((AJ st).extract (sa+k) sb) t=rkA r (AJ st) (sa+k+t):=λt ht=>aCX (by omega) (by omega)
   have e2:∀t,t<n2'->rkA r ((AJ st).extract sb (sb+n2')) t=rkA r (AJ st) (sb+t):=λt ht=>aCX (by omega) (by omega)
   refine⟨by omega,by omega,λi j _ ij j1=> ?_,λi j _ ij j1=> ?_,λx hx=> ?_,λx hx=> ?_,λi j i1 j1=> ?_, ?_, ?_⟩
   ·rw[s1] at j1;rw[e1 i (by omega),e1 j j1];exact A1 _ _ (by omega) (by omega) (by omega)
   ·rw[s2] at j1;rw[e2 i (by omega),e2 j j1];exact A2 _ _ (by omega) (by omega) (by omega)
   ·rw[eA,cU] at hx;exact mem x (aFr (iM hx))
   ·rw[eA,cU] at hx;exact mem x (aFr (iM hx))
   ·rw[s1] at i1;rw[s2] at j1;rw[e1 i i1,e2 j j1];exact hB.ne K (by omega) (by omega) (by omega)
   ·rw[e1 0 (by omega),e2 0 (by omega)];exact c3' _ (by omega) (by omega)
   ·rw[s1,s2,e1 _ (by omega),e2 _ (by omega),show sa+k+(sb-(sa+k)-1)=sb-1 by omega];exact d2' _ (by omega) (by omega)
  have fin:∀out st',MD r ((AJ st).extract (sa+k) sb) ((AJ st).extract sb (sb+n2')) out.toList→SameG (BD st (((AC st).setIfInBounds i (sa,na+nb,pw)).eraseIdxIfInBounds (i+1))) st'→wpS (AH prog w) A E s (do
    modify λs=>setArr s (wbA (sa+k) out (AJ s))
    let s <-get
    pure (failedOf s).isNone) Q st':=λout st' D S=>by
   refine AE (Ay (AE (wpS_get (AI ?_))))
   have ep:out.toList.Perm ((AJ st).extract (sa+k) (sb+n2')).toList:=by
    have:=D.1
    rwa[aKj (by omega) (by omega) (by omega)] at this
   have sO:out.size=sb+n2'-(sa+k):=by have:=ep.length_eq;rw[cC,cC,kS] at this;omega
   have hz2:sa+k+out.size<=(AJ st).size:=by omega
   have ep2:out.toList.Perm ((AJ st).extract (sa+k) (sa+k+out.size)).toList:=by rw[sO,show sa+k+(sb+n2'-(sa+k))=sb+n2' by omega];exact ep
   have ff:failedOf (setArr st' (wbA (sa+k) out (AJ st')))=none:=by show failedOf st'=none;rw[S.failed];exact hB.failed
   rw[ff];have arr':AJ st'=AJ st:=S.arr
   have at_:∀t,(AJ (setArr st' (wbA (sa+k) out (AJ st'))))[t]? =if sa+k<=t/\t<sb+n2' then out[t-(sa+k)]? else(AJ st)[t]? :=λt=>by show(wbA (sa+k) out (AJ st'))[t]? =_;rw[arr',aLi hz2,sO,show sa+k+(sb+n2'-(sa+k))=sb+n2' by omega]
   refine h _ ⟨?_, ?_,ff⟩ ?_ (λt ht=>by rw[at_,if_neg (by omega)]) ?_
   ·show(wbA (sa+k) out (AJ st')).Perm a₀;rw[arr'];exact(aJV hz2 ep2).trans hB.perm
   ·show kindOf st'=κ;rw[S.kind];exact hB.kind
   ·show AC st'=_;rw[S.pend]
   ·have rin:∀t,sa+k<=t->t<sb+n2'->rkA r (AJ (setArr st' (wbA (sa+k) out (AJ st')))) t=rkA r out (t-(sa+k)):=λt t1 t2=>jE (by rw[at_,if_pos ⟨t1,t2⟩])
    have rout:∀t,t<sa+k\/sb+n2'<=t->rkA r (AJ (setArr st' (wbA (sa+k) out (AJ st')))) t=rkA r (AJ st) t:=λt ht=>jE (by rw[at_,if_neg (by omega)])
    have mo:∀u,u<out.size->∃v,sa+k<=v/\v<sb+n2'/\rkA r out u=rkA r (AJ st) v:=λu hu=>by
     have hm:out[u]∈((AJ st).extract (sa+k) (sb+n2')).toList:=ep.mem_iff.mp (by simp);obtain⟨v,hv,ev⟩:=cV hm
     have hv':v<sb+n2'-(sa+k):=by have:=hv;rw[cC,kS] at this;omega
     refine⟨sa+k+v,by omega,by omega, ?_⟩;rw[eV hu,<-ev,<-aCX (xs:=AJ st) (i:=sa+k) (j:=sb+n2') (t:=v) (by omega) (by omega)];rw[eV (by rw[kS];omega)];simp
    have asO:∀u v,u<v->v<out.size->rkA r out u<rkA r out v:=λu v uv hv=>by have:=(aAh.mp D.2) u v (by simp;omega) (by simpa using hv) uv;rw[eV (by omega),eV hv];simpa using this
    have low:∀t u,sa<=t->t<sa+k->u<out.size->rkA r (AJ st) t<rkA r out u:=λt u t1 t2 hu=>by
     obtain⟨v,v1,v2,ev⟩:=mo u hu;rw[ev]
     by_cases q:v<sb
     ·exact A1 t v t1 (by omega) q
     ·exact aZ (c2' t t1 t2) (A2l v (by omega) (by omega))
    have high:∀t u,sb+n2'<=t->t<sb+nb->u<out.size->rkA r out u<rkA r (AJ st) t:=λt u t1 t2 hu=>by
     obtain⟨v,v1,v2,ev⟩:=mo u hu;rw[ev]
     by_cases q:v<sb
     ·refine cD ?_ (d3' t t1 t2)
      by_cases e:v=sb-1
      ·rw[e];exact aM _
      ·exact eJ (A1 v (sb-1) (by omega) (by omega) (by omega))
     ·exact A2 v t (by omega) (by omega) t2
    intro u v u1 uv v1
    by_cases q1:u<sa+k
    ·rw[rout u (.inl q1)]
     by_cases q2:v<sa+k
     ·rw[rout v (.inl q2)];exact A1 u v u1 uv (by omega)
     ·by_cases q3:v<sb+n2'
      ·rw[rin v (by omega) q3];exact low _ _ u1 q1 (by omega)
      ·rw[rout v (.inr (by omega))];exact aZ (c2' u u1 q1) (A2l v (by omega) v1)
    ·by_cases q2:u<sb+n2'
     ·rw[rin u (by omega) q2]
      by_cases q3:v<sb+n2'
      ·rw[rin v (by omega) q3];exact asO _ _ (by omega) (by omega)
      ·rw[rout v (.inr (by omega))];exact high _ _ (by omega) v1 (by omega)
     ·rw[rout u (.inr (by omega)),rout v (.inr (by omega))];exact A2 u v (by omega) uv v1
  dsimp only
  split
  ·exact AE (aAK K hB1.kind M fin)
  ·exact AE (aAE K hB1.kind M fin)
end
noncomputable def Runs(r:AF->Nat)(xs:Array AF):Nat->List (Nat×Nat×Nat)->Nat->Prop
 |s,[],e=>s=e
 |s,p::l,e=>p.1=s/\1<=p.2.1/\AscR r xs s (s+p.2.1)/\Runs r xs (s+p.2.1) l e
section
variable {r:AF->Nat}{xs ys:Array AF}
theorem AscR.keep{s e:Nat}(h:AscR r xs s e)(k:∀t,s<=t->t<e->ys[t]? =xs[t]?):AscR r ys s e:=λi j hi hij hj=>by rw[jE (k i hi (by omega)),jE (k j (by omega) hj)];exact h i j hi hij hj
theorem Runs.le:∀ {l:List (Nat×Nat×Nat)}{s e:Nat},Runs r xs s l e->s+l.length<=e
 |[],s,e,h=>by rw[show s=e from h];exact aM _
 |p::l,s,e,⟨_,h1,_,h2⟩=>by have:=h2.le;rw[bS];omega
theorem Runs.keep:∀ {l:List (Nat×Nat×Nat)}{s e:Nat},Runs r xs s l e->(∀t,s<=t->t<e->ys[t]? =xs[t]?)->Runs r ys s l e
 |[],_,_,h,_=>h
 |p::l,s,e,⟨h0,h1,h2,h3⟩,k=>by have:=h3.le;exact⟨h0,h1,h2.keep λt t1 t2=>k t t1 (by omega),h3.keep λt t1 t2=>k t (by omega) t2⟩
theorem Runs.split:∀ {l1 l2:List (Nat×Nat×Nat)}{s e:Nat},Runs r xs s (l1++l2) e->∃m,Runs r xs s l1 m/\Runs r xs m l2 e
 |[],l2,s,e,h=>⟨s,rfl,h⟩
 |p::l1,l2,s,e,⟨h0,h1,h2,h3⟩=>by obtain⟨m,a,b⟩:=Runs.split h3;exact⟨m,⟨h0,h1,h2,a⟩,b⟩
theorem Runs.app:∀ {l1 l2:List (Nat×Nat×Nat)}{s m e:Nat},Runs r xs s l1 m->Runs r xs m l2 e->Runs r xs s (l1++l2) e
 |[],l2,s,m,e,h,h2=>by rw[show s=m from h];exact h2
 |p::l1,l2,s,m,e,⟨h0,h1,h2,h3⟩,b=>⟨h0,h1,h2,Runs.app h3 b⟩
theorem Runs.pow{l1:List (Nat×Nat×Nat)}{x y:Nat×Nat×Nat}{s e:Nat}(h:Runs r xs s (l1++[x]) e)(h1:y.1=x.1)(h2:y.2.1=x.2.1):Runs r xs s (l1++[y]) e:=by obtain⟨m,a,b⟩:=h.split;refine a.app ?_;obtain⟨b0,b1,b2,b3⟩:=b;exact⟨h1.trans b0,by rw[h2];exact b1,by rw[h2];exact b2,by rw[h2];exact b3⟩
theorem aIg{p:Pnd}{i:Nat}(h:i+1<p.size)(v:Nat×Nat×Nat):p.toList=p.toList.take i++p[i]::p[i+1]::p.toList.drop (i+2)/\((p.setIfInBounds i v).eraseIdxIfInBounds (i+1)).toList=p.toList.take i++v::p.toList.drop (i+2):=by
 have e1:p.toList=p.toList.take i++p[i]::p[i+1]::p.toList.drop (i+2):=by
  have a:p.toList.drop i=p[i]::p.toList.drop (i+1):=by rw[gH (by simp;omega)];simp
  have b:p.toList.drop (i+1)=p[i+1]::p.toList.drop (i+1+1):=by rw[gH (by simp;omega)];simp
  rw[<-b,<-a,iE]
 refine⟨e1, ?_⟩;have l1:(p.toList.take i).length=i:=by rw[bX];simp;omega
 rw[Array.toList_eraseIdxIfInBounds,Array.toList_setIfInBounds];generalize p.toList.take i=u at e1 l1;generalize p.toList.drop (i+2)=z at e1;rw[e1];rw[List.set_append_right _ _ (by omega),l1,uQ,List.set_cons_zero,List.eraseIdx_append_of_length_le (by omega),l1,show i+1-i=1 by omega];rfl
end
section
variable {prog:AD}{w:AM}{A:BM}{E:BJ->BK->Prop}{s:BK}{κ:At}{r:AF->Nat}{a₀:Array AF}{st st':BQ}
theorem aEb{i e:Nat}{Q:Bool->BQ->Prop}(K:lS prog w A E s κ r a₀)(hB:SB κ a₀ st)(R:Runs r (AJ st) 0 (AC st).toList e)(he:e<=a₀.size)(hi:i+1<(AC st).size)
  (h:∀st',SB κ a₀ st'->Runs r (AJ st') 0 (AC st').toList e->(AC st').size+1=(AC st).size->(∀k,e<=k->(AJ st')[k]? =(AJ st)[k]?)->Q true st'):wpS (AH prog w) A E s (mergeAt' i) Q st:=by
 obtain⟨e1,_⟩:=aIg hi (0,0,0);have R0:=R;rw[e1] at R0;obtain⟨m,R1,a1,a2,a3,b1,b2,b3,R2⟩:=R0.split
 have h1:(AC st)[i]? =some (m,(AC st)[i].2.1,(AC st)[i].2.2):=by rw[getElem?_pos _ i (by omega)];refine congrArg some ?_;rw[<-a1]
 have h2:(AC st)[i+1]? =some (m+(AC st)[i].2.1,(AC st)[i+1].2.1,(AC st)[i+1].2.2):=by rw[getElem?_pos _ (i+1) (by omega)];refine congrArg some ?_;rw[<-b1]
 have l2:=R2.le;have l1:=R1.le;refine aAL K hB h1 h2 rfl a2 b2 (by omega) a3 b3 λst' hB' hp hk ha=> ?_
 obtain⟨_,e2⟩:=aIg hi (m,(AC st)[i].2.1+(AC st)[i+1].2.1,(AC st)[i].2.2);have ep:(AC st').toList=(AC st).toList.take i++(m,(AC st)[i].2.1+(AC st)[i+1].2.1,(AC st)[i].2.2)::(AC st).toList.drop (i+2):=by rw[hp];exact e2
 refine h st' hB' ?_ ?_ (λk hk2=>hk k (.inr (by omega)))
 ·rw[ep];refine(R1.keep λt _ t2=>hk t (.inl t2)).app ⟨rfl,by show 1<=_+_;omega, ?_, ?_⟩
  ·show AscR r (AJ st') m (m+(_+_));rw[<-aOB];exact ha
  ·show Runs r (AJ st') (m+(_+_)) _ e;rw[<-aOB];exact R2.keep λt t1 _=>hk t (.inr t1)
 ·have:=congrArg qJ ep;have q:=congrArg qJ e1;simp only[cC,aP,bS] at this q;omega
structure SR(κ:At)(r:AF->Nat)(a₀:Array AF)(lo:Nat)(st:BQ):Prop where
 sb:SB κ a₀ st
 runs:Runs r (AJ st) 0 (AC st).toList lo
theorem aBF{lo n:Nat}{Q:ForInStep (Option Unit×Nat)->BQ->Prop}(K:lS prog w A E s κ r a₀)(S:SR κ r a₀ lo st)(n1:1<=n)(hn:lo+n<=a₀.size)(ha:AscR r (AJ st) lo (lo+n))(h:∀st',SR κ r a₀ (lo+n) st'->Q (.yield (none,lo+n)) st'):wpS (AH prog w) A E s (aBd lo n a₀.size) Q st:=by
 unfold aBd;refine AE (wpS_get ?_)
 have fin:∀st',SR κ r a₀ lo st'->AscR r (AJ st') lo (lo+n)->SR κ r a₀ (lo+n) (BD st' ((AC st').push (lo,n,0))):=λst' S' ha'=>by refine⟨⟨S'.sb.perm,S'.sb.kind,S'.sb.failed⟩, ?_⟩;show Runs r (AJ st') 0 ((AC st').push (lo,n,0)).toList (lo+n);rw[lA];exact S'.runs.app ⟨rfl,n1,ha',rfl⟩
 cases hb:(AC st).back? with
 |none=>exact AE (Ay (AI (h _ (fin st S ha))))
 |some p=>
  obtain⟨s1,n1',p1⟩:=p;dsimp only;generalize power' a₀.size (2*s1+n1') (2*s1+n1'+n1'+n) a₀.size=pw
  have ne0:1<=(AC st).size:=by
   rcases Nat.eq_zero_or_pos (AC st).size with z|z
   ·rw[Array.eq_empty_of_size_eq_zero z] at hb;cases hb
   ·exact z
  refine AE (Ab (AW (I:=λ_ c st'=>c=(none,())/\SR κ r a₀ lo st'/\1<=(AC st').size/\AscR r (AJ st') lo (lo+n)) (Q:=λc st'=>c=(none,())/\SR κ r a₀ lo st'/\1<=(AC st').size/\AscR r (AJ st') lo (lo+n)) ?step (λ_ _ z=>z) ⟨rfl,S,ne0,ha⟩) ?post)
  case step=>
   rintro x c st' _ hx ⟨rfl,S',ne',ha'⟩;unfold aOV;refine AE (wpS_get ?_)
   by_cases q:(AC st').size>1
   ·rw[if_pos q,getElem?_pos _ _ (by omega)];dsimp only
    split
    ·exact AI ⟨rfl,S',ne',ha'⟩
    ·refine AE (aEb K S'.sb S'.runs (by omega) (by omega) λst'' hB hr hs hk=> ?_);rw[if_neg (by decide)];exact AI ⟨rfl,⟨hB,hr⟩,by omega,ha'.keep λt t1 _=>hk t t1⟩
   ·rw[if_neg q];exact AI ⟨rfl,S',ne',ha'⟩
  case post=>
   rintro c st' ⟨rfl,S',ne',ha'⟩;dsimp only;refine AE (Ay (AE (Ay (AI (h _ (fin (BD st' ((AC st').modify ((AC st').size-1) λ(x:Nat×Nat×Nat)=>(x.1,x.2.1,pw))) ⟨⟨S'.sb.perm,S'.sb.kind,S'.sb.failed⟩, ?_⟩ ha'))))));show Runs r (AJ st') 0 ((AC st').modify ((AC st').size-1) λ(x:Nat×Nat×Nat)=>(x.1,x.2.1,pw)).toList lo
   have hl:(AC st').toList≠[]:=λz=>by have:=congrArg qJ z;rw[cC,gW] at this;omega
   have e1:=(jN hl).symm;have R:=S'.runs;rw[e1] at R
   have e2:((AC st').modify ((AC st').size-1) λ(x:Nat×Nat×Nat)=>(x.1,x.2.1,pw)).toList=(AC st').toList.dropLast++[(((AC st').toList.getLast hl).1,((AC st').toList.getLast hl).2.1,pw)]:=by
    apply uJ;intro t;rw[dW,Array.getElem?_modify];have ld:(AC st').toList.dropLast.length=(AC st').size-1:=by simp
    by_cases q:(AC st').size-1=t
    ·rw[if_pos q,dX (by rw[ld];omega),ld,q,uQ,<-q];rw[List.getLast_eq_getElem];have:(AC st').size-1<(AC st').size:=by omega
     simp[this]
    ·rw[if_neg q]
     by_cases q2:t<(AC st').size-1
     ·rw[cT (by rw[ld];exact q2),List.getElem?_dropLast,if_pos (by simpa using q2),dW]
     ·rw[dX (by rw[ld];omega),ld];rw[pC (by omega),gI (by simp;omega)]
   rw[e2];exact R.pow rfl rfl
theorem aEg{Q:Unit->BQ->Prop}(K:lS prog w A E s κ r a₀)(hB:SB κ a₀ st)(hp:AC st= #[])(h:∀st',SB κ a₀ st'->AscR r (AJ st') 0 a₀.size->Q () st'):wpS (AH prog w) A E s sortRuns' Q st:=by
 rw[aMz];unfold srM;refine AE (wpS_get ?_);have sz:=hB.size;rw[sz];generalize minRun' a₀.size a₀.size 0=minrun;refine AE (Ab (AW (I:=λx c st'=>∃lo,c=(none,lo)/\SR κ r a₀ lo st'/\lo<=a₀.size/\(x<=lo\/lo=a₀.size)) (Q:=λc st'=>c=(none,a₀.size)/\SR κ r a₀ a₀.size st') ?step ?fin ⟨0,rfl,⟨hB,by rw[hp];rfl⟩,bY _,.inl (aM _)⟩) ?post)
 case fin=>
  rintro c st' ⟨lo,rfl,S,h1,h2⟩;have:lo=a₀.size:=by omega
  subst this;exact⟨rfl,S⟩
 case step=>
  rintro x c st' _ hx ⟨lo,rfl,S,h1,h2⟩;unfold aHz;dsimp only
  by_cases q:lo>=a₀.size
  ·rw[if_pos q];have:lo=a₀.size:=by omega
   subst this;exact AI ⟨rfl,S⟩
  ·rw[if_neg q];refine AE (aCq K S.sb (by omega) (by omega) λm st2 m1 m2 T ha=> ?_);have S2:SR κ r a₀ lo st2:=⟨T.sb,by rw[T.pend];exact S.runs.keep λt _ t2=>T.keep t (.inl t2)⟩;dsimp only
   by_cases z:m<minrun
   ·rw[if_pos z];refine AE (wpS_lift (Aw ⟨rfl, ?_⟩));refine AE (aGS K S2.sb (by omega) (by omega) ha λst3 T3 ha3=> ?_);rw[if_neg (by decide)];refine aBF K ⟨T3.sb,by rw[T3.pend];exact S2.runs.keep λt _ t2=>T3.keep t (.inl t2)⟩ (by omega) (by omega) ha3 λst4 S4=>⟨_,rfl,S4,by omega,.inl (by omega)⟩
   ·rw[if_neg z];exact aBF K S2 m1 (by omega) ha λst4 S4=>⟨_,rfl,S4,by omega,.inl (by omega)⟩
 case post=>
  rintro c st' ⟨rfl,S⟩;dsimp only
  have pl:(AC st').size<=a₀.size:=by have:=S.runs.le;simpa using this
  refine AE (Ab (AW (I:=λx c st''=>c=(none,())/\SR κ r a₀ a₀.size st''/\(AC st'').size<=a₀.size-x) (Q:=λc st''=>c=(none,())/\SR κ r a₀ a₀.size st''/\(AC st'').size<=1) ?step2 ?fin2 ⟨rfl,S,by omega⟩) ?post2)
  case fin2=>rintro c st'' ⟨rfl,S,h1⟩;exact⟨rfl,S,by omega⟩
  case step2=>
   rintro x c st'' _ hx ⟨rfl,S,h1⟩;unfold aLB;refine AE (wpS_get ?_)
   by_cases q:(AC st'').size<=1
   ·rw[if_pos q];exact AI ⟨rfl,S,q⟩
   ·rw[if_neg q];have go:∀i,i+1<(AC st'').size->wpS (AH prog w) A E s (mergeAt' i) (λb st'=>b=true/\SR κ r a₀ a₀.size st'/\(AC st').size<=a₀.size-(x+1)) st'':=λi hi=>aEb K S.sb S.runs (aM _) hi λst3 hB3 hr hs hk=>⟨rfl,⟨hB3,hr⟩,by omega⟩
    refine AE (Ab (go _ ?_) λb st3 hb=> ?_)
    ·have bd:∀c:Bool,(if c=true then(AC st'').size-2-1 else(AC st'').size-2)+1<(AC st'').size:=λc=>by
      cases c
      ·rw[if_neg (by decide)];omega
      ·rw[if_pos rfl];omega
     exact bd _
    ·obtain⟨rfl,S3,h3⟩:=hb;rw[if_neg (by decide)];exact AI ⟨rfl,S3,h3⟩
  case post2=>
   rintro c st'' ⟨rfl,S,h1⟩;refine AI (h st'' S.sb ?_);have R:=S.runs;generalize e:(AC st'').toList=l at R;have ll:l.length<=1:=by rw[<-e];simpa using h1
   match l,ll with
   |[],_=>have:0=a₀.size:=R;intro i j _ _ hj;omega
   |[p],_=>obtain⟨_,_,b,c⟩:=R;have c:0+p.2.1=a₀.size:=c;rw[c] at b;exact b
end
open PySem.W (KasT kas_sort kas_asc kas_desc kas_tail3 kas_descPart kas_count kas_place kas_bin kas_rev kas_ask kas_item kat_lt kat_cons kat_nil kat_yes kat_no kat_one kat_kind kat_run kat_snds KatTups)
inductive Bel{α:Type}(n:Nat)(P:α->Prop):KasT α->Prop
 |ret {a:α}:P a->Bel n P (.ret a)
 |ask {i j:Nat}{k:Bool->KasT α}:i<n->j<n->(∀b,Bel n P (k b))->Bel n P (.ask i j k)
def aLI(h:BN)(v:BJ)(x:Int×Int):Prop:=∃a o n t u,v=.ref a/\h.get? a=some o/\o.cls=.type "tuple"/\o.data=.seq #[.int x.1 t,.int x.2 u] n
inductive aAv(h:BN):List BJ->List (Int×Int)->Prop
 |nil:aAv h [] []
 |cons {v:BJ}{x:Int×Int}{vs:List BJ}{ps:List (Int×Int)}:aLI h v x->aAv h vs ps->aAv h (v::vs) (x::ps)
open PySem.W (KasT kas_sort kas_asc kas_desc kas_tail3 kas_descPart kas_count kas_place kas_bin kas_rev)
structure Ord(n:Nat)(ans:Nat->Nat->Bool):Prop where
 tr:∀i j k,i<n->j<n->k<n->ans i j=true->ans j k=true->ans i k=true
 ir:∀i,i<n->ans i i=false
 tt:∀i j,i<n->j<n->i≠j->ans i j=true\/ans j i=true
noncomputable abbrev gN(p:Array Nat)(k:Nat):Nat:=p.getD k 0
open PySem.W (KasT kas_sort kas_asc kas_desc kas_tail3 kas_descPart kas_count kas_place kas_bin kas_rev kas_ask kas_item kat_lt kat_cons kat_nil kat_yes kat_no kat_one kat_kind kat_run kat_snds KatTups KatLex)
def aMB(h:BN)(v:BJ)(x:List Int):Prop:=∃a o n,∃its:List BJ,v=.ref a/\h.get? a=some o/\o.cls=.type "tuple"/\o.data=.seq its.toArray n/\IntsAre its x/\x≠[]
inductive aCP(h:BN):List BJ->List (List Int)->Prop
 |nil:aCP h [] []
 |cons {v:BJ}{x:List Int}{vs:List BJ}{ps:List (List Int)}:aMB h v x->aCP h vs ps->aCP h (v::vs) (x::ps)
noncomputable def advM(m:Nat)(p:SetTable.Probe):SetTable.Probe:=if p.more>0 then{p with j:=p.j+1,more:=p.more-1} else{p with j:=(mY m p.i p.perturb).1,more:=aFE m (mY m p.i p.perturb).1-(mY m p.i p.perturb).1,i:=(mY m p.i p.perturb).1,perturb:=(mY m p.i p.perturb).2}
noncomputable def at0(m i q:Nat):SetTable.Probe:={j:=i,more:=aFE m i-i,i:=i,perturb:=q,dummy:=none}
noncomputable def pr(m:Nat)(h:Int):Nat->SetTable.Probe
 |0=>at0 m (qH h%(m+1)) (qH h)
 |n+1=>advM m (pr m h n)
noncomputable def lp(m:Nat)(h:Int):Nat->Nat
 |0=>qH h%(m+1)
 |k+1=>(lp m h k*5+1+qH h / 32^k / 32)%(m+1)
def okM(m:Nat):Prop:=m=7\/m=31\/m=63\/m=127\/m=255
noncomputable abbrev aOE:=Nat×List Key×BL
structure TabT(hs:List Key->Int)(t:BR)(es:Array (Int×BJ))(T:List aOE):Prop where
 om:okM t.mask
 pl:t.place=(T.map (·.1)).toArray
 en:es=(T.map λr=>(hs r.2.1,Value.ref r.2.2)).toArray
 du:t.dummies= #[]
 rs:(T.map (·.1)).Pairwise (·<·)
 lt:∀r∈T,r.1<=t.mask
 rc:∀r∈T,∃n,(pr t.mask (hs r.2.1) n).j=r.1/\∀i,i<n->(pr t.mask (hs r.2.1) i).j∈T.map (·.1)
 kn:(T.map (·.2.1)).Nodup
structure LI(m:Nat)(ow:Array (Option Nat))(dn:List Int):Prop where
 sz:ow.size=m+1
 at_:∀ (x:Nat) (h:Int),dn[x]? =some h->∃j,ow[j]? =some (some x)/\∃n,(pr m h n).j=j/\∀i,i<n->ow[(pr m h i).j]? ≠some none
 lt:∀ (j x:Nat),ow[j]? =some (some x)->x<dn.length
 un:∀ (j j' x:Nat),ow[j]? =some (some x)->ow[j']? =some (some x)->j=j'
section
variable {prog:AD}{w:AM}{A:BM}{E:BJ->BK->Prop}{s:BK}
noncomputable abbrev tK(prog:AD)(w:AM):=AR (eO prog w)
end
structure TabU(hs:List Key->Int)(t:BR)(es:Array (Int×BJ))(T:List aOE)(ds:List Nat):Prop where
 om:okM t.mask
 pl:t.place=(T.map (·.1)).toArray
 en:es=(T.map λr=>(hs r.2.1,Value.ref r.2.2)).toArray
 du:t.dummies=ds.toArray
 rs:(T.map (·.1)).Pairwise (·<·)
 dr:ds.Pairwise (·<·)
 dj:∀d∈ds,d∉T.map (·.1)
 lt:∀r∈T,r.1<=t.mask
 rc:∀r∈T,∃n,(pr t.mask (hs r.2.1) n).j=r.1/\∀i,i<n->(pr t.mask (hs r.2.1) i).j∈T.map (·.1)++ds
 kn:(T.map (·.2.1)).Nodup
theorem aAa{α β:Type}{f:α->β}{l:List α}{l':List β}(h:l'.Perm (l.map f)):∃l2:List α,l2.Perm l/\l'=l2.map f:=by
 generalize hy:l.map f=y at h
 induction h generalizing l with
 |nil=>
  have:l=[]:=by simpa using hy
  subst this;exact⟨[],.refl _,rfl⟩
 |cons x p ih=>
  cases l with
  |nil=>simp at hy
  |cons a t=>simp only[bC,vK.injEq] at hy;obtain⟨l3,q1,q2⟩:=ih hy.2;exact⟨a::l3,q1.cons a,by rw[bC,hy.1,q2]⟩
 |swap x y l0=>
  match l,hy with
  |a::b::t,hy=>simp only[bC,vK.injEq] at hy;exact⟨b::a::t,List.Perm.swap a b t,by rw[bC,bC,hy.1,hy.2.1,hy.2.2]⟩
  |[a],hy=>simp at hy
  |[],hy=>simp at hy
 |trans p1 p2 ih1 ih2=>obtain⟨l3,q1,q2⟩:=ih2 hy;obtain⟨l4,r1,r2⟩:=ih1 q2.symm;exact⟨l4,r1.trans q1,r2⟩
section
variable {X:Cx}{sd:List Slot}{a b:Expr}{pos:Pos}
noncomputable def oP(k:List Key):D:=.tup (k.map kD)
end
structure TOk(w:AM)(es:List (Int×BJ))(t:BR)(ks:List Nat):Prop where
 fit:t.fits es.toArray.size=true
 pl:t.plain=true
 led:t.led= !byT w
 place:t.place=ks.toArray
 asc:ks.Pairwise (·<·)
 len:es.length=ks.length
noncomputable def oZ(h:BN)(a:BL)(vs:List BJ):BN:=((h.update a (Obj.mapSeq λ_=> #[])).push (Ai "tuple" vs.toArray 0)).push (Ai "list" #[] 0)
section
variable {prog:AD}{w:AM}{A:BM}{E:BJ->BK->Prop}{s:BK}
theorem rN(vs:List BJ):(vs.toArray.zip vs.toArray).toList=vs.map λv=>(v,v):=by
 rw[Array.toList_zip];show vs.zip vs=_
 induction vs with
 |nil=>rfl
 |cons v vs ih=>rw[eG,ih];rfl
theorem aJh{κ:At}{rk:BJ->Nat}{vs:List BJ}(nd:(vs.map rk).Nodup)(hask:∀x∈vs,∀y∈vs,∀ (Q:Bool->BK->Prop) (E':BJ->BK->Prop),Q (decide (rk x<rk y)) s->AK (AH prog w) A (keyLt' κ x y) Q E' s):lS prog w A E s κ (λp=>rk p.1) (vs.toArray.zip vs.toArray):=by
 refine⟨λ{x y st Q} hx hy hk h=> ?_, ?_⟩
 ·rw[rN] at hx hy;obtain⟨u,hu,rfl⟩:=aN.mp hx;obtain⟨v,hv,rfl⟩:=aN.mp hy;rw[lt'_eq];refine AE (wpS_get ?_);rw[hk];exact AE (wpS_lift (wpAny_attempt (hask u hu v hv _ _ ⟨rfl,AI h⟩)))
 ·rw[rN,bA];exact nd
theorem xZ{a:BL}{vs:List BJ}{n:Nat}{κ:At}{rk:BJ->Nat}{R:PySem.Fin->BK->Prop}(ho:s.heap.get? a=some (Ai "list" vs.toArray n))(nd:(vs.map rk).Nodup)(hn:vs.length<=10000)
  (hkind:2<=vs.length->∀ (Q:At->BK->Prop),Q κ ⟨oZ s.heap a vs,s.gens,s.drawn,s.toks,s.os⟩->AK (AH prog w) A (keyKind' vs.toArray) Q E ⟨oZ s.heap a vs,s.gens,s.drawn,s.toks,s.os⟩)
  (hask:∀x∈vs,∀y∈vs,∀ (Q:Bool->BK->Prop) (E':BJ->BK->Prop),Q (decide (rk x<rk y)) ⟨oZ s.heap a vs,s.gens,s.drawn,s.toks,s.os⟩->AK (AH prog w) A (keyLt' κ x y) Q E' ⟨oZ s.heap a vs,s.gens,s.drawn,s.toks,s.os⟩)
  (h:∀out:Array BJ,out.toList.Perm vs->(out.toList.map rk).Pairwise (·<·)->R (.done (.ret .none)) {s with heap:=sortedHeap s.heap a vs out}):AK (AH prog w) A (Builtin.«list.sort» ⟨[.ref a],[]⟩) R E s:=by
 have lt:a<s.heap.objs.size:=aU ho;have sz:vs.toArray.size=vs.length:=by simp
 obtain⟨n0,g1⟩:∃n0,(s.heap.update a (Obj.mapSeq λ_=> #[])).get? a=some (Ai "list" #[] n0):=⟨_,get?_update_seq ho (λ_=> #[])⟩
 have n1:a≠((s.heap.update a (Obj.mapSeq λ_=> #[])).push (Ai "tuple" vs.toArray 0)).objs.size:=by rw[size_push',pA];exact bO (oD lt)
 have n2:a≠(s.heap.update a (Obj.mapSeq λ_=> #[])).objs.size:=by rw[pA];exact bO lt
 have g6:(oZ s.heap a vs).get? a=some (Ai "list" #[] n0):=by unfold oZ;rw[aIA _ _ _ n1,aIA _ _ _ n2,g1]
 rw[list_sort_plain];refine AA (listItems_at ho rfl (AA (listUpdate_at ho rfl (AA (seqEpoch_at g1 rfl (AA (wpAny_newTuple (AA (wpAny_newList (Af ?_) (bY _))) (by show vs.length<=_;rw[Ao];omega))))) (by rw[sz,Ao];omega) (bY _))));show AK (AH prog w) A _ R E ⟨oZ s.heap a vs,s.gens,s.drawn,s.toks,s.os⟩;dsimp only
 by_cases h2:vs.toArray.size<2
 ·rw[if_pos h2,if_pos h2];refine AA (AB ?_);rw[StateT.run_pure];refine AA (AB (AA (seqEpoch_at g6 rfl (AA (listUpdate_at g6 rfl ?_ (bY _) ?_)))))
  ·simp only[bne_self_eq_false,if_false,cB];refine AB ?_
   have e:Array.map (λ(x:AF)=>x.2) (AJ (SortSt.mk' general' (vs.toArray.zip vs.toArray) #[] 7 none))=vs.toArray:=by apply oV.mp;rw[uT];show(vs.toArray.zip vs.toArray).toList.map _=vs;rw[rN,bA];exact nY _
   rw[e];refine h vs.toArray (.refl _) ?_;rw[sz] at h2
   match vs,h2 with
   |[],_=>exact .nil
   |[v],_=>exact kW _ _
  ·show(Array.map _ (vs.toArray.zip vs.toArray)).size<=_;rw[Array.size_map,Array.size_zip,sz,Ao];omega
 ·rw[if_neg h2,if_neg h2];rw[sz] at h2;refine AA (hkind (by omega) _ ?_);have K:lS prog w A E ⟨oZ s.heap a vs,s.gens,s.drawn,s.toks,s.os⟩ κ (λp=>rk p.1) (vs.toArray.zip vs.toArray):=aJh nd hask;refine AA (Ag (aEg (Q:=λ_ st'=>SB κ (vs.toArray.zip vs.toArray) st'/\AscR (λp=>rk p.1) (AJ st') 0 (vs.toArray.zip vs.toArray).size) K (st:=SortSt.mk' κ (vs.toArray.zip vs.toArray) #[] 7 none) ⟨Array.Perm.refl _,rfl,rfl⟩ rfl λst' b c=>⟨b,c⟩) ?_ λ_ _ z=>z);rintro⟨⟨⟩,st'⟩ s' ⟨rfl,hB,hA⟩;dsimp only
  have pm:(AJ st').toList.Perm (vs.map λv=>(v,v)):=by
   have:=iB.mp hB.perm
   rwa[rN] at this
  have p2:((AJ st').map (·.2)).toList.Perm vs:=by rw[uT];have:=pm.map (·.2);rw[bA] at this;exact this.trans (List.Perm.of_eq (nY _))
  have sO:((AJ st').map (·.2)).size=vs.length:=by
   have:=p2.length_eq
   rwa[cC] at this
  refine AA (seqEpoch_at g6 rfl (AA (listUpdate_at g6 rfl ?_ (bY _) ?_)))
  ·rw[hB.failed];simp only[bne_self_eq_false,if_false,cB];refine AB (h _ p2 ?_);rw[uT,bA,aAh];intro i j hi hj hij;rw[aB,cC] at hi hj;have q:=hA i j (bY _) hij (by rw[<-hB.size];exact hj);rw[eV hi,eV hj] at q
   have d:∀p∈(AJ st').toList,p.1=p.2:=λp hp=>by obtain⟨v,_,rfl⟩:=aN.mp (pm.mem_iff.mp hp);rfl
   rw[cY,cY];have d1:=d (AJ st')[i] (by simp);have d2:=d (AJ st')[j] (by simp);rw[d1,d2] at q;simpa using q
  ·rw[sO,Ao];omega
end
open PySem.W (kat_lt kat_cons kat_nil kat_yes kat_no kat_one kat_kind KatTups KatLex)
section
variable {prog:AD}{w:AM}{A:BM}{E:BJ->BK->Prop}{s:BK}
theorem aCx{l:BL}{vs:List BJ}{κ:At}{rk:BJ->Nat}{Q:BJ->BK->Prop}(hl:s.heap.IsList l vs.toArray)(nd:(vs.map rk).Nodup)(hn:vs.length<=10000)
  (hkind:∀t:BK,(∀b o,s.heap.get? b=some o->t.heap.get? b=some o)->2<=vs.length->∀ (A':BM) (R:At->BK->Prop) (E':BJ->BK->Prop),A'.units<=A.units+2->R κ t->AK (AH prog w) A' (keyKind' vs.toArray) R E' t)
  (hask:∀t:BK,(∀b o,s.heap.get? b=some o->t.heap.get? b=some o)->∀x∈vs,∀y∈vs,∀ (A':BM) (R:Bool->BK->Prop) (E':BJ->BK->Prop),A'.units<=A.units+2->R (decide (rk x<rk y)) t->AK (AH prog w) A' (keyLt' κ x y) R E' t)
  (h:∀out:Array BJ,out.toList.Perm vs->(out.toList.map rk).Pairwise (·<·)->Q (.ref (s.heap.objs.size+1)) {s with heap:=sortedAll s.heap vs out}):AK (AH prog w) A (call (.builtin "sorted") [.ref l]) Q E s:=by
 have hsz:((s.heap.push (Ai "list" #[] 0)).update s.heap.objs.size (Obj.mapSeq (·++vs.toArray))).objs.size=s.heap.objs.size+1:=by rw[pA,size_push']
 have hoL:(((s.heap.push (Ai "list" #[] 0)).update s.heap.objs.size (Obj.mapSeq (·++vs.toArray))).push (Ai "list" vs.toArray 0)).get? (s.heap.objs.size+1)=some (Ai "list" vs.toArray 0):=by rw[<-hsz];exact bD _ rfl
 have k2:∀b o,s.heap.get? b=some o->(((s.heap.push (Ai "list" #[] 0)).update s.heap.objs.size (Obj.mapSeq (·++vs.toArray))).push (Ai "list" vs.toArray 0)).get? b=some o:=λb o g=>by
  have nb:s.heap.objs.size≠b:=λz=>absurd (aU g) (by rw[<-z];exact fJ _)
  refine aI _ ?_;rw[dR _ _ nb];exact aI _ g
 have k6:∀b o,s.heap.get? b=some o->(oZ (((s.heap.push (Ai "list" #[] 0)).update s.heap.objs.size (Obj.mapSeq (·++vs.toArray))).push (Ai "list" vs.toArray 0)) (s.heap.objs.size+1) vs).get? b=some o:=λb o g=>by
  have nb:s.heap.objs.size+1≠b:=λz=>by have:=aU g;rw[<-z] at this;exact absurd this (aBP.mpr (kG _))
  unfold oZ;refine aI _ (aI _ ?_);rw[dR _ _ nb];exact k2 b o g
 refine Calls.call_function_entry kind_sorted plain_sorted entry_sorted (args_sorted1 (.ref l)) ?_;unfold Builtin.«sorted»;refine AA (m:=checkCount "sorted" 1 1 _) (AB (AA (collect_list hl (AA (wpAny_newList ?_ (by rw[Ao];omega))) (by rw[Ao];omega))));show AK _ _ _ _ _ ⟨((s.heap.push (Ai "list" #[] 0)).update s.heap.objs.size (Obj.mapSeq (·++vs.toArray))).push (Ai "list" vs.toArray 0),s.gens,s.drawn,s.toks,s.os⟩;rw[hsz];refine AA (Af (AY slot_list_sort ⟨_,hoL,rfl⟩ entry_list_sort (xZ (κ:=κ) (rk:=rk) (s:=⟨_,s.gens,s.drawn,s.toks,s.os⟩) hoL nd hn (λh2 R q=>hkind ⟨oZ (((s.heap.push (Ai "list" #[] 0)).update s.heap.objs.size (Obj.mapSeq (·++vs.toArray))).push (Ai "list" vs.toArray 0)) (s.heap.objs.size+1) vs,s.gens,s.drawn,s.toks,s.os⟩ k6 h2 _ R _ ?_ q) (λx hx y hy R E' q=>hask ⟨oZ (((s.heap.push (Ai "list" #[] 0)).update s.heap.objs.size (Obj.mapSeq (·++vs.toArray))).push (Ai "list" vs.toArray 0)) (s.heap.objs.size+1) vs,s.gens,s.drawn,s.toks,s.os⟩ k6 x hx y hy _ R E' ?_ q) λout p1 p2=>⟨_,rfl,AB ⟨_,rfl,h out p1 p2⟩⟩) (args_list_sort _)))
 all_goals simp only[Around.in1];omega
theorem aJq{A:BM}{fin b:Bool}{Q:Bool->BK->Prop}{r:List (BJ×BJ)}(x:aFK A s fin r b):∀ {i:Nat},Q b s->KatLex prog w A false fin Q r i s:=by
 induction x with
 |nil=>intro i q;exact kat_nil q
 |eq he _ ih=>intro i q;exact kat_cons (SeqAt.EqAt.of_in1 he prog w _ _ (kat_yes (ih q)))
 |@lt x y r b he hl=>intro i q;refine kat_cons (SeqAt.EqAt.of_in1 he prog w _ _ (kat_no ?_));rw[qL];exact kat_one x y (wpAny_of_in1 (hl prog w _ _ q))
end
theorem xC{α β:Type}{G:α->β->Prop}:∀ {l:List α}{m:List β}{n:Nat}{a:α},Paired G l m->l[n]? =some a->∃b,m[n]? =some b/\G a b
 |_,_,_,_,.nil,h=>by simp at h
 |_,_,0,_,.cons r _,h=>by cases h;exact⟨_,rfl,r⟩
 |_,_,n+1,_,.cons _ t,h=>xC (n:=n) t (by simpa using h)
theorem sM{α β:Type}{G:α->β->Prop}:∀ {l:List α}{m:List β} (n:Nat),Paired G l m->Paired G (l.eraseIdx n) (m.eraseIdx n)
 |_,_,_,.nil=>.nil
 |_,_,0,.cons _ t=>t
 |_,_,n+1,.cons r t=>.cons r (sM n t)
section
variable {X:Cx}
def aNH(X:Cx):V->List V->Hp->VK->Prop:=λx vs H Q=>∃ (F:Hp) (l ad:BL) (k:List Key) (y:V) (n:Nat) (o:BO) (kvs:List (List Key×V)),x=.ref l/\vs=[.ref ad]/\Same F H/\H l=some (exO l o)/\F ad=some (.tup (k.map kV))/\X.A.units+1<AO/\
 TDo X.prog X.w F l o kvs/\kvs[n]? =some (k,y)/\(∀o',(∀v,o'.data≠ .cell v)->TDo X.prog X.w F l o' (kvs.eraseIdx n)->Q y (upd H l (exO l o')))
theorem aMK:MtR X "dict.pop" (aNH X):=by
 intro pins s σ H x vs v us Q I rx rv h;obtain⟨F,l,ad,k,y,n,o,kvs,rfl,rfl,sF,hl,ha,hu,⟨z,hm,ts,kt,es,ep,t1,t2,t3,t4⟩,hn,q1⟩:=h;obtain rfl:v=Value.ref l:=rx;obtain⟨u,rfl,ru⟩:=Vals.one rv;obtain rfl:u=Value.ref ad:=ru;have ho:s.heap.get? l=some o:=(I.hok l _ hl).1;have ktH:KT H kvs ts:=kt.keeps λb ys e=>sF _ _ e
 have dd:s.heap.DictOfH (AR (eO X.prog X.w)) l ts:=⟨o,es,ep,ho,t1,t2,t3,KT.all I.hok ktH,t4⟩;have hz:ts.length<=AL:=by rw[<-Paired.length kt];exact z
 obtain⟨⟨k',b,w'⟩,hj,e1,_,rw'⟩:=xC kt hn;have e1:k=k':=e1;subst e1;refine Av aAR dd.typeIs PySem.F.entry_dict_pop (PySem.F.args_dict_pop_2 _ _) (aCh (AR (eO X.prog X.w)) l ad) ⟨Aq hu,k,ts,n,(b,w'),oM I.hok (sF _ _ ha),dd,hz,hj,λh' dd' hsm=> ?_⟩;obtain⟨q,es',ep',hq,u2,u3,u4,_,u5⟩:=dd';have I4:=oO (t':=s.toks+(AR (eO X.prog X.w)).draws k) I (ob:=exO l q) (by rw[hl];exact True.intro) hsm ⟨q,hq⟩ (tW hq);exact⟨y,_,I4,rw',q1 q (λv z=>by rw[u3] at z;cases z) ⟨by have:=List.length_eraseIdx_le kvs n;omega,hm,_,sM n kt,es',ep',u2,u3,u4,u5⟩⟩
end
section
variable {X:Cx}{sd:List Slot}{e:Expr}{pos:Pos}{l:BL}{ls:List BL}{ks:List (List Key)}{dss:List (List D)}
theorem aJH(i:Nat){x:Str}{p p2:Pos}(hg:Gl X "len")(hm:X.mg "len"=none)(hs:sd[i]? =some (odG X.prog X.w X.K l ks ls dss))(hx:PE X (.Name x p2) (lG i))(hst:AG [.Name x p2] X.env=(false,eval (.Name x p2) X.env)::AG [] X.env:=by rfl):PEd X sd (.Call (.Name "len" p) [.Name x p2] [] pos) (.val (.int (ks.length:Nat))):=.mk λσ F H S=>
 (rX aFg hg hm PySem.boot_len (fX hx pa_nil hst) (by decide) (by decide) hst rfl).to (by
  obtain⟨hv,hF,⟨o,g1,nc,hl,z,sm,xs,kt,es,ep,t1,t2,t3,t4⟩,hI,nd⟩:=jL S hs;refine⟨.ref l,hv,l,o,es,ep,rfl,g1,t1,t2,sm, ?_,F,S,Same.refl _, ?_⟩
  ·have:=Az t3;have e2:=Paired.length kt;omega
  ·have:=Az t3;have e2:=Paired.length kt;have e3:(ks.zip (ls.map V.ref)).length=ks.length:=by rw[jO,aB,hl,mM]
   simp only[ResOk,Rep]
   rw[this,<-e2,e3])
end
theorem aDU{F:Hp}:∀ {kvs:List (List Key×V)}{xs:List (List Key×BL×BJ)},KT F kvs xs->Vals (xs.map λq=>V.ref q.2.1) (xs.map λq=>Value.ref q.2.1)
 |_,_,.nil=>.nil
 |_,_,.cons _ t=>.cons rfl (aDU t)
theorem aIk{K:aA}{F:Hp}:∀ {kvs:List (List Key×V)}{xs:List (List Key×BL×BJ)},KT F kvs xs->RepL K F ((kvs.map (·.1)).map oP) (xs.map λq=>V.ref q.2.1)
 |_,_,.nil=>.nil
 |_,_, @Paired.cons _ _ _ p q _ _ r t=>by refine .cons ?_ (aIk t);simp only[oP,Rep];refine⟨q.2.1,p.1.map kV,rfl,r.2.1, ?_⟩;exact rL _
section
variable {X:Cx}{sd:List Slot}{e:Expr}{pos:Pos}{l:BL}{ls:List BL}{ks:List (List Key)}{dss:List (List D)}
theorem aHn(i:Nat){x:Str}{p p2:Pos}(hg:Gl X "list")(hm:X.mg "list"=none)(hs:sd[i]? =some (odG X.prog X.w X.K l ks ls dss))(hx:PE X (.Name x p2) (lG i))(hc:X.calm=true:=by rfl)(hst:AG [.Name x p2] X.env=(false,eval (.Name x p2) X.env)::AG [] X.env:=by rfl):PEd X sd (.Call (.Name "list" p) [.Name x p2] [] pos) (.own (ks.map oP)):=.mk λσ F H S pins s I=>by
 obtain⟨hv,hF,⟨o,g1,nc,hl,z,sm,xs,kt,es,ep,t1,t2,t3,t4⟩,hI,nd⟩:=jL S hs;refine Ap (pK I hg hm PyProof.Rows.boot_list ?_);refine PyProof.Rows.callWith_type1 (thn ((fX hx pa_nil hst) pos pins s σ H (λus H1=>us=[.ref l]/\H1=H) I ⟨.ref l,hv,rfl,rfl⟩) λus s1 hus=> ?_) hst rfl;obtain⟨ws,H1,I1,rv,rfl,rfl⟩:=hus;obtain⟨u,rfl,ru⟩:=pO rv;cases(show u=Value.ref l from ru);have ez:es.size=xs.length:=Az t3
 have e3:(ks.zip (ls.map V.ref)).map (·.1)=ks:=by rw[List.map_fst_zip];rw[aB];omega
 have e2:xs.length=ks.length:=by have:=Paired.length kt;rw[jO,aB] at this;omega
 have ho:s1.heap.get? l=some o:=(I1.hok l _ g1).1;refine PySem.W.kdl_call (srcD sm t1 t2) (I1.ok.hd hc) ho (by have:=Paired.length kt;omega) λh' tk acc c' kp gl it=> ?_
 have al:acc=(xs.map λq=>Value.ref q.2.1).toArray:=by
  apply oV.mp;apply uJ;intro j
  by_cases hj:j<acc.toList.length
  ·have e4:acc.toList[j]? =some acc.toList[j]:=by simp[hj]
   obtain⟨u,q,ev⟩:=it.2 j acc.toList[j] (by rw[<-dW];exact e4);rw[e4,ev];rw[<-dW,t3,aQ] at q;obtain⟨y,hy,ey⟩:=eE.mp q;rw[<-ey];simp[hy,entryOfKey]
  ·have a1:acc.toList.length=es.size:=by rw[cC];exact it.1
   rw[gI (by omega),gI (by simp;omega)]
 subst al;have le2:s1.heap.objs.size<=s1.heap.objs.size:=aM _;have hD:H1 s1.heap.objs.size=none:=I1.hok.fresh le2
 have I4:Inv X pins σ (upd H1 s1.heap.objs.size (.lst (xs.map λq=>V.ref q.2.1))) {s1 with heap:=h',toks:=tk}:=
  I1.laid kp le2 ⟨by rw[aB];have:=Paired.length kt;omega,_,c',aDU kt,gl⟩
 obtain⟨S4,fp,no⟩:=S.layO (xs:=xs.map λq=>V.ref q.2.1) hD;refine⟨.ref s1.heap.objs.size,_,I4,rfl,F,S4,Same.refl _,_,_,rfl,fp,bV, ?_,no⟩;have:=aIk (K:=X.K) kt;rw[e3] at this;exact this
end
section
variable {X:Cx}{sd:List Slot}{e:Expr}{pos:Pos}
noncomputable def lB(ds:List D):Nat:=Ac (λi k=>dlt (ds.getD i .non) (ds.getD k .non)) (ds.length-1)
structure aIU(X:Cx)(ds:List D):Prop where
 ne:0<ds.length
 cmp:∀d∈ds,∀d2∈ds,sT d d2=true
 pl:∀d∈ds,pl d=true
 dep:∀d∈ds,X.A.units+1+dep d<AO
theorem aEF(hc:X.calm=true):lY X (.builtin "min") (λvs H Q=>∃ (a:BL) (xs:List V) (ds:List D),vs=[.ref a]/\SqL X.K H a xs/\RepL X.K H ds xs/\aIU X ds/\∀v,xs[lB ds]? =some v->Q v H):=by
 intro pins s σ H vs us Q I r h;obtain⟨a,xs,ds,rfl,ha,rl,M,q⟩:=h;obtain⟨u,rfl,rx⟩:=pO r;cases(show u=Value.ref a from rx);obtain⟨its,rv,p,hz⟩:=I.list ha;have hl:=rv.length;have hd:=rl.len;have isl:s.heap.IsList a its.toArray:=p.isList;have alt:a<s.heap.objs.size:=by obtain⟨o,ho,_⟩:=isl;exact aU ho
 refine aFk (BB isl ?_);refine⟨s.heap.objs.size,[s.heap.objs.size,a],[s.heap.objs.size],its.toArray.size,_,_,λh=>HOk X.prog X.w H h,λi k=>dlt (ds.getD i .non) (ds.getD k .non),rfl,Walks.list (A:=X.A.in1) (I.ok.hd hc) _ a (bO alt) its.toArray,⟨⟨_,bD _ rfl,rfl,rfl⟩,isl.push _⟩,λb hb=> ?_,by simp;have:=M.ne;omega, ?_, ?_, ?_,λv h' tk pv k=> ?_⟩
 ·rw[qM];simp only[aX,iU,or_false] at hb
  rcases hb with rfl|rfl
  ·exact lO _
  ·exact oD alt
 ·intro i k x y t Q' E' hJ hx hy q';have hx:its[i]? =some x:=by simpa using hx
  have hy:its[k]? =some y:=by simpa using hy
  have li:i<ds.length:=by have:=(aE.mp hx).1;omega
  have lk:k<ds.length:=by have:=(aE.mp hy).1;omega
  have ei:ds[i]? =some (ds.getD i .non):=by simp[cA,li]
  have ek:ds[k]? =some (ds.getD k .non):=by simp[cA,lk]
  obtain⟨v1,g1,r1⟩:=rl.get ei;obtain⟨v2,g2,r2⟩:=rl.get ek;obtain⟨u1,w1,z1⟩:=rv.get g1;obtain⟨u2,w2,z2⟩:=rv.get g2;rw[hx] at w1;rw[hy] at w2;cases w1;cases w2;have mi:=aO ei;have mk:=aO ek;exact aIo hJ (ds.getD i .non) (M.cmp _ mi _ mk) (M.pl _ mi) (M.pl _ mk) r1 r2 z1 z2 (by have:=M.dep _ mi;simp only[Around.in1];omega) X.prog X.w _ _ q'
 ·exact zZ (cs:=[]) I.hok (λb u _ g=>aI _ g) (λb hb=>by cases hb)
 ·intro h1 h2 j1 kp;refine zZ (cs:=[s.heap.objs.size+1,s.heap.objs.size]) j1 (λb u hb g=>kp b u (λz=>hb ?_) g) λb hb=> ?_
  ·rw[qM] at z;exact z
  ·simp only[aX,iU,or_false] at hb
   rcases hb with rfl|rfl
   ·exact I.hok.fresh (kG _)
   ·exact I.hok.fresh (aM _)
 ·have eb:Ac (λi k=>dlt (ds.getD i .non) (ds.getD k .non)) (its.toArray.size-1)=lB ds:=by unfold lB;rw[aS];congr 1;omega
  rw[eb] at pv;have pv:its[lB ds]? =some v:=by simpa using pv
  have lb:lB ds<xs.length:=by have:=(aE.mp pv).1;omega
  have ex:xs[lB ds]? =some xs[lB ds]:=by simp[lb]
  obtain⟨u,hu,ru⟩:=rv.get ex;rw[pv] at hu;cases hu;refine⟨xs[lB ds],H,I.kept (t':=tk) λb o g=>k b o (λz=> ?_) (aI _ g),ru,q _ ex⟩;have zb:b=s.heap.objs.size:=by simpa using z
  exact bO (aU g) zb
theorem aJs{p:Pos}{ds:List D}{d:D}(hg:Gl X "min")(hm:X.mg "min"=none)(ha:PEd X sd e (.bor ds))(M:aIU X ds)(hd:ds[lB ds]? =some d)(hc:X.calm=true:=by rfl)(hst:AG [e] X.env=(false,eval e X.env)::AG [] X.env:=by rfl):PEd X sd (.Call (.Name "min" p) [e] [] pos) (.val d):=
 mE (he:=hst) (aEF hc) hg hm boot_min (aD ha aR trivial hst) λσ F H vs Q S q k=>by
  cases q with
  |cons q1 q2=>cases q2;obtain⟨p,xs,rfl,hp,rl,_⟩:=q1;refine⟨p,xs,ds,rfl,.of hp,rl.mono S.sub,M,λv hv=>k v F H S (Same.refl _) ?_⟩;obtain⟨v',g,r'⟩:=rl.get hd;rw[hv] at g;cases g;exact r'
end
theorem yW{α β:Type}:∀ (a:List α) (b:List β) (n:Nat),a.length=b.length->(a.zip b).eraseIdx n=(a.eraseIdx n).zip (b.eraseIdx n)
 |[],[],_,_=>by simp
 |_::_,[],_,h=>by simp at h
 |[],_::_,_,h=>by simp at h
 |x::a,y::b,0,_=>rfl
 |x::a,y::b,n+1,h=>by show(x,y)::(a.zip b).eraseIdx n=(x,y)::(a.eraseIdx n).zip (b.eraseIdx n);rw[yW a b n (by simpa using h)]
theorem yX{α β:Type}(f:α->β):∀ (l:List α) (n:Nat),(l.eraseIdx n).map f=(l.map f).eraseIdx n
 |[],_=>by simp
 |_::_,0=>rfl
 |x::l,n+1=>by show f x::(l.eraseIdx n).map f=f x::(l.map f).eraseIdx n;rw[yX f l n]
theorem aFa{sd:List Slot}{j:Nat}{z:Slot}{a:BL}(h:sd[j]? =some z)(ha:a∈iN z):a∈cH sd:=dO.mpr ⟨z,aO h,ha⟩
section
variable {K:aA}{H₀ F F' H H':Hp}{σ:St}{sd:List Slot}{i:Nat}{l:BL}{ls:List BL}{dss:List (List D)}{P:AD}{w:AM}{ks:List (List Key)}
theorem StF.popG{o:BO}(n:Nat)(S:StF K H₀ F H σ sd)(hs:sd[i]? =some (odG P w K l ks ls dss))(nc:∀v,o.data≠ .cell v)(td:TDo P w F l o ((ks.zip (ls.map V.ref)).eraseIdx n)):
  StF K H₀ F (upd H l (exO l o)) σ (sd.set i (odG P w K l (ks.eraseIdx n) (ls.eraseIdx n) (dss.eraseIdx n))):=by
 obtain⟨g1,g2,⟨o',g3,nc',hl,_⟩,g4,g5⟩:=jL S hs;obtain⟨n1,n2⟩:=bG.mp g5
 have sb:∀b,b∈l::ls.eraseIdx n->b∈l::ls:=λb hb=>by
  rcases aX.mp hb with h|h
  ·exact h▸aH
  ·exact aF _ (kQ h)
 refine S.reX (z':=odG P w K l (ks.eraseIdx n) (ls.eraseIdx n) (dss.eraseIdx n)) hs g1 (λb ob hb q=> ?_) (nN S.smp l) (xH (λb hb=>g2 b (sb b hb)) bV nc ?_ ?_ ?_) ?_ λb hb=>.inl (sb b hb)
 ·rw[bK (show b≠l from λz=>hb (z▸aH))];exact q
 ·rw[lR,lR,hl]
 ·rw[yX,<-yW _ _ _ (by rw[aB];exact hl)];exact td
 ·refine InD.erase n (g4.mono2 (Same.refl _) λb hb ob q=> ?_);rw[bK (show b≠l from λz=>n1 (z▸hb))];exact q
 ·show(l::ls.eraseIdx n).Nodup;exact bG.mpr ⟨λh=>n1 (kQ h),n2.sublist (gJ _ _)⟩
end
open PySem.W (kat_lt kat_kind KatTups KatLex)
noncomputable abbrev Pr2:=List Int×List Int
noncomputable def p2D(x:Pr2):D:=.tup [bJ x.1,bJ x.2]
theorem aOl(x:Pr2):pl (p2D x)=true:=by show(pl (bJ x.1)&&(pl (bJ x.2)&&true))=true;rw[zX,zX];rfl
theorem sD:∀a b:List Int,rV (a.map D.int) (b.map D.int)=true
 |[],_=>rfl
 |_::_,[]=>rfl
 |x::a,y::b=>by show(true&&rV (a.map D.int) (b.map D.int))=true;rw[sD a b];rfl
theorem aLW(x y:Pr2):rV [bJ x.1,bJ x.2] [bJ y.1,bJ y.2]=true:=by show(rV (x.1.map D.int) (y.1.map D.int)&&(rV (x.2.map D.int) (y.2.map D.int)&&true))=true;rw[sD,sD];rfl
theorem aBo{K:aA}{F:Hp}{x:List Int}{v:V}(h:Rep K F (bJ x) v):∃c,v=.ref c/\F c=some (.tup (x.map V.int)):=by simp only[bJ,Rep] at h;obtain⟨c,ys,rfl,e,r⟩:=h;have:=(show RepL K F (x.map D.int) ys from r).ints;subst this;exact⟨c,rfl,e⟩
theorem aAA:∀ {x y:List Int},x.map V.int=y.map V.int->x=y
 |[],[],_=>rfl
 |[],_::_,h=>by cases h
 |_::_,[],h=>by cases h
 |a::x,b::y,h=>by
  rw[bC,bC] at h;injection h with h1 h2
  injection h1 with h1
  rw[h1,aAA h2]
theorem aIq{K:aA}{F:Hp}{x:Pr2}{v:V}(h:Rep K F (p2D x) v):∃a c d,v=.ref a/\F a=some (.tup [.ref c,.ref d])/\F c=some (.tup (x.1.map V.int))/\F d=some (.tup (x.2.map V.int)):=by simp only[p2D,Rep] at h;obtain⟨a,ys,rfl,e,r⟩:=h;obtain⟨v1,ys1,rfl,r1,t1⟩:=r.uncons;obtain⟨v2,ys2,rfl,r2,t2⟩:=t1.uncons;simp only[RepL] at t2;subst t2;obtain⟨c,rfl,f1⟩:=aBo r1;obtain⟨d,rfl,f2⟩:=aBo r2;exact⟨a,c,d,rfl,e,f1,f2⟩
theorem aBV{K:aA}{F:Hp}{x y:Pr2}{v:V}(h:Rep K F (p2D x) v)(g:Rep K F (p2D y) v):x=y:=by obtain⟨a,c,d,rfl,e,f1,f2⟩:=aIq h;obtain⟨a',c',d',ea,e',f1',f2'⟩:=aIq g;cases ea;rw[e] at e';cases e';rw[f1] at f1';rw[f2] at f2';have h1:=aAA (HO.tup.inj (cF.inj f1'));have h2:=aAA (HO.tup.inj (cF.inj f2'));exact Prod.ext h1 h2
structure SrtP(A:BM)(ps:List Pr2)(rk:Pr2->Nat):Prop where
 len:ps.length<=10000
 lt:∀x∈ps,∀y∈ps,dlt (p2D x) (p2D y)=decide (rk x<rk y)
 nd:(ps.map rk).Nodup
 un:A.units+8<AO
theorem aLP(x:Pr2):dep (p2D x)=2:=by show max (dep (bJ x.1)) (max (dep (bJ x.2)) 0)+1=2;rw[xB,xB];rfl
noncomputable def srE{α:Type}(hd:α->List D)(sn:α->D)(x:α):D:=.tup [.tup (hd x),sn x]
structure aNg{α:Type}(A:BM)(K:aA)(hd:α->List D)(sn:α->D)(ps:List α)(rk:α->Nat):Prop where
 len:ps.length<=10000
 lt:∀x∈ps,∀y∈ps,mJ [.tup (hd x),sn x] [.tup (hd y),sn y]=decide (rk x<rk y)
 nd:(ps.map rk).Nodup
 un:A.units+8<AO
 pl:∀x∈ps,plL [.tup (hd x),sn x]=true
 cm:∀x∈ps,∀y∈ps,rV [.tup (hd x),sn x] [.tup (hd y),sn y]=true
 dp:∀x∈ps,jP [.tup (hd x),sn x]<=4
 inj:∀ (F:Hp) (x y:α) (v:V),Rep K F (srE hd sn x) v->Rep K F (srE hd sn y) v->x=y
theorem aDM{K:aA}{F:Hp}{ds:List D}{v:V}(h:Rep K F (.tup ds) v):∃a,v=.ref a:=by simp only[Rep] at h;obtain⟨a,_,rfl,_⟩:=h;exact⟨a,rfl⟩
section
variable {X:Cx}{α:Type}{hd:α->List D}{sn:α->D}
theorem wZ:lY X (.builtin "sorted") (fun vs H Q=>∃ (a:BL) (xs:List V) (ps:List α) (rk:α→Nat),vs=[.ref a]∧H a=some (.lst xs)∧RepL X.K H (ps.map (srE hd sn)) xs∧aNg X.A X.K hd sn ps rk∧
  ∀ (D:BL) (ys:List V) (qs:List α),H D=none->qs.Perm ps->(qs.map rk).Pairwise (·<·)->(∀F,RepL X.K F (ps.map (srE hd sn)) xs->RepL X.K F (qs.map (srE hd sn)) ys)->Q (.ref D) (upd H D (.lst ys))):=by
 intro pins s σ H vs us Q I r h;obtain⟨a,xs,ps,rk,rfl,ha,rl,M,q⟩:=h;obtain⟨u,rfl,rx⟩:=pO r;cases(show u=Value.ref a from rx);obtain⟨z,its,n,rv,hl2,eo⟩:=I.lstM ha
 have tb:∀ {ps:List α}{xs:List V}{us:List BJ},RepL X.K H (ps.map (srE hd sn)) xs->Vals xs us->∃T:List (α×BL),us=(T.map λr=>Value.ref r.2)/\xs=(T.map λr=>V.ref r.2)/\ps=(T.map λr=>r.1)/\∀r∈T,Rep X.K H ((srE hd sn) r.1) (.ref r.2):=by
  intro ps
  induction ps with
  |nil=>intro xs us r rv;rw[eY] at r;simp only[RepL] at r;subst r;cases rv;exact⟨[],rfl,rfl,rfl,λr h=>(iU h).elim⟩
  |cons x ps ih=>
   intro xs us r rv;rw[bC] at r;obtain⟨v,xs,rfl,a,rl⟩:=r.uncons;cases rv with
   |cons ru rv=>
    obtain⟨T,e1,e2,e3,t1⟩:=ih rl rv;obtain⟨b,rfl⟩:=aDM a;cases ru;refine⟨(x,b)::T,by rw[bC,<-e1],by rw[bC,<-e2],by rw[bC,<-e3],λr hr=> ?_⟩
    rcases aX.mp hr with rfl|hr
    ·exact a
    ·exact t1 r hr
 obtain⟨T,rfl,rfl,rfl,tr⟩:=tb rl rv
 obtain⟨rkW,hrk⟩:∃rkW:BJ->Nat,∀r∈T,rkW (.ref r.2)=rk r.1:=by
  classical
  refine⟨λv=>if h:∃r∈T,v=Value.ref r.2 then rk h.choose.1 else 0,λr hr=> ?_⟩;have h:∃r'∈T,Value.ref r.2=Value.ref r'.2:=⟨r,hr,rfl⟩;show(if h:∃r'∈T,Value.ref r.2=Value.ref r'.2 then rk h.choose.1 else 0)=_;rw[dif_pos h]
  have e2:r.2=h.choose.2:=by have:=h.choose_spec.2;injection this
  have r2:=tr _ h.choose_spec.1;rw[<-e2] at r2;rw[M.inj _ _ _ _ r2 (tr r hr)]
 have mT:∀ {r:α×BL},r∈T->r.1∈T.map λr=>r.1:=λh=>List.mem_map_of_mem (f:=λr:α×BL=>r.1) h
 have lT:T.length<=10000:=by simpa using M.len
 have mv:∀x∈(T.map λr=>Value.ref r.2),∃r∈T,x=Value.ref r.2:=λx hx=>by obtain⟨r,hr,e⟩:=aN.mp hx;exact⟨r,hr,e.symm⟩
 have ew:∀T':List (α×BL),(∀r∈T',r∈T)->(T'.map λr=>Value.ref r.2).map rkW=(T'.map λr=>r.1).map rk:=λT' h=>by rw[bA,bA];exact bZ λr hr=>hrk r (h r hr)
 have hok':∀t:BK,(∀b o,s.heap.get? b=some o->t.heap.get? b=some o)->HOk X.prog X.w H t.heap:=λt k=>zZ (cs:=[]) I.hok (λb u _ g=>k b u g) λb hb=>(iU hb).elim
 refine aCx (l:=a) (vs:=T.map λr=>Value.ref r.2) (κ:=tuples' false) (rk:=rkW) ⟨_,eo,rfl,n,rfl⟩ (by rw[ew T λ_ h=>h];exact M.nd) (by rw[aB];exact lT) (λt kp h2 A' R E' _ hR=> ?_) (λt kp x hx y hy A' R E' hA hR=> ?_) λout p1 p2=> ?_
 ·have ok:=hok' t kp
  have kt:∀T':List (α×BL),(∀r∈T',r∈T)->∃fs:List BJ,KatTups t.heap (T'.map λr=>Value.ref r.2) fs/\fs.length=T'.length/\∀v∈fs,∃c o,v=.ref c/\t.heap.get? c=some o/\o.cls=.type "tuple":=λT'=>by
   induction T' with
   |nil=>exact λ_=>⟨[],.nil,rfl,λv hv=>(iU hv).elim⟩
   |cons r T' ih=>
    intro h;obtain⟨fs,k,l,i⟩:=ih λr hr=>h r (aF _ hr)
    have rr:=tr r (h r aH);obtain⟨b,ys,its,e1,e2,r2,v2,o,g,c,n',hd1⟩:=jR ok rr (show RelV (.ref r.2) (.ref r.2) from rfl);cases e1;cases e2;have r2:RepL X.K H [.tup (hd r.1),sn r.1] ys:=r2;obtain⟨w1,ys1,rfl,q1,t1⟩:=r2.uncons;obtain⟨w2,ys2,rfl,q2,t2⟩:=t1.uncons;simp only[RepL] at t2;subst t2;obtain⟨c1,rfl⟩:=aDM q1;cases v2 with
    |cons ru1 v2=>
     cases ru1;obtain⟨b1,ys1,its1,e3,e4,_,_,o1,g1,cc1,_⟩:=jR ok q1 (show RelV (.ref c1) (.ref c1) from rfl);cases e3;refine⟨.ref c1::fs,KatTups.cons g c hd1 (by simp) k,by rw[bS,bS,l],λv hv=> ?_⟩
     rcases aX.mp hv with rfl|hv
     ·cases e4;exact⟨_,o1,rfl,g1,cc1⟩
     ·exact i v hv
  obtain⟨fs,k,l,i⟩:=kt T λ_ h=>h
  rw[aB] at h2;refine kat_kind (T:=.type "tuple") k (by omega) (λv hv=> ?_) rfl hR;obtain⟨c,o,rfl,g,e⟩:=i v hv;have:PySem.W.Looks (AH X.prog X.w) t.heap (typeOf (.ref c)) o.cls:=(PySem.W.Looks.ld g).andThen .now;rw[e] at this;exact this
 ·have ok:=hok' t kp;obtain⟨rx,hrx,rfl⟩:=mv x hx;obtain⟨ry,hry,rfl⟩:=mv y hy;obtain⟨b,ys,its,e1,e2,r2,v2,o,g,c,n',hd1⟩:=jR ok (tr rx hrx) (show RelV (.ref rx.2) (.ref rx.2) from rfl);cases e1;cases e2;obtain⟨b',ys',its',e1,e2,r2',v2',o',g',c',n'',hd'⟩:=jR ok (tr ry hry) (show RelV (.ref ry.2) (.ref ry.2) from rfl);cases e1;cases e2;have r2:RepL X.K H [.tup (hd rx.1),sn rx.1] ys:=r2;have r2':RepL X.K H [.tup (hd ry.1),sn ry.1] ys':=r2';have l1:its.length=2:=by rw[<-v2.length,r2.len];rfl
  have l2:its'.length=2:=by rw[<-v2'.length,r2'.len];rfl
  refine kat_lt g hd1 g' hd' (aJq (A:=A') (b:=mJ [.tup (hd rx.1),sn rx.1] [.tup (hd ry.1),sn ry.1]) ?_ ?_)
  ·refine aCM ok [.tup (hd rx.1),sn rx.1] (es:=[.tup (hd ry.1),sn ry.1]) ?_ ?_ ?_ r2 r2' v2 v2' ?_ (by simp[l1,l2])
   ·exact M.cm _ (mT hrx) _ (mT hry)
   ·exact M.pl _ (mT hrx)
   ·exact M.pl _ (mT hry)
   ·have:=M.un;have:=M.dp _ (mT hrx);omega
  ·have e:mJ [.tup (hd rx.1),sn rx.1] [.tup (hd ry.1),sn ry.1]=decide (rkW (.ref rx.2)<rkW (.ref ry.2)):=by rw[hrk rx hrx,hrk ry hry];exact M.lt _ (mT hrx) _ (mT hry)
   rw[e];exact hR
 ·obtain⟨T',q1,q2⟩:=aAa (f:=λr:α×BL=>Value.ref r.2) (l:=T) (l':=out.toList) p1
  have eo2:out=(T'.map λr=>Value.ref r.2).toArray:=by apply oV.mp;rw[q2]
  rw[q2,ew T' λr hr=>q1.mem_iff.mp hr] at p2;subst eo2;obtain⟨kp,n2,g2⟩:=aGk s.heap (T.map λr=>Value.ref r.2) (T'.map λr=>Value.ref r.2).toArray;have hD:H (s.heap.objs.size+1)=none:=I.hok.fresh (kG _);have lT':T'.length=T.length:=q1.length_eq
  have vv:Vals (T'.map λr=>V.ref r.2) (T'.map λr=>Value.ref r.2):=by
   generalize T'=U
   induction U with
   |nil=>exact .nil
   |cons r U ih=>exact .cons rfl ih
  have I3:Inv X pins σ (upd H (s.heap.objs.size+1) (.lst (T'.map λr=>V.ref r.2))) {s with heap:=sortedAll s.heap (T.map λr=>Value.ref r.2) (T'.map λr=>Value.ref r.2).toArray}:=
   I.laid (t':=s.toks) kp (kG _) ⟨by rw[Ao,aB];omega,_,n2,vv,by simpa[Ai] using g2⟩
  refine⟨.ref (s.heap.objs.size+1),_,I3,rfl,q _ (T'.map λr=>V.ref r.2) (T'.map λr=>r.1) hD (q1.map _) p2 λF rF=> ?_⟩
  have all:∀ {U:List (α×BL)},RepL X.K F ((U.map λr=>r.1).map (srE hd sn)) (U.map λr=>V.ref r.2)->∀r∈U,Rep X.K F ((srE hd sn) r.1) (.ref r.2):=λ{U}=>by
   induction U with
   |nil=>exact λ_ r hr=>(iU hr).elim
   |cons y U ih=>
    intro h r hr;rw[bC,bC,bC] at h;obtain⟨v,vs,e,a1,a2⟩:=h.uncons;cases e
    rcases aX.mp hr with rfl|hr
    ·exact a1
    ·exact ih a2 r hr
  have aT:=all rF;have rT:∀r∈T',Rep X.K F ((srE hd sn) r.1) (.ref r.2):=λr hr=>aT r (q1.mem_iff.mp hr)
  clear vv I3 g2 p2 q1 q2 p1 lT' kp
  induction T' with
  |nil=>exact .nil
  |cons r U ih=>exact .cons (rT r aH) (ih λq hq=>rT q (aF _ hq))
end
theorem SrtP.gen{A:BM}{K:aA}{ps:List Pr2}{rk:Pr2→Nat}(M:SrtP A ps rk):aNg A K (fun x:Pr2=>x.1.map D.int) (fun x=>bJ x.2) ps rk:=⟨M.len,M.lt,M.nd,M.un,fun x _=>aOl x,fun x _ y _=>aLW x y,fun x _=>by
 have:=aLP x;have:jP [bJ x.1,bJ x.2]+1=2:=this;show jP [bJ x.1,bJ x.2]<=4
 omega,λF x y v h1 h2=>aBV h1 h2⟩
section
variable {X:Cx}
theorem aCm:lY X (.builtin "sorted") (fun vs H Q=>∃ (a:BL) (xs:List V) (ps:List Pr2) (rk:Pr2→Nat),vs=[.ref a]∧H a=some (.lst xs)∧RepL X.K H (ps.map p2D) xs∧SrtP X.A ps rk∧
  ∀ (D:BL) (ys:List V) (qs:List Pr2),H D=none->qs.Perm ps->(qs.map rk).Pairwise (·<·)->(∀F,RepL X.K F (ps.map p2D) xs->RepL X.K F (qs.map p2D) ys)->Q (.ref D) (upd H D (.lst ys))):=by
 intro pins s σ H vs us Q I r h;obtain⟨a,xs,ps,rk,h1,h2,h3,M,q⟩:=h;exact wZ pins s σ H vs us Q I r ⟨a,xs,ps,rk,h1,h2,h3,M.gen,q⟩
end
section
variable {X:Cx}{sd:List Slot}{b:Expr}{pos:Pos}{ks:List (List Key)}{k:List Key}{E:kR}{l:BL}{ls:List BL}{dss:List (List D)}{ps:List Pr2}{rk:Pr2->Nat}
theorem aGb(i j n:Nat){x y:Str}{px py p ap cp p2:Pos}(hu:X.A.units+1<AO)(hg:Gl X "sorted")(hm:X.mg "sorted"=none)(hs:sd[i]? =some (odG X.prog X.w X.K l ks ls dss))(hx:PE X (.Name x px) (lG i))(hb:PEd X sd b (.val (.tup (k.map kD))))(hk:ks[n]? =some k)(hd:dss[n]? =some (ps.map p2D))(M:SrtP X.A ps rk)
  (hN:X.N.Nodup) (hj:X.N[j]? =some y) (hy:Loc X.env.scope y)
  (hE:∀ (l':BL) (qs:List Pr2),qs.Perm ps->(qs.map rk).Pairwise (·<·)->E.nx ((sd.set i (odG X.prog X.w X.K l (ks.eraseIdx n) (ls.eraseIdx n) (dss.eraseIdx n))).set j (.own l' (qs.map p2D))))
  (hpop:PE X (.Call (.Attribute (.Name x px) "pop" ap) [b] [] cp) (λσ H Q=>lG i σ H λv H1=>(∃l ob,v=.ref l/\H1 l=some (exO l ob)/\ob.ExactDict)/\(lD (wE X b) uA) σ H1 λxs H2=>aNH X v xs H2 Q):=by exact aIK gT aAR PySem.F.type_dict_pop aMK (pv _) (fX fW pa_nil))
  (hst:AG [.Call (.Attribute (.Name x px) "pop" ap) [b] [] cp] X.env=(false,eval (.Call (.Attribute (.Name x px) "pop" ap) [b] [] cp) X.env)::AG [] X.env:=by rfl)
  (hsw:Ad (.Call (.Name "sorted" p) [.Call (.Attribute (.Name x px) "pop" ap) [b] [] cp] [] p2) (some (.Name y py)) pos.line X.env=pure false:=by rfl)
  (hf:X.fn y=true\/X.env.scope.names.lookup y=some .local:=by first|exact .inl rfl|exact .inr rfl|assumption):
  PSd1 X sd (.Assign [.Name y py] (.Call (.Name "sorted" p) [.Call (.Attribute (.Name x px) "pop" ap) [b] [] cp] [] p2) pos) E:=.mk λσ F H S=>
 (qR hN hj hy (rX aCm hg hm boot_sorted (fX hpop pa_nil hst) (by decide) (by decide) hst rfl) hsw hf).to (by
  obtain⟨h1,h2,⟨o,h3,nc,hk2,td⟩,h4,h5⟩:=jL S hs;refine⟨.ref l,h1,⟨l,o,rfl,h3,td.2.2.choose_spec.2.choose_spec.choose_spec.1⟩,(hb σ F H S).imp λv1 H1 ⟨F1,S1,s1,q1⟩=> ?_⟩;obtain⟨g1,g2,⟨o2,g3,nc2,hk3,td2⟩,g4,g5⟩:=jL S1 hs;obtain⟨n1,n2⟩:=bG.mp g5;simp only[ResOk,Rep] at q1;obtain⟨ad,ys,rfl,ha,rl⟩:=q1;rw[pD rl] at ha;have nl:n<ls.length:=by have:=(aE.mp hk).1;omega
  have e3:ls[n]? =some ls[n]:=by simp[nl]
  generalize ls[n]=an at e3;obtain⟨ds,xs,d1,d2,d3⟩:=g4.get e3;rw[hd] at d1;cases d1;have anl:an≠l:=λz=>n1 (z▸aO e3)
  have zg:(ks.zip (ls.map V.ref))[n]? =some (k,V.ref an):=by rw[kK];exact⟨hk,by rw[aQ,e3];rfl⟩
  refine⟨F1,l,ad,k,.ref an,n,o2,ks.zip (ls.map V.ref),rfl,rfl,S1.sub,g3,ha,hu,td2,zg,λo' nc' td'=> ?_⟩;have S2:=S1.popG n hs nc' td';refine⟨an,xs,ps,rk,rfl,by rw[bK anl];exact d2,d3.mono S2.sub,M,λD ys qs hD pm pw hr=> ?_⟩;obtain⟨S3,fp,no⟩:=S2.layO (xs:=ys) hD
  exact⟨_,F1,S3.setO j fp bV (hr F1 d3) no,s1,hE D qs pm pw⟩)
end
theorem InD.snocL{K:aA}{F H:Hp}{a:BL}{ds:List D}{xs:List V}:∀ {as:List BL}{dss:List (List D)},InD K F H as dss->H a=some (.lst xs)->RepL K F ds xs->InD K F H (as++[a]) (dss++[ds])
 |[],[],_,e,r=>⟨⟨xs,e,r⟩,trivial⟩
 |[],_::_,h,_,_=>h.elim
 |_::_,[],h,_,_=>h.elim
 |_::_,_::_,h,e,r=>⟨h.1,InD.snocL h.2 e r⟩
section
variable {K:aA}{H₀ F F' H H':Hp}{σ:St}{sd:List Slot}{i:Nat}{l:BL}{ls:List BL}{dss:List (List D)}{P:AD}{w:AM}{ks:List (List Key)}
theorem StF.newW{a:BL}{o:BO}{k:List Key}{ds:List D}{xs:List V}(S:StF K H₀ F H σ sd)(hs:sd[i]? =some (odG P w K l ks ls dss))(fa:F a=none)(ha:H a=some (.lst xs))(rl:RepL K F ds xs)(na:a∉cH sd)(nc:∀v,o.data≠ .cell v)(td:TDo P w F l o (ks.zip (ls.map V.ref)++[(k,.ref a)])):
  StF K H₀ F (upd H l (exO l o)) σ (sd.set i (odG P w K l (ks++[k]) (ls++[a]) (dss++[ds]))):=by
 obtain⟨g1,g2,⟨o',g3,nc',hl,_⟩,g4,g5⟩:=jL S hs;obtain⟨n1,n2⟩:=bG.mp g5;have ml:∀b∈l::ls,b∈cH sd:=λb hb=>aFa hs hb
 have al:a≠l:=λz=>na (z▸ml l aH)
 have als:a∉ls:=λz=>na (ml a (aF _ z))
 have sp:∀b,b∈l::(ls++[a])->b∈l::ls\/b=a:=λb hb=>by
  rcases aX.mp hb with h|h
  ·exact .inl (h▸aH)
  ·rcases aY.mp h with h|h
   ·exact .inl (aF _ h)
   ·exact .inr (aG.mp h)
 refine S.reX (z':=odG P w K l (ks++[k]) (ls++[a]) (dss++[ds])) hs g1 (λb ob hb q=> ?_) (nN S.smp l) (xH (λb hb=> ?_) bV nc (by rw[aP,aP,hl];rfl) ?_ ?_) ?_ λb hb=> ?_
 ·rw[bK (show b≠l from λz=>hb (z▸aH))];exact q
 ·rcases sp b hb with h|rfl
  ·exact g2 b h
  ·exact fa
 ·rw[aW,bC,eY,tZ (by rw[aB];exact hl)];exact td
 ·refine InD.snocL (g4.mono2 (Same.refl _) λb hb ob q=> ?_) ?_ rl
  ·rw[bK (show b≠l from λz=>n1 (z▸hb))];exact q
  ·rw[bK al];exact ha
 ·show(l::(ls++[a])).Nodup;refine bG.mpr ⟨λh=> ?_,bF.mpr ⟨n2,by simp,λb hb c hc e=>als (aG.mp hc▸e▸hb)⟩⟩
  rcases aY.mp h with h|h
  ·exact n1 h
  ·exact al (aG.mp h).symm
 ·rcases sp b hb with h|rfl
  ·exact .inl h
  ·exact .inr na
end
section
variable {X:Cx}{sd:List Slot}{e:Expr}{pos:Pos}{ks:List (List Key)}{E:kR}{l:BL}{ls:List BL}{dss:List (List D)}{ds:List D}
theorem aGV(i:Nat){x:Str}{p p2 q1 q2 tp:Pos}{c c':Int}{j1 j2 x1:Nat}(hu:X.A.units+1<AO)(hs:sd[i]? =some (odG X.prog X.w X.K l ks ls dss))(hx:PE X (.Name x p) (lG i))(h:PEd X sd e (.own ds))(hk:([Sum.inl c,Sum.inl c']:List Key)∉ks)(hl:dss.length<=1000)
  (hE:∀a,E.nx (sd.set i (odG X.prog X.w X.K l (ks++[[Sum.inl c,Sum.inl c']]) (ls++[a]) (dss++[ds]))))
  (hb:PE X (.Tuple [.Constant (.int c) j1 q1, .Constant (.int c') j2 q2] x1 tp) (aOO (lD (tC (.int c)) (lD (tC (.int c')) uA))):=by exact aHP (fX pe_int (fX pe_int pa_nil)))
  (hsw:Ad e (some (.Subscript (.Name x p) (.Tuple [.Constant (.int c) j1 q1, .Constant (.int c') j2 q2] x1 tp) p2)) pos.line X.env=pure false:=by rfl):PSd1 X sd (.Assign [.Subscript (.Name x p) (.Tuple [.Constant (.int c) j1 q1, .Constant (.int c') j2 q2] x1 tp) p2] e pos) E:=.mk λσ F H S pins s I=>by
 refine wpAny_Assign_Subscript (thn (h σ F H S pins s I) λr s1 ⟨v,H1,I1,rv,F1,S1,sF1,q1⟩=> ?_) hsw;obtain⟨a,xs,rfl,fa,ha,rl,na⟩:=q1;obtain rfl:r=Value.ref a:=rv;obtain⟨h1,_⟩:=jL S1 hs;refine thn (hx pins s1 σ H1 (λv H2=>v=.ref l/\H2=H1) I1 ⟨.ref l,h1,rfl,rfl⟩) λu s2 ⟨y,H2,I2,ry,e1,e2⟩=> ?_
 subst e1 e2;obtain rfl:u=Value.ref l:=ry;refine thn (hb pins s2 σ H2 (λv H3=>∃ad,v=.ref ad/\H2 ad=none/\H3=upd H2 ad (.tup [.int c,.int c'])) I2 ⟨by show 2<=AL;decide,λad had=>⟨ad,rfl,had,rfl⟩⟩) λiv s3 ⟨y,H3,I3,ry,ad,e1,fad,e3⟩=> ?_
 subst e1 e3;obtain rfl:iv=Value.ref ad:=ry;obtain⟨S3,sF3⟩:=S1.lay (o:=.tup [.int c,.int c']) fad trivial;have ada:a≠ad:=λz=>by rw[z,fad] at ha;cases ha
 have fa3:upd F1 ad (.tup [.int c,.int c']) a=none:=by rw[bK ada];exact fa
 have ha3:upd H2 ad (.tup [.int c,.int c']) a=some (.lst xs):=by rw[bK ada];exact ha
 obtain⟨g1,g2,⟨o,g3,nc,hkl,z,hm,ts,kt,es,ep,t1,t2,t3,t4⟩,g4,g5⟩:=jL S3 hs;have had:upd F1 ad (.tup [.int c,.int c']) ad=some (.tup (([Sum.inl c,Sum.inl c']:List Key).map kV)):=bV;have ho:s3.heap.get? l=some o:=(I3.hok l _ g3).1;have ktH:=kt.keeps λb ys e=>S3.sub _ _ e
 have dd:s3.heap.DictOfH (AR (eO X.prog X.w)) l ts:=⟨o,es,ep,ho,t1,t2,t3,KT.all I3.hok ktH,t4⟩;have hz:ts.length<=AL:=by rw[<-Paired.length kt];exact z
 have zl:(ks.zip (ls.map V.ref)).length=dss.length:=by rw[jO,aB,<-hkl,mM,hkl,g4.len]
 have vn:gO (ks.zip (ls.map V.ref)) [Sum.inl c,Sum.inl c']=none:=zM hk λ_ z=>z
 have hl2:(sE (ks.zip (ls.map V.ref)) [Sum.inl c,Sum.inl c'] (.ref a)).length<=AL:=by rw[pN _ vn,aP,zl];have:=hV hl;show dss.length+1<=AL;omega
 refine wpAny_setItem_heap (hsz:=hz) (Aq hu) (oM I3.hok (S3.sub _ _ had)) dd λh' dd' hsm=> ?_
 obtain⟨q,es',ep',hq,u2,u3,u4,_,u5⟩:=dd';have I4:=oO (t':=s3.toks+(AR (eO X.prog X.w)).draws [Sum.inl c,Sum.inl c']) I3 (ob:=exO l q) (by rw[g3];exact True.intro) hsm ⟨q,hq⟩ (tW hq);have kt':=kt.put [Sum.inl c,Sum.inl c'] had (show RelV (.ref a) (.ref a) from rfl);rw[pN _ vn] at kt' hl2;exact⟨σ,_,I4,_,_,S3.newW (o:=q) (k:=[Sum.inl c,Sum.inl c']) hs fa3 ha3 (rl.mono sF3) na (λv z=>by rw[u3] at z;cases z) ⟨hl2,hm,_,kt',es',ep',u2,u3,u4,u5⟩,sF1.trans sF3,hE a⟩
end
noncomputable def rkK(r:Int×Int):List Key:=[Sum.inl r.1,Sum.inl r.2]
theorem aJu{a b:Int×Int}(h:rkK a=rkK b):a=b:=by
 unfold rkK at h;injection h with h1 h2
 injection h2 with h2 _
 injection h1 with h1
 injection h2 with h2
 exact Prod.ext h1 h2
noncomputable abbrev WtT:=List ((Int×Int)×List Pr2)
structure Wt where
 l:BL
 ls:List BL
 T:WtT
noncomputable def wtK(T:WtT):List (List Key):=T.map λt=>rkK t.1
noncomputable def wtD(T:WtT):List (List D):=T.map λt=>t.2.map p2D
noncomputable def wtS(P:AD)(w:AM)(K:aA)(a:Wt):Slot:=odG P w K a.l (wtK a.T) a.ls (wtD a.T)
noncomputable def wtL(P:AD)(w:AM)(K:aA):Lent K:=⟨Wt,Wt.l,λa=>a.l::a.ls,λa=>Gg P w K a.l (wtK a.T) a.ls (wtD a.T),λh=>h.1⟩
theorem aHi(P:AD)(w:AM)(K:aA)(a:Wt)(v:V)(F H:Hp)(b:BL)(o:HO)(h:(wtL P w K).G a v F H)(hb:b∈(wtL P w K).own a)(e:H b=some o):¬ aFL o:=by
 obtain⟨_,⟨ob,g,_⟩,hI⟩:=h
 rcases aX.mp (show b∈a.l::a.ls from hb) with rfl|hb
 ·rw[g] at e;cases e;exact λz=>z
 ·obtain⟨xs,g2⟩:=InD.of hI b hb;rw[g2] at e;cases e;exact λz=>z
noncomputable def kZ:WtT->Int×Int->Pr2->WtT
 |[],r,x=>[(r,[x])]
 |t::T,r,x=>if t.1=r then(t.1,t.2++[x])::T else t::kZ T r x
theorem wN{r:Int×Int}(x:Pr2):∀ {T:WtT},rkK r∉wtK T->kZ T r x=T++[(r,[x])]
 |[],_=>rfl
 |t::T,h=>by
  have h1:t.1≠r:=λe=>h (by unfold wtK;rw[bC,e];exact aH)
  show(if t.1=r then _ else t::kZ T r x)=_;rw[if_neg h1,wN x (T:=T) λz=>h (aF _ z)];rfl
theorem xP{r:Int×Int}(x:Pr2):∀ {T:WtT}{n:Nat}{ds:List D},(wtK T).Nodup->(wtK T)[n]? =some (rkK r)->(wtD T)[n]? =some ds->wtK (kZ T r x)=wtK T/\wtD (kZ T r x)=(wtD T).set n (ds++[p2D x])
 |[],n,ds,_,h,_=>by simp[wtK] at h
 |t::T,0,ds,nd,h,hd=>by
  have e:t.1=r:=aJu (by simpa[wtK] using h);have e2:t.2.map p2D=ds:=by simpa[wtD] using hd
  have ea:kZ (t::T) r x=(t.1,t.2++[x])::T:=if_pos e;rw[ea];refine⟨rfl, ?_⟩;show((t.2++[x]).map p2D)::wtD T=((t.2.map p2D)::wtD T).set 0 _;rw[aW,e2];rfl
 |t::T,n+1,ds,nd,h,hd=>by
  have nd':=bG.mp (show(rkK t.1::wtK T).Nodup from nd);have h':(wtK T)[n]? =some (rkK r):=by simpa[wtK] using h
  have hd':(wtD T)[n]? =some ds:=by simpa[wtD] using hd
  have ne:t.1≠r:=λe=>nd'.1 (e▸aO h')
  have ea:kZ (t::T) r x=t::kZ T r x:=if_neg ne;obtain⟨k1,k2⟩:=xP x nd'.2 h' hd';rw[ea];refine⟨by show rkK t.1::wtK (kZ T r x)=rkK t.1::wtK T;rw[k1], ?_⟩;show t.2.map p2D::wtD (kZ T r x)=(t.2.map p2D::wtD T).set (n+1) _;rw[k2];rfl
theorem aJl{r:Int×Int}(x:Pr2){T:WtT}(nd:(wtK T).Nodup):(wtK (kZ T r x)).Nodup:=by
 by_cases h:rkK r∈wtK T
 ·obtain⟨n,hn⟩:=cW h
  have ln:n<T.length:=by have:=(aE.mp hn).1;simpa[wtK] using this
  obtain⟨ds,hd⟩:∃ds,(wtD T)[n]? =some ds:=⟨_,by unfold wtD;rw[aQ,eW ln];rfl⟩;rw[(xP x nd hn hd).1];exact nd
 ·rw[wN x h];unfold wtK;rw[aW];refine bF.mpr ⟨nd,by simp,λa ha b hb e=>h ?_⟩;have q:b=rkK r:=by simpa using hb
  rw[<-q,<-e];exact ha
noncomputable def tot(T:WtT):Nat:=(T.map λt=>t.2.length+1).sum
theorem aDZ(r:Int×Int)(x:Pr2):∀T:WtT,tot (kZ T r x)<=tot T+2
 |[]=>by simp[tot,kZ]
 |t::T=>by
  have ih:=aDZ r x T;show tot (if t.1=r then(t.1,t.2++[x])::T else t::kZ T r x)<=_
  split
  ·simp[tot];omega
  ·simp[tot] at ih ⊢;omega
theorem aJz(T:WtT):T.length<=tot T:=by
 induction T with
 |nil=>exact aM _
 |cons t T ih=>simp[tot] at ih ⊢;omega
theorem aJZ{T:WtT}:∀ds∈wtD T,ds.length<=tot T:=by
 induction T with
 |nil=>exact λds h=>(iU h).elim
 |cons t T ih=>
  intro ds h
  rcases aX.mp (show ds∈t.2.map p2D::wtD T from h) with rfl|h
  ·rw[aB];simp[tot];omega
  ·have:=ih ds h;simp[tot] at this ⊢;omega
noncomputable def nP(x:List Nat×List Nat):Pr2:=(x.1.map λ(i:Nat)=>(i:Int),x.2.map λ(i:Nat)=>(i:Int))
theorem aNz(x:List Nat×List Nat):p2D (nP x)=.tup [.tup (bM x.1),.tup (bM x.2)]:=by unfold p2D nP bJ bM;rw[bA,bA];rfl
noncomputable def lgQ(p:Int×Int)(L:List SK)(b:Int)(r:Int×Int)(row nb:List Nat):Nat->WtT->WtT
 |0,T=>T
 |t+1,T=>if r.1+(L.getD t AN).2<=b then kZ (lgQ p L b r row nb t T) (r.1+(L.getD t AN).2,r.2+1) (nP (row++[t],gR (gX p (L.getD t AN).1) nb)) else lgQ p L b r row nb t T
theorem aFR{p:Int×Int}{L:List SK}{b:Int}{r:Int×Int}{row nb:List Nat}{T:WtT}(nd:(wtK T).Nodup):∀t,(wtK (lgQ p L b r row nb t T)).Nodup
 |0=>nd
 |t+1=>by
  unfold lgQ
  split
  ·exact aJl _ (aFR nd t)
  ·exact aFR nd t
theorem aHK{p:Int×Int}{L:List SK}{b:Int}{r:Int×Int}{row nb:List Nat}{T:WtT}:∀t,tot (lgQ p L b r row nb t T)<=tot T+2*t
 |0=>aM _
 |t+1=>by
  have ih:=aHK (p:=p) (L:=L) (b:=b) (r:=r) (row:=row) (nb:=nb) (T:=T) t;unfold lgQ
  split
  ·have:=aDZ (r.1+(L.getD t AN).2,r.2+1) (nP (row++[t],gR (gX p (L.getD t AN).1) nb)) (lgQ p L b r row nb t T);omega
  ·omega
def aOF(a:Wt)(ds:List D)(post:Wt->Prop):Prop:=∃p L b r row nb,p∈cJ/\L.length<=100/\NOk p nb/\row.length<=400/\(wtK a.T).Nodup/\tot a.T+2*L.length<=900/\ds=[.lst (L.map (mvD p)),.int b,.tup [.int r.1,.int r.2],.tup (bM row),.tup (bM nb)]/\post=λa'=>a'.l=a.l/\a'.T=lgQ p L b r row nb L.length a.T
noncomputable def unP(y:Pr2):List Nat×List Nat:=(y.1.map rH,y.2.map rH)
theorem aDb(x:List Nat×List Nat):unP (nP x)=x:=by
 have g:∀l:List Nat,(l.map λ(i:Nat)=>(i:Int)).map rH=l:=λl=>by rw[bA];exact(bZ λi _=>fE i).trans (nY l)
 unfold unP nP;exact Prod.ext (g x.1) (g x.2)
structure FdS where
 T:WtT
 kn:List (List Nat)
 fd:List (Int×List Nat×List Nat)
noncomputable def fdI(p:Int×Int)(L:List SK)(b:Int)(r:Int×Int)(S:FdS)(x:List Nat×List Nat):FdS:=if x.2∈S.kn then S else⟨lgQ p L b r x.1 x.2 L.length S.T,S.kn++[x.2],S.fd++[(r.1,x.1,x.2)]⟩
noncomputable def fdP(p:Int×Int)(L:List SK)(b:Int)(r:Int×Int)(S:FdS)(xs:List Pr2):FdS:=xs.foldl (λS y=>fdI p L b r S (unP y)) S
theorem wQ(p:Int×Int)(L:List SK)(b:Int)(r:Int×Int)(S:FdS)(xs:List Pr2)(y:Pr2):fdP p L b r S (xs++[y])=fdI p L b r (fdP p L b r S xs) (unP y):=by unfold fdP;rw[jU];rfl
structure aND(S:FdS):Prop where
 nk:(wtK S.T).Nodup
 kn:S.kn=S.fd.map λe=>e.2.2
 nd:S.kn.Nodup
theorem aMD{p:Int×Int}{L:List SK}{b:Int}{r:Int×Int}{S:FdS}(h:aND S)(x:List Nat×List Nat):aND (fdI p L b r S x):=by
 unfold fdI
 split
 ·exact h
 ·rename_i q;refine⟨aFR h.nk _, ?_,bF.mpr ⟨h.nd,by simp,λa ha c hc e=>q ?_⟩⟩
  ·show S.kn++[x.2]=(S.fd++[(r.1,x.1,x.2)]).map _;rw[aW,<-h.kn];rfl
  ·have hc:c=x.2:=by simpa using hc
   rw[<-hc,<-e];exact ha
def rlt(r s:Int×Int):Prop:=r.1<s.1\/(r.1=s.1/\r.2<s.2)
instance (r s:Int×Int):Decidable (rlt r s):=inferInstanceAs (Decidable (_\/_))
noncomputable def rkD(r:Int×Int):D:=.tup [.int r.1,.int r.2]
theorem aHX(r s:Int×Int):dlt (rkD r) (rkD s)=decide (rlt r s):=by
 have e:dlt (rkD r) (rkD s)=(if deq (.int r.1) (.int s.1)=true then(if deq (.int r.2) (.int s.2)=true then false else decide (r.2<s.2)) else decide (r.1<s.1)):=rfl;have d:∀a b:Int,deq (.int a) (.int b)=decide (a=b):=λa b=>rfl
 rw[e,d,d];unfold rlt
 by_cases h1:r.1=s.1
 ·by_cases h2:r.2=s.2
  ·simp[h1,h2]
  ·simp[h1,h2]
 ·have:¬ (r.1=s.1/\r.2<s.2):=λz=>h1 z.1
  simp[h1]
theorem uW(bt:Nat->Nat->Bool):∀k,Ac bt k<=k
 |0=>aM _
 |k+1=>by
  show(if bt (k+1) (Ac bt k)=true then k+1 else Ac bt k)<=k+1
  split
  ·exact aM _
  ·exact Nat.le_succ_of_le (uW bt k)
theorem wM(rs:List (Int×Int)):∀k,k<rs.length->∀j,j<=k->¬ rlt (rs.getD j (0,0)) (rs.getD (Ac (λi k=>decide (rlt (rs.getD i (0,0)) (rs.getD k (0,0)))) k) (0,0))
 |0,_,j,hj=>by
  have:j=0:=by omega
  subst this;show ¬ rlt _ (rs.getD 0 (0,0));unfold rlt;omega
 |k+1,hk,j,hj=>by
  have ih:=wM rs k (by omega);generalize hb:Ac (λi k=>decide (rlt (rs.getD i (0,0)) (rs.getD k (0,0)))) k=bk at ih
  have e:Ac (λi k=>decide (rlt (rs.getD i (0,0)) (rs.getD k (0,0)))) (k+1)=if decide (rlt (rs.getD (k+1) (0,0)) (rs.getD bk (0,0)))=true then k+1 else bk:=by rw[<-hb];rfl
  rw[e]
  by_cases q:rlt (rs.getD (k+1) (0,0)) (rs.getD bk (0,0))
  ·rw[if_pos (decide_eq_true q)]
   by_cases hjk:j=k+1
   ·subst hjk;unfold rlt;omega
   ·have:=ih j (by omega);unfold rlt at *;omega
  ·rw[if_neg (by rw[decide_eq_false q];decide)]
   by_cases hjk:j=k+1
   ·subst hjk;exact q
   ·exact ih j (by omega)
theorem rC{bt bt':Nat->Nat->Bool}:∀k,(∀i j,i<=k->j<=k->bt i j=bt' i j)->Ac bt k=Ac bt' k
 |0,_=>rfl
 |k+1,h=>by
  have ih:=rC k λi j hi hj=>h i j (by omega) (by omega)
  show(if bt (k+1) (Ac bt k)=true then k+1 else Ac bt k)=(if bt' (k+1) (Ac bt' k)=true then k+1 else Ac bt' k);have:=uW bt' k;rw[ih,h (k+1) (Ac bt' k) (aM _) (by omega)]
theorem aLU{X:Cx}(hu:X.A.units+4<AO){T:WtT}(hne:T≠[]):aIU X ((wtK T).map oP)/\∃t:(Int×Int)×List Pr2,T[lB ((wtK T).map oP)]? =some t/\((wtK T).map oP)[lB ((wtK T).map oP)]? =some (rkD t.1)/\(wtK T)[lB ((wtK T).map oP)]? =some (rkK t.1)/\(wtD T)[lB ((wtK T).map oP)]? =some (t.2.map p2D)/\∀s∈T,¬ rlt s.1 t.1:=by
 have l0:0<T.length:=hG.mpr hne
 have em:(wtK T).map oP=T.map λt=>rkD t.1:=by unfold wtK;rw[bA];rfl
 have ln:((wtK T).map oP).length=T.length:=by rw[em,aB]
 have mem:∀d∈(wtK T).map oP,∃r,d=rkD r:=λd hd=>by rw[em] at hd;obtain⟨t,_,rfl⟩:=aN.mp hd;exact⟨t.1,rfl⟩
 have gd:∀i,i<T.length->((wtK T).map oP).getD i .non=rkD ((T.map (·.1)).getD i (0,0)):=λi hi=>by rw[em];simp[cA,hi]
 have eb:lB ((wtK T).map oP)=Ac (λi k=>decide (rlt ((T.map (·.1)).getD i (0,0)) ((T.map (·.1)).getD k (0,0)))) (T.length-1):=by unfold lB;rw[ln];exact rC _ λi j hi hj=>by rw[gd i (by omega),gd j (by omega),aHX]
 have bl:=uW (λi k=>decide (rlt ((T.map (·.1)).getD i (0,0)) ((T.map (·.1)).getD k (0,0)))) (T.length-1);have bm:=wM (T.map (·.1)) (T.length-1) (by rw[aB];omega);rw[<-eb] at bl bm;generalize lB ((wtK T).map oP)=n at bl bm;have hn:n<T.length:=by omega
 have hT:T[n]? =some T[n]:=eW hn;refine⟨⟨by rw[ln];exact l0,λd hd d2 hd2=> ?_,λd hd=> ?_,λd hd=> ?_⟩,T[n],hT, ?_, ?_, ?_,λs hs=> ?_⟩
 ·obtain⟨r,rfl⟩:=mem d hd;obtain⟨r2,rfl⟩:=mem d2 hd2;rfl
 ·obtain⟨r,rfl⟩:=mem d hd;rfl
 ·obtain⟨r,rfl⟩:=mem d hd;show X.A.units+1+1<AO;omega
 ·rw[em,aQ,hT];rfl
 ·unfold wtK;rw[aQ,hT];rfl
 ·unfold wtD;rw[aQ,hT];rfl
 ·obtain⟨j,hj⟩:=cW hs;have lj:j<T.length:=(aE.mp hj).1;have:=bm j (by omega);have e1:(T.map (·.1)).getD j (0,0)=s.1:=by simp[cA,hj]
  have e2:(T.map (·.1)).getD n (0,0)=T[n].1:=by simp[cA,hn]
  rw[e1,e2] at this;exact this
noncomputable def llt:List Int->List Int->Bool
 |[],[]=>false
 |[],_::_=>true
 |_::_,[]=>false
 |x::a,y::b=>if x=y then llt a b else decide (x<y)
theorem aFN:∀a b:List Int,mJ (a.map D.int) (b.map D.int)=llt a b
 |[],[]=>rfl
 |[],_::_=>rfl
 |_::_,[]=>rfl
 |x::a,y::b=>by
  have e:mJ ((x::a).map D.int) ((y::b).map D.int)=if decide (x=y)=true then mJ (a.map D.int) (b.map D.int) else decide (x<y):=rfl
  rw[e,aFN a b];show _=if x=y then llt a b else decide (x<y)
  by_cases h:x=y
  ·rw[if_pos (decide_eq_true h),if_pos h]
  ·rw[if_neg (by rw[decide_eq_false h];decide),if_neg h]
theorem oE:∀a:List Int,llt a a=false
 |[]=>rfl
 |x::a=>by show(if x=x then llt a a else decide (x<x))=false;rw[if_pos rfl];exact oE a
theorem vB:∀a b:List Int,a≠b->llt a b=true\/llt b a=true
 |[],[],h=>absurd rfl h
 |[],_::_,_=>.inl rfl
 |_::_,[],_=>.inr rfl
 |x::a,y::b,h=>by
  show(if x=y then llt a b else decide (x<y))=true\/(if y=x then llt b a else decide (y<x))=true
  by_cases e:x=y
  ·subst e;rw[if_pos rfl,if_pos rfl];exact vB a b λz=>h (by rw[z])
  ·rw[if_neg e,if_neg (λz=>e z.symm),decide_eq_true_iff,decide_eq_true_iff];omega
theorem tH:∀a b c:List Int,llt a b=true->llt b c=true->llt a c=true
 |[],[],_,h,_=>by cases h
 |[],_::_,[],_,h=>by cases h
 |[],_::_,_::_,_,_=>rfl
 |_::_,[],_,h,_=>by cases h
 |_::_,_::_,[],_,h=>by cases h
 |x::a,y::b,z::c,h1,h2=>by
  have h1:(if x=y then llt a b else decide (x<y))=true:=h1;have h2:(if y=z then llt b c else decide (y<z))=true:=h2;show(if x=z then llt a c else decide (x<z))=true
  by_cases e1:x=y
  ·subst e1;rw[if_pos rfl] at h1
   by_cases e2:x=z
   ·subst e2;rw[if_pos rfl] at h2 ⊢;exact tH a b c h1 h2
   ·rw[if_neg e2] at h2 ⊢;exact h2
  ·rw[if_neg e1] at h1;have h1:=of_decide_eq_true h1
   by_cases e2:y=z
   ·subst e2;rw[if_neg e1];exact decide_eq_true h1
   ·rw[if_neg e2] at h2;have h2:=of_decide_eq_true h2;rw[if_neg (by omega)];exact decide_eq_true (by omega)
noncomputable def plt(x y:Pr2):Bool:=if x.1=y.1 then llt x.2 y.2 else llt x.1 y.1
theorem aLm(a b:List Int):deq (bJ a) (bJ b)=decide (a=b):=vP a b
theorem aNR(x y:Pr2):dlt (p2D x) (p2D y)=plt x y:=by
 have e:dlt (p2D x) (p2D y)=if deq (bJ x.1) (bJ y.1)=true then(if deq (bJ x.2) (bJ y.2)=true then false else mJ (x.2.map D.int) (y.2.map D.int)) else mJ (x.1.map D.int) (y.1.map D.int):=rfl
 rw[e,aLm,aLm,aFN,aFN];unfold plt
 by_cases h:x.1=y.1
 ·rw[if_pos (decide_eq_true h),if_pos h]
  by_cases h2:x.2=y.2
  ·rw[if_pos (decide_eq_true h2),h2,oE]
  ·rw[if_neg (by rw[decide_eq_false h2];decide)]
 ·rw[if_neg (by rw[decide_eq_false h];decide),if_neg h]
theorem aJi(x:Pr2):plt x x=false:=by unfold plt;rw[if_pos rfl];exact oE _
theorem aAr{x y:Pr2}(h:x≠y):plt x y=true\/plt y x=true:=by
 unfold plt
 by_cases e:x.1=y.1
 ·rw[if_pos e,if_pos e.symm];exact vB _ _ λz=>h (Prod.ext e z)
 ·rw[if_neg e,if_neg λz=>e z.symm];exact vB _ _ e
theorem aHV{x y z:Pr2}(h1:plt x y=true)(h2:plt y z=true):plt x z=true:=by
 unfold plt at *
 by_cases e1:x.1=y.1
 ·rw[if_pos e1] at h1
  by_cases e2:y.1=z.1
  ·rw[if_pos e2] at h2;rw[if_pos (e1.trans e2)];exact tH _ _ _ h1 h2
  ·rw[if_neg e2] at h2;rw[e1,if_neg e2];exact h2
 ·rw[if_neg e1] at h1
  by_cases e2:y.1=z.1
  ·rw[<-e2,if_neg e1];exact h1
  ·rw[if_neg e2] at h2
   by_cases e3:x.1=z.1
   ·have:=tH _ _ _ h1 h2;rw[e3,oE] at this;cases this
   ·rw[if_neg e3];exact tH _ _ _ h1 h2
noncomputable def rkP(ps:List Pr2)(x:Pr2):Nat:=(ps.filter λy=>plt y x).length
theorem xR{ps:List Pr2}{x y:Pr2}(hx:x∈ps)(h:plt x y=true):rkP ps x<rkP ps y:=by
 unfold rkP
 have e:ps.filter (λz=>plt z x)=(ps.filter λz=>plt z y).filter λz=>plt z x:=by
  rw[aHq];refine aIz λz _=> ?_
  cases q:plt z x with
  |false=>rfl
  |true=>rw[aHV q h];rfl
 rw[e];refine qG.mpr ⟨x,jM.mpr ⟨hx,h⟩, ?_⟩;rw[aJi];decide
theorem aLK{A:BM}{ps:List Pr2}(nd:ps.Nodup)(hl:ps.length<=10000)(hu:A.units+8<AO):SrtP A ps (rkP ps):=by
 have key:∀x∈ps,∀y∈ps,x≠y->rkP ps x≠rkP ps y:=λx hx y hy ne=>by
  rcases aAr ne with h|h
  ·exact bO (xR hx h)
  ·exact iA (xR hy h)
 refine⟨hl,λx hx y hy=> ?_, ?_,hu⟩
 ·rw[aNR];cases h:plt x y with
  |true=>exact(decide_eq_true (xR hx h)).symm
  |false=>
   refine(decide_eq_false λq=> ?_).symm
   by_cases e:x=y
   ·rw[e] at q;omega
   ·rcases aAr e with z|z
    ·rw[h] at z;cases z
    ·have:=xR hy z;omega
 ·unfold List.Nodup;rw[dQ];exact List.Pairwise.imp_of_mem (λ{a b} ha hb h=>key a ha b hb h) nd
noncomputable def aIE(x:Pr2):List Pr2->List Pr2
 |[]=>[x]
 |y::l=>if plt x y then x::y::l else y::aIE x l
noncomputable def kF:List Pr2->List Pr2
 |[]=>[]
 |x::l=>aIE x (kF l)
theorem tT(x:Pr2):∀l,(aIE x l).Perm (x::l)
 |[]=>.refl _
 |y::l=>by
  show(if plt x y then x::y::l else y::aIE x l).Perm _
  split
  ·exact .refl _
  ·exact((tT x l).cons y).trans (.swap x y l)
theorem jF:∀l,(kF l).Perm l
 |[]=>.refl _
 |x::l=>(tT x (kF l)).trans ((jF l).cons x)
theorem aDI{x:Pr2}:∀ {l:List Pr2},x∉l->l.Pairwise (λa b=>plt a b=true)->(aIE x l).Pairwise (λa b=>plt a b=true)
 |[],_,_=>by simp[aIE]
 |y::l,h,p=>by
  obtain⟨p1,p2⟩:=jH.mp p;show(if plt x y then x::y::l else y::aIE x l).Pairwise _
  by_cases q:plt x y=true
  ·rw[if_pos q];refine jH.mpr ⟨λz hz=> ?_,p⟩
   rcases aX.mp hz with rfl|hz
   ·exact q
   ·exact aHV q (p1 z hz)
  ·rw[if_neg q];refine jH.mpr ⟨λz hz=> ?_,aDI (λz=>h (aF _ z)) p2⟩
   rcases aX.mp ((tT x l).mem_iff.mp hz) with rfl|hz
   ·rcases aAr (x:=z) (y:=y) (λe=>h (e▸aH)) with w|w
    ·exact absurd w q
    ·exact w
   ·exact p1 z hz
theorem aAl:∀ {l:List Pr2},l.Nodup->(kF l).Pairwise (λa b=>plt a b=true)
 |[],_=>List.Pairwise.nil
 |x::l,h=>by obtain⟨h1,h2⟩:=bG.mp h;exact aDI (λz=>h1 ((jF l).mem_iff.mp z)) (aAl h2)
theorem aKr{ps qs:List Pr2}(nd:ps.Nodup)(hp:qs.Perm ps)(hs:(qs.map (rkP ps)).Pairwise (·<·)):qs=kF ps:=by refine List.Perm.eq_of_pairwise (le:=λx y=>rkP ps x<rkP ps y) (λx y _ _ h1 h2=>by omega) (by rw[dQ] at hs;exact hs) ?_ (hp.trans (jF ps).symm);exact List.Pairwise.imp_of_mem (λ{a b} ha _ h=>xR ((jF ps).mem_iff.mp ha) h) (aAl nd)
noncomputable def gE(T:WtT):Nat:=lB ((wtK T).map oP)
noncomputable def fdT(p:Int×Int)(L:List SK)(b:Int)(S:FdS):FdS:=match S.T[gE S.T]? with
 |none=>S
 |some t=>fdP p L b t.1 {S with T:=S.T.eraseIdx (gE S.T)} (kF t.2)
noncomputable def mH(p:Int×Int)(L:List SK)(b:Int):Nat->FdS->FdS
 |0,S=>S
 |k+1,S=>if S.T=[] then S else mH p L b k (fdT p L b S)
noncomputable def inR(row:List Nat):List Int:=row.map λ(i:Nat)=>(i:Int)
theorem aKz{a b:List Nat}(h:inR a=inR b):a=b:=by
 have:(inR a).map rH=(inR b).map rH:=by rw[h]
 have g:∀l:List Nat,(inR l).map rH=l:=λl=>by unfold inR;rw[bA];exact(bZ λi _=>fE i).trans (nY l)
 rwa[g,g] at this
noncomputable def rwP(y:Pr2):List Nat:=(unP y).1
noncomputable def itP(p:Int×Int)(L:List SK)(row:List Nat):Pr2:=nP (row,nrQ p L row)
theorem qI(p:Int×Int)(L:List SK)(row:List Nat):rwP (itP p L row)=row:=by unfold rwP itP;rw[aDb]
theorem aLe(p:Int×Int)(L:List SK)(row:List Nat):unP (itP p L row)=(row,nrQ p L row):=aDb _
noncomputable def rkR(L:List SK)(row:List Nat):Int×Int:=(S45.prQ (prK L) row,(row.length:Int))
def klt(L:List SK)(a c:List Nat):Prop:=rlt (rkR L a) (rkR L c)\/(rkR L a=rkR L c/\llt (inR a) (inR c)=true)
def kle(L:List SK)(a c:List Nat):Prop:=a=c\/klt L a c
theorem aNd{a b c:Int×Int}(h:rlt a b)(h2:rlt b c):rlt a c:=by unfold rlt at *;omega
theorem aJJ{a b:Int×Int}(h:a≠b)(h2:¬ rlt b a):rlt a b:=by
 obtain⟨a1,a2⟩:=a;obtain⟨b1,b2⟩:=b;unfold rlt at *;have:¬ (a1=b1/\a2=b2):=λz=>h (by rw[z.1,z.2])
 simp only at *;omega
theorem uZ(L:List SK)(a:List Nat):¬ klt L a a:=by
 rintro(h|⟨_,h⟩)
 ·unfold rlt at h;omega
 ·rw[oE] at h;cases h
theorem aAS{L:List SK}{a b c:List Nat}(h:klt L a b)(h2:klt L b c):klt L a c:=by
 rcases h with h|⟨e,h⟩<;>rcases h2 with h2|⟨e2,h2⟩
 ·exact .inl (aNd h h2)
 ·exact .inl (e2▸h)
 ·exact .inl (e▸h2)
 ·exact .inr ⟨e.trans e2,tH _ _ _ h h2⟩
theorem aLM{L:List SK}{a b c:List Nat}(h:kle L a b)(h2:kle L b c):kle L a c:=by
 rcases h with rfl|h
 ·exact h2
 ·rcases h2 with rfl|h2
  ·exact .inr h
  ·exact .inr (aAS h h2)
theorem aBr{x:Int}:∀ {a b:List Int},a.length=b.length->llt a b=true->llt (a++[x]) (b++[x])=true
 |[],[],_,h=>by cases h
 |[],_::_,h,_=>by cases h
 |_::_,[],h,_=>by cases h
 |u::a,v::b,hl,h=>by
  have h:(if u=v then llt a b else decide (u<v))=true:=h;show(if u=v then llt (a++[x]) (b++[x]) else decide (u<v))=true
  by_cases e:u=v
  ·rw[if_pos e] at h ⊢;exact aBr (by simpa using hl) h
  ·rw[if_neg e] at h ⊢;exact h
theorem pR(L:List SK)(a:List Nat)(k:Nat):rkR L (a++[k])=((rkR L a).1+prK L k,(rkR L a).2+1):=by unfold rkR;rw[S45.pr_snoc,aP];rfl
theorem aGl{L:List SK}{a c:List Nat}(k:Nat)(h:kle L a c):kle L (a++[k]) (c++[k]):=by
 rcases h with rfl|h|⟨e,h⟩
 ·exact .inl rfl
 ·refine .inr (.inl ?_);rw[pR,pR];unfold rlt at *;simp only;omega
 ·refine .inr (.inr ⟨by rw[pR,pR,e], ?_⟩)
  have el:a.length=c.length:=by have:=congrArg Prod.snd e;have:(a.length:Int)=(c.length:Int):=this;omega
  show llt ((a++[k]).map λ(i:Nat)=>(i:Int)) ((c++[k]).map λ(i:Nat)=>(i:Int))=true;rw[aW,aW];exact aBr (by rw[aB,aB];exact el) h
noncomputable def wrR(T:WtT):List (List Nat):=T.flatMap λt=>t.2.map rwP
theorem wrR_mem{T:WtT}{row:List Nat}:row∈wrR T↔∃t∈T,∃y∈t.2,rwP y=row:=by
 unfold wrR;rw[dO]
 constructor
 ·rintro⟨t,ht,h⟩;obtain⟨y,hy,e⟩:=aN.mp h;exact⟨t,ht,y,hy,e⟩
 ·rintro⟨t,ht,y,hy,e⟩;exact⟨t,ht,aN.mpr ⟨y,hy,e⟩⟩
theorem yN(r:Int×Int)(x:Pr2):∀T:WtT,(wrR (kZ T r x)).Perm (rwP x::wrR T)
 |[]=>.refl _
 |t::T=>by
  show(wrR (if t.1=r then(t.1,t.2++[x])::T else t::kZ T r x)).Perm _
  split
  ·show((t.2++[x]).map rwP++wrR T).Perm (rwP x::(t.2.map rwP++wrR T));rw[aW,fD];exact iV
  ·show(t.2.map rwP++wrR (kZ T r x)).Perm (rwP x::(t.2.map rwP++wrR T));exact((yN r x T).append_left _).trans iV
theorem aBN{r:Int×Int}{x:Pr2}:∀ {T:WtT}{t':(Int×Int)×List Pr2},(∀t∈T,t.2≠[])->t'∈kZ T r x->t'.2≠[]/\∀y∈t'.2,(y=x/\t'.1=r)\/∃t∈T,t.1=t'.1/\y∈t.2
 |[],t',_,h=>by
  have:t'=(r,[x]):=by simpa[kZ] using h
  subst this;exact⟨by simp,λy hy=>.inl ⟨by simpa using hy,rfl⟩⟩
 |t::T,t',hn,h=>by
  have h:t'∈(if t.1=r then(t.1,t.2++[x])::T else t::kZ T r x):=h
  by_cases e:t.1=r
  ·rw[if_pos e] at h
   rcases aX.mp h with rfl|h
   ·refine⟨by simp,λy hy=> ?_⟩
    rcases aY.mp hy with hy|hy
    ·exact .inr ⟨t,aH,rfl,hy⟩
    ·exact .inl ⟨by simpa using hy,e⟩
   ·exact⟨hn _ (aF _ h),λy hy=>.inr ⟨t',aF _ h,rfl,hy⟩⟩
  ·rw[if_neg e] at h
   rcases aX.mp h with rfl|h
   ·exact⟨hn _ aH,λy hy=>.inr ⟨t',aH,rfl,hy⟩⟩
   ·obtain⟨h1,h2⟩:=aBN (λz hz=>hn z (aF _ hz)) h;exact⟨h1,λy hy=>(h2 y hy).imp id λ⟨z,hz,q⟩=>⟨z,aF _ hz,q⟩⟩
section
variable {p:Int×Int}{L:List SK}{b:Int}{r:Int×Int}{row nb:List Nat}{T:WtT}
noncomputable def chs(L:List SK)(b:Int)(r:Int×Int)(row:List Nat)(n:Nat):List (List Nat):=((bP n).filter λk=>decide (r.1+prK L k<=b)).map λk=>row++[k]
theorem chs_mem{n:Nat}{c:List Nat}:c∈chs L b r row n↔∃k,k<n/\r.1+prK L k<=b/\c=row++[k]:=by
 unfold chs;rw[aN]
 constructor
 ·rintro⟨k,hk,rfl⟩;obtain⟨h1,h2⟩:=jM.mp hk;exact⟨k,cM.mp h1,of_decide_eq_true h2,rfl⟩
 ·rintro⟨k,h1,h2,rfl⟩;exact⟨k,jM.mpr ⟨cM.mpr h1,decide_eq_true h2⟩,rfl⟩
theorem aMA(n:Nat):(chs L b r row n).Nodup:=by unfold chs List.Nodup;rw[dQ];refine List.Pairwise.imp (λ{a c} h e=>h ?_) (List.Pairwise.filter _ (aKG (n:=n)));simpa using List.append_cancel_left e
theorem aDP:∀n:Nat,(wrR (lgQ p L b r row nb n T)).Perm (chs L b r row n++wrR T)
 |0=>.refl _
 |n+1=>by
  have ih:=aDP n
  have ec:chs L b r row (n+1)=chs L b r row n++(if r.1+prK L n<=b then[row++[n]] else[]):=by
   unfold chs;rw[aKN,sZ,aW];congr 1
   by_cases h:r.1+prK L n<=b
   ·simp[h]
   ·simp[h]
  rw[ec];show(wrR (if r.1+(L.getD n AN).2<=b then kZ _ _ _ else _)).Perm _
  by_cases h:r.1+prK L n<=b
  ·rw[if_pos h,if_pos (show r.1+(L.getD n AN).2<=b from h)];refine(yN _ _ _).trans ?_
   have e:rwP (nP (row++[n],gR (gX p (L.getD n AN).1) nb))=row++[n]:=by unfold rwP;rw[aDb]
   rw[e,fD];exact(ih.cons _).trans iV.symm
  ·rw[if_neg h,if_neg (show ¬ r.1+(L.getD n AN).2<=b from h),dD];exact ih
theorem aAU:∀ (n:Nat) {t':(Int×Int)×List Pr2},(∀t∈T,t.2≠[])->t'∈lgQ p L b r row nb n T->t'.2≠[]/\∀y∈t'.2,(∃k,k<n/\r.1+prK L k<=b/\t'.1=(r.1+prK L k,r.2+1)/\y=nP (row++[k],gR (gX p (L.getD k AN).1) nb))\/∃t∈T,t.1=t'.1/\y∈t.2
 |0,t',hn,h=>⟨hn t' h,λy hy=>.inr ⟨t',h,rfl,hy⟩⟩
 |n+1,t',hn,h=>by
  have h:t'∈(if r.1+(L.getD n AN).2<=b then kZ (lgQ p L b r row nb n T) (r.1+(L.getD n AN).2,r.2+1) (nP (row++[n],gR (gX p (L.getD n AN).1) nb)) else lgQ p L b r row nb n T):=h;have old:∀t∈lgQ p L b r row nb n T,t.2≠[]:=λt ht=>(aAU n hn ht).1
  by_cases q:r.1+(L.getD n AN).2<=b
  ·rw[if_pos q] at h;obtain⟨h1,h2⟩:=aBN old h;refine⟨h1,λy hy=> ?_⟩
   rcases h2 y hy with⟨e1,e2⟩|⟨t,ht,e,hy2⟩
   ·exact .inl ⟨n,by omega,q,e2,e1⟩
   ·rcases(aAU n hn ht).2 y hy2 with⟨k,k1,k2,k3,k4⟩|⟨s,s1,s2,s3⟩
    ·exact .inl ⟨k,by omega,k2,e▸k3,k4⟩
    ·exact .inr ⟨s,s1,s2.trans e,s3⟩
  ·rw[if_neg q] at h;obtain⟨h1,h2⟩:=aAU n hn h;exact⟨h1,λy hy=>(h2 y hy).imp (λ⟨k,k1,k2⟩=>⟨k,by omega,k2⟩) id⟩
end
theorem aIt:∀ {T:WtT},(∀t∈T,t.2≠[])->tot T<=2*(wrR T).length
 |[],_=>aM _
 |t::T,h=>by
  have ih:=aIt (T:=T) λz hz=>h z (aF _ hz)
  have h1:0<t.2.length:=hG.mpr (h t aH);have e1:tot (t::T)=(t.2.length+1)+tot T:=by simp[tot]
  have e2:(wrR (t::T)).length=t.2.length+(wrR T).length:=by show(t.2.map rwP++wrR T).length=_;rw[aP,aB]
  omega
structure FewR(L:List SK)(b:Int)(U:List (List Nat)):Prop where
 len:U.length<=400
 rl:∀row∈U,row.length<=300
 all:∀row,hX L row->S45.prQ (prK L) row<=b->row∈U
def Cov(p:Int×Int)(L:List SK)(S:FdS)(rest:List Pr2)(row:List Nat):Prop:=row∈wrR S.T\/row∈rest.map rwP\/∃e∈S.fd,e.2.2=nrQ p L row/\kle L e.2.1 row
structure Wk(p:Int×Int)(L:List SK)(b:Int)(dn:List (List Nat))(r:Int×Int)(rest:List Pr2)(S:FdS):Prop where
 ok:aND S
 ne:∀t∈S.T,t.2≠[]
 wt:∀t∈S.T,∀y∈t.2,∃row,y=itP p L row/\hX L row/\t.1=rkR L row/\t.1.1<=b
 rs:∀y∈rest,∃row,y=itP p L row/\hX L row/\r=rkR L row/\r.1<=b
 up:rest.Pairwise λx y=>plt x y=true
 gt:rest≠[]->∀t∈S.T,rlt r t.1
 nd:(dn++rest.map rwP++wrR S.T).Nodup
 fd:∀e∈S.fd,e.2.1∈dn/\hX L e.2.1/\e.1=S45.prQ (prK L) e.2.1/\e.1<=b/\e.2.2=nrQ p L e.2.1
 par:∀row,row∈dn++rest.map rwP++wrR S.T->row=[]\/∃q k,row=q++[k]/\q∈S.fd.map λe=>e.2.1
 du:∀row∈dn,hX L row/\S45.prQ (prK L) row<=b
 srt:(S.fd.map λe=>e.2.1).Pairwise (klt L)
 lt1:∀e∈S.fd,∀y∈rest,klt L e.2.1 (rwP y)
 lt2:∀e∈S.fd,∀row∈wrR S.T,klt L e.2.1 row
 cl:∀e∈S.fd,∀k,k<L.length->e.1+prK L k<=b->Cov p L S rest (e.2.1++[k])
 st:0<=b->Cov p L S rest []
section
variable {p:Int×Int}{L:List SK}{b:Int}{dn:List (List Nat)}{r:Int×Int}{rest:List Pr2}{S:FdS}{U:List (List Nat)}
theorem Wk.all(W:Wk p L b dn r rest S)(F:FewR L b U):∀row∈dn++rest.map rwP++wrR S.T,row∈U:=λrow h=>by
 rcases aY.mp h with h|h
 ·rcases aY.mp h with h|h
  ·obtain⟨h1,h2⟩:=W.du row h;exact F.all row h1 h2
  ·obtain⟨y,hy,e⟩:=aN.mp h;obtain⟨q,rfl,q2,q3,q4⟩:=W.rs y hy;rw[qI] at e;subst e;exact F.all q q2 (by rw[q3] at q4;exact q4)
 ·obtain⟨t,ht,y,hy,e⟩:=wrR_mem.mp h;obtain⟨q,rfl,q2,q3,q4⟩:=W.wt t ht y hy;rw[qI] at e;subst e;exact F.all q q2 (by rw[q3] at q4;exact q4)
theorem Wk.few(W:Wk p L b dn r rest S)(F:FewR L b U):dn.length+rest.length+(wrR S.T).length<=U.length:=by have:=W.nd.length_le_of_subset (W.all F);rw[aP,aP,aB] at this;exact this
theorem Wk.tot(W:Wk p L b dn r rest S)(F:FewR L b U):tot S.T<=800:=by have:=aIt W.ne;have:=W.few F;have:=F.len;omega
theorem Wk.fdl(W:Wk p L b dn r rest S)(F:FewR L b U):S.fd.length<=400:=by
 have nd:(S.fd.map λe=>e.2.1).Nodup:=List.Pairwise.imp (S:=(·≠·)) (λ{a c} h e=>uZ L a (by rw[<-e] at h;exact h)) W.srt
 have:=nd.length_le_of_subset (l₂:=dn) λrow h=>by obtain⟨e,he,rfl⟩:=aN.mp h;exact(W.fd e he).1
 rw[aB] at this;have:=W.few F;have:=F.len;omega
theorem Wk.step(hpr:∀k,k<L.length->1<=prK L k){y:Pr2}(W:Wk p L b dn r (y::rest) S):Wk p L b (dn++[rwP y]) r rest (fdI p L b r S (unP y)):=by
 obtain⟨row,ey,ro,er,rb⟩:=W.rs y aH;subst ey;have up:=jH.mp W.up;have rp:S45.prQ (prK L) row<=b:=by rw[er] at rb;exact rb
 rw[aLe];have ew:(itP p L row::rest).map rwP=row::rest.map rwP:=by rw[bC,qI]
 have nd:=W.nd;have par:=W.par;rw[ew] at nd par;have e1:dn++row::rest.map rwP=(dn++[row])++rest.map rwP:=by simp
 rw[e1] at nd par;rw[qI]
 have cv:∀c,Cov p L S (itP p L row::rest) c->c=row\/Cov p L S rest c:=λc h=>by
  rcases h with h|h|h
  ·exact .inr (.inl h)
  ·rw[ew] at h
   rcases aX.mp h with h|h
   ·exact .inl h
   ·exact .inr (.inr (.inl h))
  ·exact .inr (.inr (.inr h))
 have du:∀c∈dn++[row],hX L c/\S45.prQ (prK L) c<=b:=λc h=>by
  rcases aY.mp h with h|h
  ·exact W.du c h
  ·rw[aG.mp h];exact⟨ro,rp⟩
 have rs:∀y∈rest,∃row,y=itP p L row/\hX L row/\r=rkR L row/\r.1<=b:=λz hz=>W.rs z (aF _ hz)
 have gt:=W.gt (by simp);unfold fdI
 by_cases hk:nrQ p L row∈S.kn
 ·rw[if_pos hk];rw[W.ok.kn] at hk;obtain⟨e,he,en⟩:=aN.mp hk
  have ke:klt L e.2.1 row:=by have:=W.lt1 e he _ aH;rw[qI] at this;exact this
  have cv2:∀c,Cov p L S (itP p L row::rest) c->Cov p L S rest c:=λc h=>by
   rcases cv c h with rfl|h
   ·exact .inr (.inr ⟨e,he,en,.inr ke⟩)
   ·exact h
  exact⟨W.ok,W.ne,W.wt,rs,up.2,λ_=>gt,nd,λe he=>⟨bW _ (W.fd e he).1,(W.fd e he).2⟩,par,du,W.srt,λe he z hz=>W.lt1 e he z (aF _ hz),W.lt2,λe he k hk hle=>cv2 _ (W.cl e he k hk hle),λh=>cv2 _ (W.st h)⟩
 ·have ok:=aMD (p:=p) (L:=L) (b:=b) (r:=r) W.ok (row,nrQ p L row);unfold fdI at ok;rw[if_neg hk] at ok ⊢;have pm:=aDP (p:=p) (L:=L) (b:=b) (r:=r) (row:=row) (nb:=nrQ p L row) (T:=S.T) L.length;have lm:=λt' h=>aAU (p:=p) (L:=L) (b:=b) (r:=r) (row:=row) (nb:=nrQ p L row) (T:=S.T) L.length (t':=t') W.ne h
  have rno:row∉S.fd.map λe=>e.2.1:=λh=>by obtain⟨e,he,ee⟩:=aN.mp h;have:=(W.fd e he).1;rw[ee] at this;have n2:=(bF.mp (bF.mp nd).1).1;exact(bF.mp n2).2.2 row this row (by simp) rfl
  have mem':∀c,c∈wrR (lgQ p L b r row (nrQ p L row) L.length S.T)↔c∈chs L b r row L.length\/c∈wrR S.T:=λc=>by rw[pm.mem_iff,aY]
  have ch_lt:∀c∈chs L b r row L.length,klt L row c:=λc h=>by obtain⟨k,k1,k2,rfl⟩:=chs_mem.mp h;refine .inl ?_;rw[pR];have:=hpr k k1;unfold rlt;simp only;omega
  have T_lt:∀c∈wrR S.T,klt L row c:=λc h=>by obtain⟨t,ht,y,hy,e⟩:=wrR_mem.mp h;obtain⟨q,rfl,q2,q3,q4⟩:=W.wt t ht y hy;rw[qI] at e;subst e;refine .inl ?_;rw[<-er,<-q3];exact gt t ht
  have rest_lt:∀z∈rest,klt L row (rwP z):=λz hz=>by
   obtain⟨q,rfl,q2,q3,q4⟩:=rs z hz;rw[qI];refine .inr ⟨er.symm.trans q3, ?_⟩;have:=up.1 _ hz;unfold plt at this
   by_cases e:(itP p L row).1=(itP p L q).1
   ·exfalso;have e2:row=q:=aKz e;subst e2;rw[if_pos rfl,oE] at this;cases this
   ·rw[if_neg e] at this;exact this
  have cvn:∀c,Cov p L S (itP p L row::rest) c->Cov p L ⟨lgQ p L b r row (nrQ p L row) L.length S.T,S.kn++[nrQ p L row],S.fd++[(r.1,row,nrQ p L row)]⟩ rest c:=λc h=>by
   rcases cv c h with rfl|h|h|⟨e,he,q⟩
   ·exact .inr (.inr ⟨(r.1,c,nrQ p L c),aV _ (cG _),rfl,.inl rfl⟩)
   ·exact .inl ((mem' c).mpr (.inr h))
   ·exact .inr (.inl h)
   ·exact .inr (.inr ⟨e,bW _ he,q⟩)
  have efd:(S.fd++[(r.1,row,nrQ p L row)]).map (λe=>e.2.1)=S.fd.map (λe=>e.2.1)++[row]:=by rw[aW];rfl
  refine⟨ok,λt h=>(lm t h).1,λt ht y hy=> ?_,rs,up.2,λ_ t ht=> ?_, ?_,λe he=> ?_,λc hc=> ?_,du, ?_,λe he z hz=> ?_,λe he c hc=> ?_,λe he k hk hle=> ?_,λh=>cvn _ (W.st h)⟩
  ·rcases(lm t ht).2 y hy with⟨k,k1,k2,k3,k4⟩|⟨s,s1,s2,s3⟩
   ·refine⟨row++[k],by rw[k4];unfold itP;rw[vE],λi hi=> ?_,by rw[k3,pR,er],by rw[k3];exact k2⟩
    rcases aY.mp hi with hi|hi
    ·exact ro i hi
    ·rw[aG.mp hi];exact k1
   ·rw[<-s2];exact W.wt s s1 y s3
  ·obtain⟨h1,h2⟩:=lm t ht;obtain⟨y,hy⟩:=List.exists_mem_of_ne_nil _ h1
   rcases h2 y hy with⟨k,k1,k2,k3,k4⟩|⟨s,s1,s2,s3⟩
   ·rw[k3];have:=hpr k k1;unfold rlt;simp only;omega
   ·rw[<-s2];exact gt s s1
  ·have pm2:((dn++[row]++rest.map rwP)++wrR (lgQ p L b r row (nrQ p L row) L.length S.T)).Perm (chs L b r row L.length++((dn++[row]++rest.map rwP)++wrR S.T)):=(pm.append_left _).trans (by
    rw[<-fD,<-fD (chs L b r row L.length)]
    exact iD.append_right _)
   refine pm2.nodup_iff.mpr (bF.mpr ⟨aMA _,nd,λc hc d hd e=> ?_⟩);subst e;obtain⟨k,k1,k2,rfl⟩:=chs_mem.mp hc
   rcases par _ hd with h|⟨q,j,h1,h2⟩
   ·simp at h
   ·have:row=q:=(List.append_inj' h1 rfl).1;subst this;exact rno h2
  ·rcases aY.mp he with he|he
   ·exact⟨bW _ (W.fd e he).1,(W.fd e he).2⟩
   ·rw[aG.mp he];exact⟨aV _ (cG _),ro,by rw[er];rfl,rb,rfl⟩
  ·rw[efd]
   have h:c∈dn++[row]++rest.map rwP++wrR S.T\/c∈chs L b r row L.length:=by
    rcases aY.mp hc with h|h
    ·exact .inl (bW _ h)
    ·rcases(mem' c).mp h with h|h
     ·exact .inr h
     ·exact .inl (aV _ h)
   rcases h with h|h
   ·exact(par c h).imp id λ⟨q,k,h1,h2⟩=>⟨q,k,h1,bW _ h2⟩
   ·obtain⟨k,_,_,rfl⟩:=chs_mem.mp h;exact .inr ⟨row,k,rfl,aV _ (cG _)⟩
  ·rw[efd];refine qK.mpr ⟨W.srt,kW _ _,λa ha c hc=> ?_⟩;rw[aG.mp hc];obtain⟨e,he,rfl⟩:=aN.mp ha;have:=W.lt1 e he _ aH;rw[qI] at this;exact this
  ·rcases aY.mp he with he|he
   ·exact W.lt1 e he z (aF _ hz)
   ·rw[aG.mp he];exact rest_lt z hz
  ·rcases aY.mp he with he|he
   ·rcases(mem' c).mp hc with h|h
    ·have:=W.lt1 e he _ aH;rw[qI] at this;exact aAS this (ch_lt c h)
    ·exact W.lt2 e he c h
   ·rw[aG.mp he]
    rcases(mem' c).mp hc with h|h
    ·exact ch_lt c h
    ·exact T_lt c h
  ·rcases aY.mp he with he|he
   ·exact cvn _ (W.cl e he k hk hle)
   ·rw[aG.mp he] at hle ⊢;exact .inl ((mem' _).mpr (.inl (chs_mem.mpr ⟨k,hk,hle,rfl⟩)))
theorem Wk.pop{n:Nat}{t:(Int×Int)×List Pr2}(W:Wk p L b dn r [] S)(hn:S.T[n]? =some t)(hm:∀s∈S.T,¬ rlt s.1 t.1):t.2.Nodup/\Wk p L b dn t.1 (kF t.2) {S with T:=S.T.eraseIdx n}:=by
 have tm:=aO hn;obtain⟨nl,en⟩:=aE.mp hn
 have pT:S.T.Perm (t::S.T.eraseIdx n):=by
  have e1:S.T=S.T.take n++t::S.T.drop (n+1):=by rw[<-en,<-gH nl,iE]
  rw[dU];exact(e1▸List.Perm.refl S.T:S.T.Perm (S.T.take n++t::S.T.drop (n+1))).trans iV
 have pw:(wrR S.T).Perm (t.2.map rwP++wrR (S.T.eraseIdx n)):=pT.flatMap_right _;have ps:((kF t.2).map rwP).Perm (t.2.map rwP):=(jF t.2).map _;have nd:=W.nd;rw[eY,dD] at nd
 have pall:(dn++(kF t.2).map rwP++wrR (S.T.eraseIdx n)).Perm (dn++wrR S.T):=by rw[fD];exact((ps.append_right _).trans pw.symm).append_left _
 have ndt:t.2.Nodup:=by have h1:=(bF.mp (pw.nodup_iff.mp (bF.mp nd).2.1)).1;exact List.Pairwise.of_map _ (λa c h e=>h (by rw[e])) h1
 have er:∀s∈S.T.eraseIdx n,s∈S.T:=λs hs=>kQ hs
 have sub:∀c∈wrR (S.T.eraseIdx n),c∈wrR S.T:=λc hc=>pw.symm.mem_iff.mp (aV _ hc)
 have sub2:∀y∈kF t.2,rwP y∈wrR S.T:=λy hy=>pw.symm.mem_iff.mp (bW _ (aN.mpr ⟨y,(jF t.2).mem_iff.mp hy,rfl⟩))
 have cv:∀c,Cov p L S [] c->Cov p L {S with T:=S.T.eraseIdx n} (kF t.2) c:=λc h=>by
  rcases h with h|h|h
  ·rcases aY.mp (pw.mem_iff.mp h) with h|h
   ·exact .inr (.inl (ps.symm.mem_iff.mp h))
   ·exact .inl h
  ·cases h
  ·exact .inr (.inr h)
 have ek:wtK (S.T.eraseIdx n)=(wtK S.T).eraseIdx n:=by unfold wtK;rw[dU,dU,aW,iO,lN]
 refine⟨ndt,⟨by rw[ek];exact W.ok.nk.sublist (gJ _ _),W.ok.kn,W.ok.nd⟩,λs hs=>W.ne s (er s hs),λs hs=>W.wt s (er s hs),λy hy=>W.wt t tm y ((jF t.2).mem_iff.mp hy),aAl ndt,λ_ s hs=> ?_,pall.nodup_iff.mpr nd,W.fd,λc hc=> ?_,W.du,W.srt,λe he y hy=>W.lt2 e he _ (sub2 y hy),λe he c hc=>W.lt2 e he c (sub c hc),λe he k hk hle=>cv _ (W.cl e he k hk hle),λh=>cv _ (W.st h)⟩
 ·refine aJJ (λe=> ?_) (hm s (er s hs));have nk:=W.ok.nk;have pk:(wtK S.T).Perm (rkK t.1::wtK (S.T.eraseIdx n)):=pT.map _;have:=(bG.mp (pk.nodup_iff.mp nk)).1;refine this ?_;rw[e];exact aN.mpr ⟨s,hs,rfl⟩
 ·refine W.par c ?_;rw[eY,dD];exact pall.mem_iff.mp hc
end
theorem aGD{T:WtT}(hne:T≠[]):∃t:(Int×Int)×List Pr2,T[gE T]? =some t/\∀s∈T,¬ rlt s.1 t.1:=by
 have l0:0<T.length:=hG.mpr hne
 have em:(wtK T).map oP=T.map λt=>rkD t.1:=by unfold wtK;rw[bA];rfl
 have ln:((wtK T).map oP).length=T.length:=by rw[em,aB]
 have gd:∀i,i<T.length->((wtK T).map oP).getD i .non=rkD ((T.map (·.1)).getD i (0,0)):=λi hi=>by rw[em];simp[cA,hi]
 have eb:gE T=Ac (λi k=>decide (rlt ((T.map (·.1)).getD i (0,0)) ((T.map (·.1)).getD k (0,0)))) (T.length-1):=by unfold gE lB;rw[ln];exact rC _ λi j hi hj=>by rw[gd i (by omega),gd j (by omega),aHX]
 have bl:=uW (λi k=>decide (rlt ((T.map (·.1)).getD i (0,0)) ((T.map (·.1)).getD k (0,0)))) (T.length-1);have bm:=wM (T.map (·.1)) (T.length-1) (by rw[aB];omega);rw[<-eb] at bl bm;generalize gE T=n at bl bm;have hn:n<T.length:=by omega
 refine⟨T[n],eW hn,λs hs=> ?_⟩;obtain⟨j,hj⟩:=cW hs;have lj:j<T.length:=(aE.mp hj).1;have:=bm j (by omega);have e1:(T.map (·.1)).getD j (0,0)=s.1:=by simp[cA,hj]
 have e2:(T.map (·.1)).getD n (0,0)=T[n].1:=by simp[cA,hn]
 rw[e1,e2] at this;exact this
noncomputable def fd0(p:Int×Int)(b:Int):FdS:=⟨if 0<=b then[((0,0),[nP ([],st0 p)])] else[],[],[]⟩
noncomputable def bkF(p:Int×Int)(L:List SK)(b:Int):List (Int×List Nat×List Nat):=(mH p L b 401 (fd0 p b)).fd
section
variable {p:Int×Int}{L:List SK}{b:Int}{dn:List (List Nat)}{r:Int×Int}{rest:List Pr2}{S:FdS}{U:List (List Nat)}
theorem wk0(p:Int×Int)(L:List SK)(b:Int):Wk p L b [] (0,0) [] (fd0 p b):=by
 have e:nP ([],st0 p)=itP p L []:=rfl
 by_cases h:0<=b
 ·have e0:fd0 p b=⟨[((0,0),[itP p L []])],[],[]⟩:=by unfold fd0;rw[if_pos h,e]
  have ew:wrR [((0,0),[itP p L []])]=[[]]:=by show[rwP (itP p L [])]++[]=_;rw[qI];rfl
  rw[e0];refine⟨⟨by simp[wtK],rfl,fH⟩,λt ht=> ?_,λt ht y hy=> ?_,λy hy=>(nomatch hy),List.Pairwise.nil,λh=>absurd rfl h, ?_,λe he=>(nomatch he),λrow hr=> ?_,λrow hr=>(nomatch hr),List.Pairwise.nil,λe he=>(nomatch he),λe he=>(nomatch he),λe he=>(nomatch he),λ_=>.inl ?_⟩
  ·rw[aG.mp ht];simp
  ·rw[aG.mp ht] at hy ⊢;exact⟨[],aG.mp hy,λi hi=>(nomatch hi),rfl,h⟩
  ·show(wrR [((0,0),[itP p L []])]).Nodup;rw[ew];simp
  ·have hr:row∈wrR [((0,0),[itP p L []])]:=hr;rw[ew] at hr;exact .inl (aG.mp hr)
  ·show[]∈wrR [((0,0),[itP p L []])];rw[ew];exact cG _
 ·have e0:fd0 p b=⟨[],[],[]⟩:=by unfold fd0;rw[if_neg h]
  rw[e0];exact⟨⟨fH,rfl,fH⟩,λt ht=>(nomatch ht),λt ht=>(nomatch ht),λy hy=>(nomatch hy),List.Pairwise.nil,λh=>absurd rfl h,fH,λe he=>(nomatch he),λrow hr=>(nomatch hr),λrow hr=>(nomatch hr),List.Pairwise.nil,λe he=>(nomatch he),λe he=>(nomatch he),λe he=>(nomatch he),λz=>absurd z h⟩
theorem Wk.take(hpr:∀k,k<L.length->1<=prK L k)(W:Wk p L b dn r rest S):∀j,j<=rest.length->Wk p L b (dn++(rest.take j).map rwP) r (rest.drop j) (fdP p L b r S (rest.take j))
 |0,_=>by rw[lE,eY,dD];exact W
 |j+1,hj=>by
  have ih:=Wk.take hpr W j (by omega);have lj:j<rest.length:=by omega
  rw[gH lj] at ih;have:=ih.step hpr;rw[<-wQ] at this
  have et:rest.take (j+1)=rest.take j++[rest[j]]:=by rw[eZ,eW lj];rfl
  rw[et,aW,<-fD];exact this
theorem Wk.turn(hpr:∀k,k<L.length->1<=prK L k)(W:Wk p L b dn r [] S)(hne:S.T≠[]):∃t:(Int×Int)×List Pr2,S.T[gE S.T]? =some t/\(∀s∈S.T,¬ rlt s.1 t.1)/\t.2.Nodup/\t.2≠[]/\Wk p L b dn t.1 (kF t.2) {S with T:=S.T.eraseIdx (gE S.T)}/\fdT p L b S=fdP p L b t.1 {S with T:=S.T.eraseIdx (gE S.T)} (kF t.2)/\Wk p L b (dn++(kF t.2).map rwP) t.1 [] (fdT p L b S):=by
 obtain⟨t,ht,hm⟩:=aGD hne;obtain⟨n1,W1⟩:=W.pop ht hm
 have e:fdT p L b S=fdP p L b t.1 {S with T:=S.T.eraseIdx (gE S.T)} (kF t.2):=by unfold fdT;rw[ht]
 refine⟨t,ht,hm,n1,W.ne t (aO ht),W1,e, ?_⟩;have:=W1.take hpr (kF t.2).length (aM _);rw[cZ,List.drop_length] at this;rw[e];exact this
theorem aDH(hpr:∀k,k<L.length->1<=prK L k)(F:FewR L b U):∀ (m:Nat) {dn:List (List Nat)}{r:Int×Int}{S:FdS},Wk p L b dn r [] S->U.length<dn.length+m->∃dn' r',Wk p L b dn' r' [] (mH p L b m S)/\(mH p L b m S).T=[]
 |0,dn,r,S,W,h=>by have:=W.few F;omega
 |m+1,dn,r,S,W,h=>by
  show ∃dn' r',Wk p L b dn' r' [] (if S.T=[] then S else mH p L b m (fdT p L b S))/\(if S.T=[] then S else mH p L b m (fdT p L b S)).T=[]
  by_cases q:S.T=[]
  ·rw[if_pos q];exact⟨dn,r,W,q⟩
  ·rw[if_neg q];obtain⟨t,_,_,_,ne,_,_,W2⟩:=W.turn hpr q;refine aDH hpr F m W2 ?_
   have:0<(kF t.2).length:=by rw[(jF t.2).length_eq];exact hG.mpr ne
   rw[aP,aB];omega
structure BkFOk(p:Int×Int)(L:List SK)(b:Int)(B:List (Int×List Nat×List Nat)):Prop where
 len:B.length<=400
 ent:∀e∈B,hX L e.2.1/\e.1=S45.prQ (prK L) e.2.1/\e.1<=b/\e.2.2=nrQ p L e.2.1/\e.2.1.length<=300
 nd:(B.map λe=>e.2.2).Nodup
 srt:(B.map λe=>e.2.1).Pairwise (klt L)
 cl:∀e∈B,∀k,k<L.length->e.1+prK L k<=b->∃e'∈B,e'.2.2=nrQ p L (e.2.1++[k])/\kle L e'.2.1 (e.2.1++[k])
 st:0<=b->∃e∈B,e.2.2=nrQ p L []/\kle L e.2.1 []
theorem aHB(hpr:∀k,k<L.length->1<=prK L k)(F:FewR L b U):BkFOk p L b (bkF p L b):=by
 obtain⟨dn,r,W,e⟩:=aDH hpr F 401 (wk0 p L b) (by have:=F.len;simp;omega)
 have cv:∀c,Cov p L (mH p L b 401 (fd0 p b)) [] c->∃e∈(mH p L b 401 (fd0 p b)).fd,e.2.2=nrQ p L c/\kle L e.2.1 c:=λc h=>by
  rcases h with h|h|h
  ·rw[e] at h;cases h
  ·cases h
  ·exact h
 refine⟨W.fdl F,λe he=> ?_,by have:=W.ok.nd;rw[W.ok.kn] at this;exact this,W.srt,λe he k hk hle=>cv _ (W.cl e he k hk hle),λh=>cv _ (W.st h)⟩;obtain⟨h1,h2,h3,h4,h5⟩:=W.fd e he;exact⟨h2,h3,h4,h5,F.rl _ (F.all _ h2 (by rw[<-h3];exact h4))⟩
theorem BkFOk.all{B:List (Int×List Nat×List Nat)}(hpr:∀k,k<L.length->1<=prK L k)(O:BkFOk p L b B):∀row,hX L row->S45.prQ (prK L) row<=b->∃e∈B,e.2.2=nrQ p L row/\kle L e.2.1 row:=by
 have g:∀ (n:Nat) (row:List Nat),row.length=n->hX L row->S45.prQ (prK L) row<=b->∃e∈B,e.2.2=nrQ p L row/\kle L e.2.1 row:=λn=>by
  induction n with
  |zero=>intro row hl _ hb;have:row=[]:=dJ hl;subst this;exact O.st hb
  |succ n ih=>
   intro row hl ho hb;have hne:row≠[]:=λz=>by rw[z] at hl;cases hl
   have ed:=jN hne;generalize row.dropLast=q at ed;generalize row.getLast hne=k at ed;subst ed;have kn:k<L.length:=ho k (by simp);have h1:=hpr k kn;rw[S45.pr_snoc] at hb;obtain⟨e,he,e1,e2⟩:=ih q (by simpa using hl) (λi hi=>ho i (bW _ hi)) (by omega);obtain⟨_,h3,_,h5,_⟩:=O.ent e he
   have le:S45.prQ (prK L) e.2.1<=S45.prQ (prK L) q:=by
    rcases e2 with z|(z|⟨z,_⟩)
    ·rw[z];exact kY _
    ·have:(rkR L e.2.1).1<=(rkR L q).1:=by unfold rlt at z;omega
     exact this
    ·exact aFu (congrArg Prod.fst z)
   obtain⟨e',he',e3,e4⟩:=O.cl e he k kn (by omega);refine⟨e',he', ?_,aLM e4 (aGl k e2)⟩;rw[e3,vE,vE,<-h5,e1]
 exact λrow=>g row.length row rfl
end
noncomputable def fdD(e:Int×List Nat×List Nat):D:=.tup [.int e.1,.tup (bM e.2.1),.tup (bM e.2.2)]
def aId:List D->R->Prop:=λds r=>∃p L b U,p∈cJ/\StkOk p L/\FewR L b U/\ds=[.lst (L.map (mvD p)),.int b,.tup (bM (st0 p))]/\r=.own ((bkF p L b).map fdD)
noncomputable def yG(ds:List D):List Nat:=ds.map λd=>match d with | .int i=>i.toNat|_=>0
theorem aDF(l:List Nat):yG (bM l)=l:=by unfold yG bM;rw[bA];exact(bZ λi _=>fE i).trans (nY l)
noncomputable def unE:D->Int×List Nat×List Nat
 |.tup [.int a,.tup r,.tup n]=>(a,yG r,yG n)
 |_=>(0,[],[])
theorem aIX(e:Int×List Nat×List Nat):unE (fdD e)=e:=by show(e.1,yG (bM e.2.1),yG (bM e.2.2))=e;rw[aDF,aDF]
noncomputable def bkQ(p:Int×Int)(L:List SK)(b:Int):List Bk:=(bkF p L b).map λe=>(e.1,e.2.1,kN p e.2.2)
def aLr:List D->R->Prop:=λds r=>∃p L b U,p∈cJ/\StkOk p L/\(L.map λs=>sqD s.1).Nodup/\FewR L b U/\ds=[cP p,.lst (L.map skD),.int b]/\r=.own ((bkQ p L b).map enD)
section
open PySem.W PySem.Calls Att
end
def GtAt(A:BM)(s:BK)(x y:BJ)(b:Bool):Prop:=∀ (prog:AD) (w:AM) (E:BJ->BK->Prop) (Q:BJ->BK->Prop),Q (.bool b) s->AK (AH prog w) A (richCompare .Gt x y) Q E s
inductive aNk(A:BM)(s:BK)(fin:Bool):List (BJ×BJ)->Bool->Prop
 |nil:aNk A s fin [] fin
 |eq {x y:BJ}{r:List (BJ×BJ)}{b:Bool}:SeqAt.EqAt A.in1 s x y true->aNk A s fin r b->aNk A s fin ((x,y)::r) b
 |lt {x y:BJ}{r:List (BJ×BJ)}{b:Bool}:SeqAt.EqAt A.in1 s x y false->GtAt A.in1 s x y b->aNk A s fin ((x,y)::r) b
section
open PySem.SeqAt
open PySem.AutoSeq1 (wpAny_loadPart')
open PySem.MeetsSeq PySem.MeetsSeq2 PySem.MeetsSeq3
end
mutual
noncomputable def dgt:D->D->Bool
 |.int a,.int b=>decide (b<a)
 |.tup a,.tup b=>aOU a b
 |_,_=>false
noncomputable def aOU:List D->List D->Bool
 |[],[]=>false
 |[],_::_=>false
 |_::_,[]=>true
 |d::ds,e::es=>if deq d e=true then aOU ds es else dgt d e
end
noncomputable def sz8L:List (Int×Int):=[(1,1),(1,2),(2,1),(2,2),(1,3),(3,1),(1,4),(4,1)]
theorem kJ(x:Int){n:Nat}(h:0<n):(x%(n:Int)).toNat<n/\0<=x%(n:Int):=by have h0:=dG x (show(n:Int)≠0 by omega);have h1:=cE x (show(0:Int)<n by omega);omega
theorem aDd{l:List Int}{i:Nat}{d:Int}(h:i<l.length):(l.map D.int)[i]? =some (.int (l.getD i d)):=by simp[cA,h]
noncomputable def nG(c:Int):Int:=([1,1,3]:List Int).getD (mxS c 10%3).toNat 1
noncomputable def oI(c:Int):Nat:=1+(mxS c 11%4).toNat+(if mxS c 12%8=1 then 1 else 0)
noncomputable def aFH(c:Int):Int:=([1,1,2,3]:List Int).getD (mxS c 5%4).toNat 1
theorem vY(c:Int):nG c=1\/nG c=3:=by
 have g:∀x∈([1,1,3]:List Int),x=1\/x=3:=by decide
 exact g _ (getD_mem (kJ _ (n:=3) (by decide)).1)
theorem aDy(c:Int):1<=aFH c/\aFH c<=3:=by
 have g:∀x∈([1,1,2,3]:List Int),1<=x/\x<=3:=by decide
 exact g _ (getD_mem (kJ _ (n:=4) (by decide)).1)
theorem yH(c:Int):1<=oI c/\oI c<=5:=by
 have:=(kJ (mxS c 11) (n:=4) (by decide)).1;unfold oI;have e:((4:Nat):Int)=4:=rfl;rw[e] at this
 split<;>omega
noncomputable def gU(p:Int×Int)(ns:List Int)(st:Nat)(f:Int):Nat->List SK
 |0=>[]
 |t+1=>if vS (gU p ns st f t) (drQ p (ns.getD (st+1+t) 0)) then gU p ns st f t else gU p ns st f t++[(drQ p (ns.getD (st+1+t) 0),f*aFH (ns.getD (st+1+t) 0))]
noncomputable def wU(p:Int×Int)(ns:List Int)(st:Nat):List SK:=gU p ns st (nG (ns.getD st 0)) (oI (ns.getD st 0))
def aHF:List D->R->Prop:=λds r=>∃p ns st,p∈cJ/\st<=100/\ds=[.scr ns,.int ((st:Nat):Int),cP p]/\r=.val (.tup [.lst ((wU p ns st).map skD),.int (nG (ns.getD st 0))])
structure KitOk(p:Int×Int)(f:Int)(L:List SK):Prop where
 pos:0<L.length
 le:L.length<=5
 st:∀s∈L,qE p s.1/\f<=s.2/\s.2<=3*f
 nd:(L.map λs=>sqD s.1).Nodup
 f13:f=1\/f=3
theorem KitOk.stk{p:Int × Int}{f:Int}{L:List SK}(h:KitOk p f L):StkOk p L:=⟨h.pos,by have:=h.le; omega,fun s hs=>by
 obtain⟨h1,h2,h3⟩:=h.st s hs;have:=h.f13
 exact⟨h1,by omega,by omega⟩⟩
theorem tL{p:Int×Int}(hp:p∈cJ)(ns:List Int)(st:Nat){f:Int}(hf:f=1\/f=3):∀t,(gU p ns st f t).length<=t/\(0<t->0<(gU p ns st f t).length)/\(∀s∈gU p ns st f t,qE p s.1/\f<=s.2/\s.2<=3*f)/\((gU p ns st f t).map λs=>sqD s.1).Nodup
 |0=>⟨aM _,λh=>by omega,λs hs=>(nomatch hs),fH⟩
 |t+1=>by
  obtain⟨a,b,c,d⟩:=tL hp ns st hf t;have e:gU p ns st f (t+1)=if vS (gU p ns st f t) (drQ p (ns.getD (st+1+t) 0)) then gU p ns st f t else gU p ns st f t++[(drQ p (ns.getD (st+1+t) 0),f*aFH (ns.getD (st+1+t) 0))]:=rfl
  rw[e];clear e;cases h:vS (gU p ns st f t) (drQ p (ns.getD (st+1+t) 0)) with
  |true=>
   rw[if_pos rfl];refine⟨by omega,λ_=> ?_,c,d⟩;cases e:gU p ns st f t with
   |nil=>rw[e] at h;cases h
   |cons _ _=>simp
  |false=>
   rw[if_neg bN];refine⟨by rw[aP];simp;omega,λ_=>by rw[aP];simp,λs hs=> ?_, ?_⟩
   ·rcases aY.mp hs with hs|hs
    ·exact c s hs
    ·rw[aG.mp hs];obtain⟨p1,p2⟩:=aDy (ns.getD (st+1+t) 0);refine⟨aMT hp _, ?_⟩;show f<=f*_/\f*_<=3*f
     rcases hf with rfl|rfl<;>omega
   ·rw[aW];refine bF.mpr ⟨d,by simp,λx hx y hy z=>aJa h ?_⟩;have:y=sqD (drQ p (ns.getD (st+1+t) 0)):=by simpa using hy
    rw[<-this,<-z];exact hx
theorem aGm{p:Int×Int}(hp:p∈cJ)(ns:List Int)(st:Nat):KitOk p (nG (ns.getD st 0)) (wU p ns st):=by obtain⟨a,b,c,d⟩:=tL hp ns st (vY (ns.getD st 0)) (oI (ns.getD st 0));obtain⟨m1,m2⟩:=yH (ns.getD st 0);exact⟨b (by omega),cK a m2,c,d,vY _⟩
noncomputable def lI(n:Nat):Nat:=([12,5,4,3,2]:List Nat).getD (n-1) 0
noncomputable def yP(c:Int)(n:Nat)(f:Int):Int:=f*(c%((lI n:Int)+1))+c / 16%f
def aHG:List D->R->Prop:=λds r=>∃ (c:Int) (L:List SK) (f:Int),0<L.length/\L.length<=5/\(f=1\/f=3)/\ds=[.int c,.lst (L.map skD),.int f]/\r=.val (.int (yP c L.length f))
theorem aFZ(c:Int)(n:Nat){f:Int}(hf:f=1\/f=3):0<=yP c n f/\yP c n f<f*((lI n:Int)+1):=by
 have h0:=dG c (show(lI n:Int)+1≠0 by omega);have h1:=cE c (show(0:Int)<(lI n:Int)+1 by omega);unfold yP
 rcases hf with rfl|rfl<;>omega
noncomputable def rK(n:Nat):Nat->List (List Nat)
 |0=>[[]]
 |k+1=>(bP n).flatMap λi=>(rK n k).map λr=>i::r
theorem rK_mem{n:Nat}:∀ {k:Nat}{row:List Nat},row∈rK n k↔row.length=k/\∀i∈row,i<n
 |0,row=>by
  show row∈[[]]↔_;rw[aG]
  constructor
  ·rintro rfl;exact⟨rfl,λi hi=>(nomatch hi)⟩
  ·exact λh=>dJ h.1
 |k+1,row=>by
  show row∈(bP n).flatMap _↔_;rw[dO]
  constructor
  ·rintro⟨i,hi,h⟩;obtain⟨r,hr,rfl⟩:=aN.mp h;obtain⟨h1,h2⟩:=rK_mem.mp hr;refine⟨by rw[bS,h1],λj hj=> ?_⟩
   rcases aX.mp hj with rfl|hj
   ·exact cM.mp hi
   ·exact h2 j hj
  ·rintro⟨h1,h2⟩;cases row with
   |nil=>cases h1
   |cons i r=>exact⟨i,cM.mpr (h2 i aH),aN.mpr ⟨r,rK_mem.mpr ⟨by simpa using h1,λj hj=>h2 j (aF _ hj)⟩,rfl⟩⟩
noncomputable def upK(n K:Nat):List (List Nat):=(bP (K+1)).flatMap (rK n)
theorem upK_mem{n K:Nat}{row:List Nat}:row∈upK n K↔row.length<=K/\∀i∈row,i<n:=by
 unfold upK;rw[dO]
 constructor
 ·rintro⟨k,hk,h⟩;obtain⟨h1,h2⟩:=rK_mem.mp h;have:=cM.mp hk;exact⟨by omega,h2⟩
 ·rintro⟨h1,h2⟩;exact⟨row.length,cM.mpr (by omega),rK_mem.mpr ⟨rfl,h2⟩⟩
theorem aDJ{f:Int}{pr:Nat->Int}:∀ (row:List Nat),(∀k∈row,f<=pr k)->f*(row.length:Int)<=S45.prQ pr row
 |[],_=>by simp[S45.prQ]
 |k::row,h=>by
  have ih:=aDJ row λj hj=>h j (aF _ hj)
  have h1:=h k aH;show f*((row.length+1:Nat):Int)<=(pr k::row.map pr).sum;rw[sW];have e:S45.prQ pr row=(row.map pr).sum:=rfl;rw[<-e,Int.natCast_add,Int.mul_add];omega
theorem aIL{p:Int×Int}{f:Int}{L:List SK}(h:KitOk p f L){b:Int}(hb:b<f*((lI L.length:Int)+1)):FewR L b (upK L.length (lI L.length)):=by
 have g:∀n∈[1,2,3,4,5],(upK n (lI n)).length<=400/\lI n<=300:=by decide+kernel
 have hl:L.length∈[1,2,3,4,5]:=by
  have h1:=h.pos;have h2:=h.le;have e:L.length=1\/L.length=2\/L.length=3\/L.length=4\/L.length=5:=by omega
  rcases e with e|e|e|e|e<;>rw[e]<;>decide
 obtain⟨g1,g2⟩:=g _ hl;refine⟨g1,λrow hr=>cK (upK_mem.mp hr).1 g2,λrow ho hr=>upK_mem.mpr ⟨?_,ho⟩⟩;have:=aDJ (f:=f) (pr:=prK L) row λk hk=>(h.st _ (getD_mem (d:=(AN:SK)) (ho k hk))).2.1
 have hf:=h.f13
 rcases hf with rfl|rfl<;>omega
structure RwsOk(L:List SK)(b:Int)(n:Nat)(R:List (List Nat)):Prop where
 ne:R≠[]
 len:R.length<=n+1
 ok:∀row∈R,hX L row/\S45.prQ (prK L) row<=b/\row.length<=n
structure BqOk(p:Int×Int)(L:List SK)(b:Int)(B:List Bk):Prop where
 len:B.length<=400
 ent:∀e∈B,hX L e.2.1/\e.1=S45.prQ (prK L) e.2.1/\e.1<=b/\e.2.2=S45.tabQ (gG p L) (dH p) e.2.1/\e.2.1.length<=300
 nd:(B.map λe=>e.2.2).Nodup
 srt:(B.map λe=>e.2.1).Pairwise (klt L)
 cl:∀e∈B,∀k,k<L.length->e.1+prK L k<=b->∃e'∈B,e'.2.2=gG p L k e.2.2/\kle L e'.2.1 (e.2.1++[k])
 st:0<=b->∃e∈B,e.2.2=dH p/\kle L e.2.1 []
 all:∀row,hX L row->S45.prQ (prK L) row<=b->∃e∈B,e.2.2=S45.tabQ (gG p L) (dH p) row/\kle L e.2.1 row
theorem zR{p:Int×Int}{L:List SK}{b:Int}{U:List (List Nat)}(hp:p∈cJ)(S:StkOk p L)(F:FewR L b U):BqOk p L b (bkQ p L b):=by
 have O:=aHB (p:=p) S.pr F;have nr:∀ {row:List Nat},hX L row->NOk p (nrQ p L row)/\kN p (nrQ p L row)=S45.tabQ (gG p L) (dH p) row:=λh=>wF hp (λs hs=>(S.st s hs).1) h
 have mem:∀ {e:Int×List Nat×List Nat},e∈bkF p L b->(e.1,e.2.1,kN p e.2.2)∈bkQ p L b:=λh=>aN.mpr ⟨_,h,rfl⟩
 refine⟨by unfold bkQ;rw[aB];exact O.len,λx hx=> ?_, ?_, ?_,λx hx k hk hle=> ?_,λh=> ?_,λrow ho hr=> ?_⟩
 ·obtain⟨e,he,rfl⟩:=aN.mp hx;obtain⟨h1,h2,h3,h4,h5⟩:=O.ent e he;exact⟨h1,h2,h3,by show kN p e.2.2=_;rw[h4];exact(nr h1).2,h5⟩
 ·unfold bkQ;rw[bA];have:(bkF p L b).map ((λe:Bk=>e.2.2) ∘ λe=>(e.1,e.2.1,kN p e.2.2))=((bkF p L b).map λe=>e.2.2).map (kN p):=by rw[bA];rfl
  rw[this];have q:=O.nd;unfold List.Nodup at q ⊢;rw[dQ];refine List.Pairwise.imp_of_mem (λ{a c} ha hc h z=>h ?_) q;obtain⟨e,he,rfl⟩:=aN.mp ha;obtain⟨e',he',rfl⟩:=aN.mp hc;have n1:=(nr (O.ent e he).1).1;have n2:=(nr (O.ent e' he').1).1;rw[<-(O.ent e he).2.2.2.1] at n1;rw[<-(O.ent e' he').2.2.2.1] at n2;exact aBA hp n1 n2 z
 ·unfold bkQ;rw[bA];exact O.srt
 ·obtain⟨e,he,rfl⟩:=aN.mp hx;obtain⟨e',he',h1,h2⟩:=O.cl e he k hk hle;obtain⟨o1,_,_,o4,_⟩:=O.ent e he;refine⟨_,mem he', ?_,h2⟩
  have ho:hX L (e.2.1++[k]):=λi hi=>by
   rcases aY.mp hi with hi|hi
   ·exact o1 i hi
   ·rw[aG.mp hi];exact hk
  show kN p e'.2.2=gG p L k (kN p e.2.2);rw[h1,(nr ho).2,S45.tab_snoc,o4,(nr o1).2]
 ·obtain⟨e,he,h1,h2⟩:=O.st h;refine⟨_,mem he, ?_,h2⟩;show kN p e.2.2=dH p;rw[h1];exact aDx p
 ·obtain⟨e,he,h1,h2⟩:=O.all S.pr row ho hr;refine⟨_,mem he, ?_,h2⟩;show kN p e.2.2=_;rw[h1];exact(nr ho).2
section
variable {X:Cx}{sd:List Slot}{a b c e:Expr}{pos:Pos}{d d0:D}{ds:List D}{κ:Type}[DecidableEq κ]{hk:HK X.prog X.w κ}{ks:List κ}{k:κ}
def rGG(hk:HK X.prog X.w κ):V->List V->Hp->VK->Prop:=λx us H Q=>∃ (F:Hp) (l ad:BL) (k:κ) (y:V) (o:BO) (ks:List κ) (ds:List D),x=.ref l/\us=[.ref ad,y]/\Same F H/\H l=some (exO l o)/\hk.rel F k ad/\X.A.units+2<AO/\TG hk X.K F l o ks ds/\
 (∀ (n:Nat) (d:D) (v:V),ks[n]? =some k->ds[n]? =some d->Rep X.K F d v->Q v H)/\(k∉ks->Q y H)
theorem aJv:MtR X "dict.get" (rGG hk):=by
 intro pins s σ H x vs v us Q I rx rv h;obtain⟨F,l,ad,k,y,o,ks,ds,rfl,rfl,sF,hl,ha,hu,t,q1,q2⟩:=h;obtain rfl:v=Value.ref l:=rx;cases rv with
 |cons r1 rv=>
  obtain⟨u,rfl,ru⟩:=Vals.one rv;rename_i b;obtain rfl:b=Value.ref ad:=r1;obtain⟨vs,xs,rl,kg,dd,_,hin⟩:=t.dict I.hok sF hl;refine Av jJ dd.typeIs oX (oB _ _ _) (meetsH_dict_get_default hk.kind l ad t.2.2.1 u) ⟨hk.room hu,k,xs,hk.ok I.hok (hk.mono sF ha),dd, ?_⟩
  by_cases hmem:k∈ks
  ·obtain⟨n,hn⟩:=cW hmem
   have nl:n<ds.length:=by have:=(aE.mp hn).1;have:=t.1;omega
   have hd:ds[n]? =some ds[n]:=by simp[nl]
   obtain⟨v,hv,rv'⟩:=rl.get hd;obtain⟨w',hw,rw'⟩:=RelO.some_of (v:=v) (o:=(atKey xs k).map (·.2)) (by rw[<-sV t.2.2.2.1 hn hv];exact kg.val k);refine⟨v,H,I.tok _, ?_,q1 n _ v hn hd rv'⟩;rw[hw];exact rw'
  ·refine⟨y,H,I.tok _, ?_,q2 hmem⟩
   have:atKey xs k=none:=by
    have:=hin k;rw[decide_eq_false hmem] at this;cases z:atKey xs k with
    |none=>rfl
    |some _=>rw[z] at this;cases this
   rw[this];exact ru
theorem aJU(i:Nat){x:Str}{p ap cp:Pos}(hu:X.A.units+2<AO)(hs:sd[i]? =some (.val (gD hk X.K ks ds)))
  (hb:PEd X sd b (.val (hk.dat k))) (hc:PEd X sd c (.val d0)) (h1:∀n:Nat,ks[n]? =some k->ds[n]? =some d) (h2:k∉ks->d0=d)
  (hm:PE X (.Call (.Attribute (.Name x p) "get" ap) [b,c] [] cp) (λσ H Q=>lG i σ H λx H1=>(∃l ob,x=.ref l/\H1 l=some (exO l ob)/\ob.ExactDict)/\(lD (wE X b) (lD (wE X c) uA)) σ H1 λxs H2=>rGG hk x xs H2 Q):=by exact aIK gT jJ aAQ aJv (pv _) (fX fW (fX fW pa_nil))):
  PEd X sd (.Call (.Attribute (.Name x p) "get" ap) [b,c] [] cp) (.val d):= .mk fun σ F H S=>hm.to (by
 obtain⟨ov,g1,v0,g2,g3⟩:=S.slots.get hs;subst g2;obtain⟨l,o,rfl,f1,t⟩:=gD_rep.mp g3;refine⟨.ref l,g1,⟨l,o,rfl,S.sub _ _ f1,t.2.2.2.2.choose_spec.choose_spec.choose_spec.choose_spec.2.2.1⟩,(hb σ F H S).imp λv1 H1 ⟨F1,S1,s1,q1⟩=>(hc σ F1 H1 S1).imp λv2 H2 ⟨F2,S2,s2,q2⟩=> ?_⟩;obtain⟨ad,rfl,hr⟩:=hk.key q1;refine⟨F2,l,ad,k,v2,o,ks,ds,rfl,rfl,S2.sub,S2.sub _ _ (s2 _ _ (s1 _ _ f1)),hk.mono s2 hr,hu,t.mono (s1.trans s2),λn d' v e1 e2 e3=> ?_,λhn=> ?_⟩
 ·have:=h1 n e1;rw[e2] at this;cases this;exact⟨F2,S2,s1.trans s2,e3⟩
 ·have:=h2 hn;subst this
  exact⟨F2,S2,s1.trans s2,q2⟩)
end
theorem aMY{L:List SK}(hpr:∀k,k<L.length->1<=prK L k){row:List Nat}(h:hX L row):0<=S45.prQ (prK L) row:=by
 have:=S45.len_pr (pr:=prK L) row λk hk=>hpr k (h k hk)
 omega
theorem aGN{B:List Bk}(nd:(B.map λe=>e.2.2).Nodup){t:Nat}{e:Bk}(h:B[t]? =some e):tbK e.2.2∉ksE (B.take t):=λz=>by
 obtain⟨x,x1,x2⟩:=aN.mp z;have x3:x.2.2=e.2.2:=mV x2
 have:e.2.2∈(B.map λe=>e.2.2).take t:=by rw[<-iO,<-x3];exact aN.mpr ⟨x,x1,rfl⟩
 exact aDW nd (by rw[aQ,h];rfl) this
theorem aJI{L:List SK}(hpr:∀k,k<L.length->1<=prK L k){a:List Nat}(ho:hX L a)(h:kle L a []):a=[]:=by
 rcases h with h|(h|⟨_,h⟩)
 ·exact h
 ·have h1:=aMY hpr ho;unfold rlt rkR at h;have e:S45.prQ (prK L) ([]:List Nat)=0:=rfl;simp only[e] at h;have:(([]:List Nat).length:Int)=0:=rfl;omega
 ·cases a with
  |nil=>rfl
  |cons x a=>cases h
theorem aOc(e:Bk):pl (enD e)=true:=by show(true&&(plL (bM e.2.1)&&(plL (e.2.2.map bJ)&&true)))=true;rw[(pG e.2.1).1,nQ];rfl
theorem aMa(e:Bk):dep (enD e)<=3:=by show max 0 (max (jP (bM e.2.1)+1) (max (jP (e.2.2.map bJ)+1) 0))+1<=3;have:=nV e.2.2;rw[(pG e.2.1).2];omega
theorem aNa(B:List Bk):plL (B.map enD)=true/\jP (B.map enD)<=3:=⟨vV enD aOc B,tU enD 3 aMa B⟩
def FI(K:aA)(mg:Str->Option BJ)(n:Str)(st:BP):Prop:=∃f fd,mg n=some (.ref f)/\Fun K n n st f fd
theorem FI.mk{K:aA}{h:BN}{mg:Str->Option BJ}{n:Str}{st:BP}{od an:Option BL}{sl:Array (Option BJ)}{oc kV dc pm cd ct:BJ}{f:BL}(X:K.In h)(G:h.Ns AQ mg)(a:eC K AQ n=some (some (.ref f)))(l:K.lookup f=some ⟨oc,od,.func (gK n n (lH st) (iX st) (bI st) .none kV dc pm an cd ct),sl⟩)(c:kX K cd n=true)(k:eM K (.ref f)=true):FI K mg n st:=⟨f,_,qN X G a,aHy (st:=st) l c k⟩
def aKZ:V->List V->Hp->VK->Prop:=λx vs H Q=>∃l xs y,∃ (z:Int) (k:Nat),x=.ref l/\vs=[.int z,y]/\z.toNat=k/\0<=z/\k<=xs.length/\xs.length<=1000/\H l=some (.lst xs)/\Q .non (upd H l (.lst (xs.take k++y::xs.drop k)))
theorem aBw{y:V}{u:BJ}(ry:RelV y u):∀ {xs:List V}{its:List BJ} (k:Nat),Vals xs its->Vals (xs.take k++y::xs.drop k) (its.take k++u::its.drop k)
 |_,_,0,h=>by rw[lE,lE,mW,mW];exact .cons ry h
 |_,_,k+1,.nil=>.cons ry .nil
 |_,_,k+1,.cons r h=>.cons r (aBw ry k h)
theorem aJO{X:Cx}:MtM X "list.insert" aKZ:=by
 intro pins s σ H x vs v us Q I rx rv h;obtain⟨l,xs,y,x,k,rfl,rfl,hxk,hx0,hk,h1000,hH,q⟩:=h;cases rx;cases rv with
 |cons r0 rv=>
  obtain⟨u,rfl,ru⟩:=Vals.one (show Vals [y] _ from rv);obtain⟨t,rfl⟩:=r0;obtain⟨z,its,n,r,hl,e⟩:=I.lstM hH;have ln:=r.length;have s1:=hV (show its.length<=1000 by omega)
  have fit:¬ (!Builtin.List.listFitsIndex x)=true:=by
   unfold Builtin.List.listFitsIndex;have h1: -(2^63:Int)<=x:=by omega
   have h2:x<2^63:=by omega
   rw[decide_eq_true h1,decide_eq_true h2];decide
  have hz:its.toArray.size<=AL:=by rw[aS];exact eJ s1
  have M:=PySem.AutoSeq1.list_insert_list_int_val_1 l its.toArray n x t u fit hz;refine call_meets F.slot_list_insert ⟨_,e,rfl⟩ F.entry_list_insert (F.args_list_insert_3 _ _ _) M ⟨e, ?_⟩;refine⟨.non,_,I.lset (its':=its.take k++u::its.drop k) hH e ?_ (aBw ru k r) ?_,rfl,q⟩
  ·have hn:¬ (x<0):=by omega
   have hm:min x.toNat its.toArray.size=k:=by rw[aS];omega
   simp only[if_neg hn,hm];apply oV.mp;simp;exact hW (by rw[iS];exact aM _)
  ·rw[aP,bS,bX,iS];omega
section
variable {X:Cx}{sd:List Slot}{e b:Expr}{pos:Pos}{d:D}{ds:List D}{E:kR}
theorem RepL.ins{K:aA}{F:Hp}{d:D}{v:V}(r:Rep K F d v):∀ {ds:List D}{xs:List V} (k:Nat),RepL K F ds xs->RepL K F (ds.take k++d::ds.drop k) (xs.take k++v::xs.drop k)
 |ds,xs,0,h=>by rw[lE,lE,mW,mW];exact .cons r h
 |[],xs,k+1,h=>by simp only[RepL] at h;subst h;exact .cons r .nil
 |d'::ds,xs,k+1,h=>by obtain⟨x,xs',rfl,a1,r1⟩:=h.uncons;exact .cons a1 (RepL.ins r k r1)
theorem aBB(i k:Nat){x:Str}{p ap cp:Pos}{l:BL}(hs:sd[i]? =some (.own l ds))(hb:PEd X sd b (.val (.int (k:Int))))(h:PEd X sd e (.val d))(hk:k<=ds.length)(hl:ds.length<=1000)(hE:E.nx (sd.set i (.own l (ds.take k++d::ds.drop k))))
  (hm:PE X (.Call (.Attribute (.Name x p) "insert" ap) [b,e] [] cp) (tBM X.K "list" aKZ (lG i) (lD (wE X b) (lD (wE X e) uA))):=by exact zJ iR PySem.F.slot_list_insert PySem.F.type_list_insert aJO (pv _) (fX fW (fX fW pa_nil)))
  (hsw:Ad (.Call (.Attribute (.Name x p) "insert" ap) [b,e] [] cp) none pos.line X.env=pure false:=by rfl):
  PSd1 X sd (.Expr (.Call (.Attribute (.Name x p) "insert" ap) [b,e] [] cp) pos) E:=.mk λσ F H S=>
 (pW hm hsw).to (by
  obtain⟨o,h1,h2,n,xs,q,rl⟩:=S.slots.get hs;refine⟨.ref l,by rw[h1,h2],.inl ⟨rfl,xs,.of q⟩,(hb σ F H S).imp λv0 H0 ⟨F0,S0,s0,q0⟩=>(h σ F0 H0 S0).imp λv H1 ⟨F1,S1,s1,q1⟩=> ?_⟩;obtain⟨o',h1',h2',n',xs',q',rl'⟩:=S1.slots.get hs;simp only[ResOk,Rep] at q0;subst q0;have ln:=rl'.len
  exact⟨l,xs',v,(k:Int),k,rfl,rfl,by omega,by omega,by omega,by omega,q',_,F1,S1.wr hs (RepL.ins q1 k rl'),s0.trans s1,hE⟩)
end
theorem aBW(n:Nat):pF n none none (some (-1))=(bP n).reverse:=by
 have e:pF n none none (some (-1))=(bP n).map λk=>n-1-k:=by
  unfold pF sliceRange;simp only[Al]
  by_cases h:n=0
  ·subst h;rfl
  ·have hp:¬ ((some (-1:Int)).getD 1>0):=by decide
   simp only[if_neg hp];have e1:(some (-1:Int)).getD 1= -1:=rfl;rw[e1,if_pos (show(n:Int)-1> -1 by omega),show(-(-1):Int)=1 from rfl,aPf,show(((n:Int)-1 - -1 - -1-1)).toNat=n by omega];refine bZ λk hk=> ?_
   have:=cM.mp hk;omega
 rw[e];refine lK (by simp) λi h1 h2=> ?_
 rw[cY,mX,List.getElem_reverse,mX,jT]
theorem aFb{α:Type}(l:List α):lW l none none (some (-1))=l.reverse:=by
 unfold lW;rw[aBW,List.filterMap_reverse];congr 1
 have g:∀n,n<=l.length->(bP n).filterMap (l[·]?)=l.take n:=λn=>by
  induction n with
  |zero=>exact λ_=>rfl
  |succ n ih=>intro h;rw[aKN,List.filterMap_append,ih (by omega),eZ,eW (by omega)];simp[show n<l.length from h]
 rw[g _ (aM _),cZ]
noncomputable abbrev E0:=Int×List Int×List (List Int)
structure ShE(E:List E0):Prop where
 len:E.length<=600
 rl:∀e∈E,e.2.1.length<=300
namespace S45
variable {T:Type}[DecidableEq T]{n:Nat}{pr:Nat->Int}{beh:Nat->T->T}{t0:T}
noncomputable def ordB{α:Type}(rv:Bool)(l:List α):List α:=if rv then l.reverse else l
theorem aEf{α:Type}(rv:Bool)(l:List α)(x:α):x∈ordB rv l↔x∈l:=by
 unfold ordB
 split
 ·exact List.mem_reverse
 ·exact Iff.rfl
noncomputable def run43(n:Nat)(pr:Nat->Int)(beh:Nat->T->T)(t0:T)(rv:Bool):Nat->List (Ent T)×Lay T
 |0=>([],aNA t0)
 |t+1=>(ordB rv ((run43 n pr beh t0 rv t).2 t)).foldl (one n pr beh t) (run43 n pr beh t0 rv t)
theorem Ok.perm{t:Int}{rest rest':List (List Nat×T)}{s:List (Ent T)×Lay T}(o:Ok n pr beh t0 t rest s)(h:∀x,x∈rest'↔x∈rest):Ok n pr beh t0 t rest' s:=
 ⟨o.ent,o.nd,o.ly,o.par,o.ch,λj x hj hx=>(o.done j x hj hx).imp (λz=>⟨z.1,(h x).mpr z.2⟩) id,λx hx=>o.sub x ((h x).mp hx),o.le⟩
theorem ok_run43(hp:∀k,k<n->1<=pr k)(rv:Bool):∀t:Nat,Ok n pr beh t0 (t:Int) (ordB rv ((run43 n pr beh t0 rv t).2 t)) (run43 n pr beh t0 rv t)
 |0=>(aIv (beh:=beh) (t0:=t0) hp 0).perm λx=>aEf rv _ x
 |t+1=>by
  have o:Ok n pr beh t0 (t:Int) [] (run43 n pr beh t0 rv (t+1)):=Ok.fold hp (iF t) (ok_run43 hp rv t);refine Ok.perm (rest:=(run43 n pr beh t0 rv (t+1)).2 ((t+1:Nat):Int)) ⟨λe he=> ?_,o.nd,o.ly,o.par,o.ch,λj x hj hx=> ?_,λx hx=>hx,o.le⟩ λx=>aEf rv _ x
  ·obtain⟨h1,h2,h3⟩:=o.ent e he;exact⟨h1,by omega,h3⟩
  ·by_cases z:j<=(t:Int)
   ·rcases o.done j x z hx with⟨_,h⟩|h
    ·cases h
    ·exact .inr h
   ·have:j=((t+1:Nat):Int):=by omega
    subst this;exact .inl ⟨rfl,hx⟩
theorem run43_bd(rv:Bool):∀t:Nat,Bd n (run43 n pr beh t0 rv t)
 |0=>aHL (beh:=beh) (pr:=pr) (t0:=t0) 0
 |t+1=>fold_bd (run43_bd rv t)
theorem aGR{t:Int}{s:List (Ent T)×Lay T}(e:List Nat×T):s.1.length<=(one n pr beh t s e).1.length:=by
 unfold one
 split
 ·show _<=(s.1++[_]).length;rw[aP];omega
 ·exact aM _
theorem yQ{t:Int}:∀ {rest:List (List Nat×T)}{s:List (Ent T)×Lay T},s.1.length<=(rest.foldl (one n pr beh t) s).1.length
 |[],_=>aM _
 |e::rest,s=>cK (aGR e) (yQ (rest:=rest) (s:=one n pr beh t s e))
theorem run43_ne(rv:Bool):∀t:Nat,0<(run43 n pr beh t0 rv (t+1)).1.length
 |0=>by
  have e:ordB rv ((run43 n pr beh t0 rv 0).2 ((0:Nat):Int))=[([],t0)]:=by cases rv<;>rfl
  show 0<((ordB rv ((run43 n pr beh t0 rv 0).2 ((0:Nat):Int))).foldl (one n pr beh ((0:Nat):Int)) (run43 n pr beh t0 rv 0)).1.length;rw[e];show 0<(one n pr beh ((0:Nat):Int) ([],aNA t0) ([],t0)).1.length;unfold one;rw[if_pos ⟨by simp,by simp⟩];simp
 |t+1=>aZ (run43_ne rv t) yQ
end S45
noncomputable def nJ(p:Int×Int)(L:List SK)(rv:Bool)(t:Nat):aNN:=S45.run43 L.length (prK L) (gG p L) (dH p) rv t
theorem aIM{p:Int×Int}{L:List SK}{b t:Int}{U:List (List Nat)}(F:FewR L b U)(ht:t<=b){rest:List (List Nat×List (List Int))}{s:aNN}(o:S45.Ok L.length (prK L) (gG p L) (dH p) t rest s):s.1.length<=400:=by
 have nd:(s.1.map λe=>e.2.1).Nodup:=by have q:=o.nd;unfold List.Nodup at q ⊢;rw[dQ] at q ⊢;refine List.Pairwise.imp_of_mem (λ{a c} ha hc h z=>h ?_) q;rw[(o.ent a ha).2.2.2.2,(o.ent c hc).2.2.2.2,z]
 have:=nd.length_le_of_subset (l₂:=U) λrow hr=>by obtain⟨e,he,rfl⟩:=aN.mp hr;obtain⟨_,h2,h3,h4,_⟩:=o.ent e he;exact F.all _ h4 (by omega)
 rw[aB] at this;have:=F.len;omega
noncomputable def vU(c:Int)(B:List Bk)(e:Bk):List Bk:=B.take (mxS c B.length%((B.length:Int)+1)).toNat++e::B.drop (mxS c B.length%((B.length:Int)+1)).toNat
noncomputable def nR(c:Int)(B:List Bk):List Bk:=B.foldl (vU c) []
theorem aCi(c:Int)(B:List Bk)(e:Bk):(vU c B e).Perm (e::B):=by unfold vU;refine iV.trans (List.Perm.cons _ ?_);rw[iE]
theorem aBX(c:Int)(B:List Bk)(e:Bk):nR c (B++[e])=vU c (nR c B) e:=by unfold nR;rw[jU];rfl
theorem xS(c:Int):∀B:List Bk,(nR c B).Perm B:=by
 have g:∀ (B A:List Bk),(B.foldl (vU c) A).Perm (A++B):=λB=>by
  induction B with
  |nil=>exact λA=>by rw[dD];exact .refl _
  |cons e B ih=>intro A;refine(ih (vU c A e)).trans ?_;refine((aCi c A e).append_right B).trans ?_;exact iV.symm
 exact λB=>g B []
noncomputable def nA(p:Int×Int)(L:List SK)(b:Nat)(c:Int):List Bk:=nR c (nJ p L (decide (c%2=1)) (b+1)).1
def aIl:List D->R->Prop:=λds r=>∃p L c U,∃b:Nat,p∈cJ/\StkOk p L/\b<=40/\FewR L (b:Int) U/\ds=[cP p,.lst (L.map skD),.int (b:Int),.int c]/\r=.own ((nA p L b c).map enD)
theorem aGL{p:Int×Int}{L:List SK}{b:Nat}{c:Int}{U:List (List Nat)}(hp:p∈cJ)(S:StkOk p L)(F:FewR L (b:Int) U):BkOk p L (b:Int) (nA p L b c)/\S45.HoldsP L.length (prK L) (gG p L) (b:Int) (nA p L b c)/\(nA p L b c)≠[]/\(nA p L b c).length<=400/\∀e∈nA p L b c,e.2.1.length<=300:=by
 have o:S45.Ok L.length (prK L) (gG p L) (dH p) (b:Int) [] (nJ p L (decide (c%2=1)) (b+1)):=S45.Ok.fold S.pr (iF b) (S45.ok_run43 S.pr (decide (c%2=1)) b);have l4:=aIM F (kY _) o;have ne:=S45.run43_ne (n:=L.length) (pr:=prK L) (beh:=gG p L) (t0:=dH p) (decide (c%2=1)) b;have ne:0<(nJ p L (decide (c%2=1)) (b+1)).1.length:=ne;have pm:=xS c (nJ p L (decide (c%2=1)) (b+1)).1;unfold nA;generalize nJ p L (decide (c%2=1)) (b+1)=s at o l4 ne pm
 have rl:∀e∈s.1,e.2.1.length<=300:=λe he=>by obtain⟨_,h2,h3,h4,_⟩:=o.ent e he;exact F.rl _ (F.all _ h4 (by omega))
 refine⟨⟨by rw[pm.length_eq];omega,λe he=> ?_, ?_⟩,S45.holds_all S.pr o (kY _) (iF b) (hG.mp ne) ?_ λx=>⟨λh=> ?_,λh=>pm.mem_iff.mpr h.1⟩,hG.mp (by rw[pm.length_eq];exact ne),by rw[pm.length_eq];exact l4,λe he=>rl e (pm.mem_iff.mp he)⟩
 ·have he:=pm.mem_iff.mp he;obtain⟨h1,h2,h3,h4,h5⟩:=o.ent e he;exact⟨h3,h2,h4,by have:=rl e he;omega,h5⟩
 ·exact(pm.map _).nodup_iff.mpr o.nd
 ·exact cK (aCD _ _) (by omega)
 ·have h:=pm.mem_iff.mp h;exact⟨h,(o.ent x h).2.1⟩
end DL
namespace DL
open PySem PySem.Spec PyProof.Rows L2
open PySem.W (KasT kas_sort)
def CanC(p:Int×Int)(c:List (List Int)):Prop:=((dH p).filter λf=>decide (f∈c))=c
section
variable {p:Int×Int}{τ:List Nat}{c d:List (List Int)}{W:List (Option (List (List Int)))}{T:List (List Int)}
structure WCan(p:Int×Int)(W:List (Option (List (List Int)))):Prop where
 len:W.length=(dH p).length
 ok:∀o∈W,∀c,o=some c->c≠[]/\CanC p c
end
structure ChN(A c:List (List Int)):Prop where
 ne:c≠[]
 nd:c.Nodup
 sub:∀f∈c,f∈A
structure WN(A:List (List Int))(W:List (Option (List (List Int)))):Prop where
 len:W.length=A.length
 ok:∀o∈W,∀c,o=some c->ChN A c
noncomputable def aFM(c:Int):Int×Int:=sz8L.getD (mxS c 30%8).toNat (1,1)
theorem aJW(c:Int):aFM c∈cJ:=by
 have g8:∀p∈sz8L,p∈cJ:=by decide+kernel
 exact g8 _ (getD_mem (kJ _ (n:=8) (by decide)).1)
def aLo:List D->R->Prop:=λds r=>∃c,ds=[.int c]/\r=.val (cP (aFM c))
theorem aLn{α:Type}{R:α->α->Prop}(irr:∀a,¬ R a a)(asy:∀a b,R a b->¬ R b a):∀ (A B:List α),A.Pairwise R->B.Pairwise R->(∀x,x∈A↔x∈B)->A=B
 |[],[],_,_,_=>rfl
 |[],b::B,_,_,h=>(nomatch (h b).mpr aH)
 |a::A,[],_,_,h=>(nomatch (h a).mp aH)
 |a::A,b::B,h1,h2,h=>by
  obtain⟨a1,a2⟩:=jH.mp h1;obtain⟨b1,b2⟩:=jH.mp h2
  have e:a=b:=by
   rcases aX.mp ((h a).mp aH) with e|ha
   ·exact e
   ·rcases aX.mp ((h b).mpr aH) with e|hb
    ·exact e.symm
    ·exact(asy _ _ (a1 b hb) (b1 a ha)).elim
  subst e;rw[aLn irr asy A B a2 b2 λx=>⟨λhx=> ?_,λhx=> ?_⟩]
  ·rcases aX.mp ((h x).mp (aF _ hx)) with rfl|hx2
   ·exact(irr _ (a1 _ hx)).elim
   ·exact hx2
  ·rcases aX.mp ((h x).mpr (aF _ hx)) with rfl|hx2
   ·exact(irr _ (b1 _ hx)).elim
   ·exact hx2
theorem aHA{L:List SK}{a c:List Nat}(h:kle L a c)(h2:kle L c a):a=c:=by
 rcases h with h|h
 ·exact h
 ·rcases h2 with h2|h2
  ·exact h2.symm
  ·exact(uZ L _ (aAS h h2)).elim
theorem wH{L:List SK}{a c:List Nat}(h:kle L a c):S45.prQ (prK L) a<=S45.prQ (prK L) c:=by
 rcases h with rfl|h|⟨h,_⟩
 ·exact kY _
 ·unfold rlt rkR at h;simp only at h;omega
 ·exact aFu (congrArg Prod.fst h)
theorem tO{α β:Type}{k:α->β}:∀ {l:List α}{x y:α},(l.map k).Nodup->x∈l->y∈l->k x=k y->x=y
 |[],_,_,_,h,_,_=>by cases h
 |z::l,x,y,nd,hx,hy,e=>by
  obtain⟨n1,n2⟩:=bG.mp (show(k z::l.map k).Nodup from nd)
  rcases aX.mp hx with h1|h1<;>rcases aX.mp hy with h2|h2
  ·rw[h1,h2]
  ·exact(n1 (aN.mpr ⟨y,h2,by rw[<-e,h1]⟩)).elim
  ·exact(n1 (aN.mpr ⟨x,h1,by rw[e,h2]⟩)).elim
  ·exact tO n2 h1 h2 e
section
variable {p:Int×Int}{L:List SK}{b b':Int}{B B':List Bk}
theorem BqOk.least(O:BqOk p L b B){e:Bk}(he:e∈B){row:List Nat}(ho:hX L row)(hr:S45.prQ (prK L) row<=b)(ht:S45.tabQ (gG p L) (dH p) row=e.2.2):kle L e.2.1 row:=by obtain⟨x,hx,x1,x2⟩:=O.all row ho hr;have:x=e:=tO O.nd hx he (x1.trans ht);rw[<-this];exact x2
theorem aKe(O:BqOk p L b B)(O':BqOk p L b' B')(h:b'<=b):B'=B.filter λe=>decide (e.1<=b'):=by
 have ex:∀ {x y:Bk},x∈B->y∈B'->x.2.1=y.2.1->x=y:=λ{x y} hx hy e=>by obtain⟨_,h2,_,h4,_⟩:=O.ent x hx;obtain⟨_,g2,_,g4,_⟩:=O'.ent y hy;obtain⟨x1,x2,x3⟩:=x;obtain⟨y1,y2,y3⟩:=y;have e:x2=y2:=e;subst e;have h2:x1=_:=h2;have g2:y1=_:=g2;have h4:x3=_:=h4;have g4:y3=_:=g4;rw[h2,g2,h4,g4]
 refine aLn (R:=λx y:Bk=>klt L x.2.1 y.2.1) (λa=>uZ L _) (λa c h1 h2=>uZ L _ (aAS h1 h2)) _ _ (dQ.mp O'.srt) ((dQ.mp O.srt).sublist List.filter_sublist) λx=> ?_
 rw[jM,decide_eq_true_iff]
 constructor
 ·intro hx;obtain⟨h1,h2,h3,h4,_⟩:=O'.ent x hx;obtain⟨y,hy,y1,y2⟩:=O.all x.2.1 h1 (by omega);obtain⟨g1,g2,g3,g4,_⟩:=O.ent y hy;have le:S45.prQ (prK L) y.2.1<=S45.prQ (prK L) x.2.1:=wH y2;have:=O'.least hx g1 (by omega) (by rw[<-g4,y1,h4]);have:=ex hy hx (aHA y2 this);rw[<-this];exact⟨hy,by omega⟩
 ·rintro⟨hx,hb⟩;obtain⟨h1,h2,h3,h4,_⟩:=O.ent x hx;obtain⟨y,hy,y1,y2⟩:=O'.all x.2.1 h1 (by omega);obtain⟨g1,g2,g3,g4,_⟩:=O'.ent y hy;have:=O.least hx g1 (by omega) (by rw[<-g4,y1,h4]);rw[ex hx hy (aHA this y2)];exact hy
end
section
variable {X:Cx}{sd:List Slot}{e:Expr}{pos:Pos}{α:Type}{hd:α->List D}{sn:α->D}
theorem aGy{p:Pos}{ps qs:List α}{rk:α->Nat}(hg:Gl X "sorted")(hm:X.mg "sorted"=none)(ha:PEd X sd e (.bor (ps.map (srE hd sn))))(M:aNg X.A X.K hd sn ps rk)(hq:qs.Perm ps)(hs:(qs.map rk).Pairwise (·<·))(hst:AG [e] X.env=(false,eval e X.env)::AG [] X.env:=by rfl):PEd X sd (.Call (.Name "sorted" p) [e] [] pos) (.own (qs.map (srE hd sn))):=
 mE (he:=hst) wZ hg hm boot_sorted (aD ha aR trivial hst) λσ F H vs Q S q k=>by
  cases q with
  |cons q1 q2=>cases q2;obtain⟨p,xs,rfl,hp,rl,_⟩:=q1;refine⟨p,xs,ps,rk,rfl,hp,rl.mono S.sub,M,λl ys q2 hl h1 h2 h3=> ?_⟩;have e:q2=qs:=List.Perm.eq_of_pairwise (le:=λx y=>rk x<rk y) (λa b _ _ h1 h2=>by omega) (dQ.mp h2) (dQ.mp hs) (h1.trans hq.symm);subst e;obtain⟨S2,fp,no⟩:=S.layO (xs:=ys) hl;exact k _ F _ S2 (Same.refl _) ⟨l,ys,rfl,fp,bV,h3 _ rl,no⟩
end
noncomputable def tlt:List (List Int)->List (List Int)->Bool
 |[],[]=>false
 |[],_::_=>true
 |_::_,[]=>false
 |x::a,y::b=>if x=y then tlt a b else llt x y
theorem aKX:∀a b:List (List Int),mJ (a.map bJ) (b.map bJ)=tlt a b
 |[],[]=>rfl
 |[],_::_=>rfl
 |_::_,[]=>rfl
 |x::a,y::b=>by
  have e:mJ ((x::a).map bJ) ((y::b).map bJ)=if deq (bJ x) (bJ y)=true then mJ (a.map bJ) (b.map bJ) else mJ (x.map D.int) (y.map D.int):=rfl
  rw[e,aKX a b,vP,aFN];show _=if x=y then tlt a b else llt x y
  by_cases h:x=y
  ·rw[if_pos (decide_eq_true h),if_pos h]
  ·rw[if_neg (by rw[decide_eq_false h];decide),if_neg h]
theorem aAk:∀a:List (List Int),tlt a a=false
 |[]=>rfl
 |x::a=>by show(if x=x then tlt a a else llt x x)=false;rw[if_pos rfl];exact aAk a
theorem sP:∀a b:List (List Int),a≠b->tlt a b=true\/tlt b a=true
 |[],[],h=>absurd rfl h
 |[],_::_,_=>.inl rfl
 |_::_,[],_=>.inr rfl
 |x::a,y::b,h=>by
  show(if x=y then tlt a b else llt x y)=true\/(if y=x then tlt b a else llt y x)=true
  by_cases e:x=y
  ·subst e;rw[if_pos rfl,if_pos rfl];exact sP a b λz=>h (by rw[z])
  ·rw[if_neg e,if_neg (λz=>e z.symm)];exact vB x y e
theorem aAX:∀a b c:List (List Int),tlt a b=true->tlt b c=true->tlt a c=true
 |[],[],_,h,_=>by cases h
 |[],_::_,[],_,h=>by cases h
 |[],_::_,_::_,_,_=>rfl
 |_::_,[],_,h,_=>by cases h
 |_::_,_::_,[],_,h=>by cases h
 |x::a,y::b,z::c,h1,h2=>by
  have h1:(if x=y then tlt a b else llt x y)=true:=h1;have h2:(if y=z then tlt b c else llt y z)=true:=h2;show(if x=z then tlt a c else llt x z)=true
  by_cases e1:x=y
  ·subst e1;rw[if_pos rfl] at h1
   by_cases e2:x=z
   ·subst e2;rw[if_pos rfl] at h2 ⊢;exact aAX a b c h1 h2
   ·rw[if_neg e2] at h2 ⊢;exact h2
  ·rw[if_neg e1] at h1
   by_cases e2:y=z
   ·subst e2;rw[if_neg e1];exact h1
   ·rw[if_neg e2] at h2;have h3:=tH _ _ _ h1 h2;rw[if_neg λe3=>by rw[e3,oE] at h3;cases h3];exact h3
noncomputable abbrev Tp:=List (List Int)×Int
noncomputable def hdT(x:Tp):List D:=x.1.map bJ
noncomputable def snT(x:Tp):D:=.int x.2
noncomputable def aFF(ps:List Tp):List Tp:=ps.mergeSort λx y=> !tlt y.1 x.1
noncomputable def rkT(ps:List Tp)(x:Tp):Nat:=(ps.filter λy=>tlt y.1 x.1).length
theorem vM{ps:List Tp}{x y:Tp}(hx:x∈ps)(h:tlt x.1 y.1=true):rkT ps x<rkT ps y:=by
 unfold rkT
 have e:ps.filter (λz=>tlt z.1 x.1)=(ps.filter λz=>tlt z.1 y.1).filter λz=>tlt z.1 x.1:=by
  rw[aHq];refine aIz λz _=> ?_
  cases q:tlt z.1 x.1 with
  |false=>rfl
  |true=>rw[aAX _ _ _ q h];rfl
 rw[e];refine qG.mpr ⟨x,jM.mpr ⟨hx,h⟩, ?_⟩;rw[aAk];decide
theorem nT(ps:List Tp):(aFF ps).Perm ps:=List.mergeSort_perm ps _
theorem aIc{a b:List (List Int)}(h:tlt a b=true):tlt b a=false:=by
 cases q:tlt b a with
 |false=>rfl
 |true=>have:=aAX _ _ _ h q;rw[aAk] at this;cases this
theorem aAo{ps:List Tp}(nd:(ps.map λx=>x.1).Nodup):(aFF ps).Pairwise λx y=>tlt x.1 y.1=true:=by
 have h:(aFF ps).Pairwise fun x y=>(!tlt y.1 x.1)=true:=List.pairwise_mergeSort (le:=fun x y:Tp=> !tlt y.1 x.1) (fun a b c h1 h2=>by
  show(!tlt c.1 a.1)=true;have h1:(!tlt b.1 a.1)=true:=h1;have h2:(!tlt c.1 b.1)=true:=h2;rw[uK] at h1 h2 ⊢;cases q:tlt c.1 a.1 with
  |false=>rfl
  |true=>
   by_cases e:a.1=b.1
   ·rw[<-e,q] at h2;cases h2
   ·rcases sP _ _ e with z|z
    ·rw[aAX _ _ _ q z] at h2;cases h2
    ·rw[z] at h1
     cases h1) (fun a b=>by
  show((!tlt b.1 a.1)||(!tlt a.1 b.1))=true;cases q:tlt b.1 a.1 with
  |false=>rfl
  |true=>rw[aIc q];rfl) ps
 have nd2:((aFF ps).map λx=>x.1).Nodup:=((nT ps).map _).nodup_iff.mpr nd;unfold List.Nodup at nd2;rw[dQ] at nd2;refine(List.pairwise_and_iff.mpr ⟨h,nd2⟩).imp λ{x y} ⟨h1,h2⟩=> ?_
 rcases sP _ _ h2 with z|z
 ·exact z
 ·rw[z] at h1;cases h1
theorem aJN{ps qs:List Tp}(nd:(ps.map λx=>x.1).Nodup)(h:qs.Perm ps):aFF qs=aFF ps:=by have nq:(qs.map λx=>x.1).Nodup:=(h.map _).nodup_iff.mpr nd;exact List.Perm.eq_of_pairwise (le:=λx y:Tp=>tlt x.1 y.1=true) (λx y _ _ h1 h2=>by rw[aIc h1] at h2;cases h2) (aAo nq) (aAo nd) ((nT qs).trans (h.trans (nT ps).symm))
theorem aBC:∀a b:List (List Int),rV (a.map bJ) (b.map bJ)=true
 |[],_=>rfl
 |_::_,[]=>rfl
 |x::a,y::b=>by show(rV (x.map D.int) (y.map D.int)&&rV (a.map bJ) (b.map bJ))=true;rw[sD,aBC a b];rfl
theorem aJo{A:BM}{K:aA}{ps:List Tp}(nd:(ps.map λx=>x.1).Nodup)(hl:ps.length<=10000)(hu:A.units+8<AO):aNg A K hdT snT ps (rkT ps):=by
 have key:∀x∈ps,∀y∈ps,x.1≠y.1->rkT ps x≠rkT ps y:=λx hx y hy ne=>by
  rcases sP _ _ ne with h|h
  ·exact bO (vM hx h)
  ·exact iA (vM hy h)
 refine⟨hl,λx hx y hy=> ?_, ?_,hu,λx _=> ?_,λx _ y _=> ?_,λx _=> ?_,λF x y v h1 h2=> ?_⟩
 ·have e:mJ [.tup (hdT x),snT x] [.tup (hdT y),snT y]=if kA (x.1.map bJ) (y.1.map bJ)=true then mJ [snT x] [snT y] else mJ (x.1.map bJ) (y.1.map bJ):=rfl
  rw[e,vN,aKX]
  by_cases h:x.1=y.1
  ·obtain rfl:x=y:=tO nd hx hy h;rw[if_pos (decide_eq_true rfl),decide_eq_false (by omega)];show(if deq (snT x) (snT x)=true then false else dlt (snT x) (snT x))=false
   split
   ·rfl
   ·exact decide_eq_false (by omega)
  ·rw[if_neg (by rw[decide_eq_false h];decide)];cases q:tlt x.1 y.1 with
   |true=>exact(decide_eq_true (vM hx q)).symm
   |false=>
    refine(decide_eq_false λz=> ?_).symm
    rcases sP _ _ h with w|w
    ·rw[q] at w;cases w
    ·have:=vM hy w;omega
 ·have nd:=nd;unfold List.Nodup at nd ⊢;rw[dQ] at nd ⊢;exact List.Pairwise.imp_of_mem (λ{a b} ha hb h=>key a ha b hb h) nd
 ·show(plL (x.1.map bJ)&&(true&&true))=true;rw[nQ];rfl
 ·show(rV (x.1.map bJ) (y.1.map bJ)&&(true&&true))=true;rw[aBC];rfl
 ·show max (jP (x.1.map bJ)+1) (max 0 0)<=4;have:=nV x.1;omega
 ·have p1:∀z:Tp,plL [.tup (hdT z),snT z]=true:=λz=>by show(plL (z.1.map bJ)&&(true&&true))=true;rw[nQ];rfl
  simp only[srE,Rep] at h1 h2;obtain⟨a,xs,rfl,e1,r1⟩:=h1;obtain⟨a',ys,e2,e3,r2⟩:=h2;cases e2;rw[e1] at e3;cases e3;have q:=qA (p1 x) r1 r2 (p1 y);have q:(kA (x.1.map bJ) (y.1.map bJ)&&(decide (x.2=y.2)&&true))=true:=q;rw[vN,bH,Bool.and_true,decide_eq_true_iff,decide_eq_true_iff] at q;exact Prod.ext q.1 q.2
noncomputable def atD(d:D)(k:Nat):D:=match d with
 |.tup l=>l.getD k .non
 |_=>.non
noncomputable def tpB(B:List Bk):List Tp:=B.map λe=>(e.2.2,e.1)
noncomputable def kT(B:List Bk):List D:=(aFF (tpB B)).map (srE hdT snT)
def aHY:List D->R->Prop:=λds r=>∃B:List Bk,B.length<=700/\(B.map λe=>e.2.2).Nodup/\ds=[.lst (B.map enD)]/\r=.own (kT B)
theorem aBf{B:List Bk}(h:(B.map λe=>e.2.2).Nodup):((tpB B).map λx=>x.1).Nodup:=by unfold tpB;rw[bA];exact h
theorem aBJ{B C:List Bk}(h:(B.map λe=>e.2.2).Nodup)(hp:(tpB C).Perm (tpB B)):kT C=kT B:=by unfold kT;rw[aJN (aBf h) hp]
theorem BqOk.bk{p:Int × Int}{L:List SK}{b:Int}{B:List Bk}(O:BqOk p L b B):BkOk p L b B:=⟨by have:=O.len; omega,fun e he=>by
 obtain⟨h1,h2,h3,h4,h5⟩:=O.ent e he
 exact⟨h2,h3,h1,by omega,h4⟩,O.nd⟩
theorem BqOk.hp{p:Int×Int}{L:List SK}{b:Int}{B:List Bk}(O:BqOk p L b B)(hpr:∀k,k<L.length->1<=prK L k)(h0:0<=b):S45.HoldsP L.length (prK L) (gG p L) b B:=by
 refine⟨?_,λe he k hk hb=> ?_⟩
 ·obtain⟨e,he,_,h⟩:=O.st h0;exact⟨e,he,aJI hpr (O.ent e he).1 h⟩
 ·obtain⟨e',he',h1,h2⟩:=O.cl e he k hk hb;refine⟨e',he',h1, ?_⟩;have:=wH h2;obtain⟨_,g2,_⟩:=O.ent e' he';obtain⟨_,g3,_⟩:=O.ent e he
  have e3:S45.prQ (prK L) (e.2.1++[k])=S45.prQ (prK L) e.2.1+prK L k:=by unfold S45.prQ;rw[aW,pP];simp
  omega
section
variable {p:Int×Int}{L L':List SK}{b:Int}{B B' C:List Bk}
theorem aIu(pr:Nat->Int)(row:List Nat)(k:Nat):S45.prQ pr (row++[k])=S45.prQ pr row+pr k:=by unfold S45.prQ;rw[aW,pP];simp
theorem aDe(hpr:∀k,k<L.length->1<=prK L k)(O:BkOk p L b B)(h:S45.HoldsP L.length (prK L) (gG p L) b B):∀ (n:Nat) (row:List Nat),row.length=n->hX L row->S45.prQ (prK L) row<=b->∃e∈B,e.2.2=S45.tabQ (gG p L) (dH p) row/\e.1<=S45.prQ (prK L) row
 |0,row,hn,_,_=>by obtain⟨e,he,h0⟩:=h.1;obtain⟨h1,_,_,_,h5⟩:=O.ent e he;have:row=[]:=aBO.mp hn;rw[this];rw[h0] at h1 h5;exact⟨e,he,h5,aFu h1⟩
 |n+1,row,hn,ho,hb=>by
  obtain⟨r,k,rfl⟩:∃r k,row=r++[k]:=⟨row.dropLast,row.getLast (λz=>by rw[z] at hn;cases hn),(jN _).symm⟩;have hk:k<L.length:=ho k (by simp);have hr:hX L r:=λi hi=>ho i (bW _ hi)
  rw[aIu] at hb;have k1:=hpr k hk;obtain⟨e,he,e1,e2⟩:=aDe hpr O h n r (by rw[aP] at hn;simpa using hn) hr (by omega);obtain⟨e',he',g1,g2⟩:=h.2 e he k hk (by omega);refine⟨e',he', ?_, ?_⟩
  ·rw[g1,e1,S45.tab_snoc]
  ·rw[aIu];omega
theorem aFT(h:(B.map λe=>e.2.2).Nodup):(tpB B).Nodup:=by have:=aBf h;unfold List.Nodup at this ⊢;rw[dQ] at this;exact this.imp λh z=>h (by rw[z])
theorem aDu{α:Type}{A C:List α}(h1:A.Nodup)(h2:C.Nodup)(h:∀x,x∈A↔x∈C):A.Perm C:=(List.perm_ext_iff_of_nodup h1 h2).mpr h
theorem aGs(hpr:∀k,k<L.length->1<=prK L k)(O:BqOk p L b B)(OC:BkOk p L b C)(h:S45.HoldsP L.length (prK L) (gG p L) b C):(tpB C).Perm (tpB B):=by
 refine aDu (aFT OC.nd) (aFT O.nd) λx=>⟨λhx=> ?_,λhx=> ?_⟩
 ·obtain⟨e,he,rfl⟩:=aN.mp hx;obtain⟨h1,h2,h3,_,h5⟩:=OC.ent e he;obtain⟨y,hy,y1,y2⟩:=O.all e.2.1 h3 (by omega);obtain⟨g1,g2,g3,g4,_⟩:=O.ent y hy;have:=wH y2;obtain⟨z,hz,z1,z2⟩:=aDe hpr OC h _ y.2.1 rfl g1 (by omega);obtain rfl:z=e:=tO OC.nd hz he (by rw[z1,<-g4,y1,h5]);refine aN.mpr ⟨y,hy, ?_⟩;have q:y.1=z.1:=by omega
  rw[q,y1,<-h5]
 ·obtain⟨y,hy,rfl⟩:=aN.mp hx;obtain⟨g1,g2,g3,g4,_⟩:=O.ent y hy;obtain⟨z,hz,z1,z2⟩:=aDe hpr OC h _ y.2.1 rfl g1 (by omega);obtain⟨h1,h2,h3,_,h5⟩:=OC.ent z hz;have:=wH (O.least hy h3 (by omega) (by rw[<-h5,z1,g4]));refine aN.mpr ⟨z,hz, ?_⟩;have q:z.1=y.1:=by omega
  rw[q,z1,<-g4]
theorem aDm(hs:∀s∈L',s∈L):∀ (row:List Nat),hX L' row->∃r,hX L r/\S45.prQ (prK L) r=S45.prQ (prK L') row/\∀t,r.foldl (λt k=>gG p L k t) t=row.foldl (λt k=>gG p L' k t) t
 |[],_=>⟨[],λi hi=>(nomatch hi),rfl,λ_=>rfl⟩
 |k::row,h=>by
  obtain⟨r,r1,r2,r3⟩:=aDm hs row λi hi=>h i (aF _ hi)
  have hk:k<L'.length:=h k aH;obtain⟨j,hj,e⟩:=cV (hs _ (getD_mem (d:=(AN:SK)) hk));have ej:L.getD j AN=L'.getD k AN:=by rw[<-e];simp[cA,hj]
  refine⟨j::r,λi hi=> ?_, ?_,λt=> ?_⟩
  ·rcases aX.mp hi with rfl|hi
   ·exact hj
   ·exact r1 i hi
  ·show(prK L j::r.map (prK L)).sum=(prK L' k::row.map (prK L')).sum;rw[sW,sW];have e2:prK L j=prK L' k:=by unfold prK;rw[ej]
   have r2:(r.map (prK L)).sum=(row.map (prK L')).sum:=r2;rw[e2,r2]
  ·show r.foldl _ (gG p L j t)=row.foldl _ (gG p L' k t);have e3:gG p L j t=gG p L' k t:=by unfold gG;rw[ej]
   rw[e3,r3]
theorem aDa(hs:∀s∈L',s∈L)(O:BqOk p L b B)(O':BqOk p L' b B'){e:Bk}(he:e∈B'):∃y∈B,y.2.2=e.2.2/\y.1<=e.1:=by obtain⟨h1,h2,h3,h4,_⟩:=O'.ent e he;obtain⟨r,r1,r2,r3⟩:=aDm (p:=p) hs e.2.1 h1;obtain⟨y,hy,y1,y2⟩:=O.all r r1 (by omega);have:=wH y2;have:=(O.ent y hy).2.1;refine⟨y,hy, ?_,by omega⟩;rw[y1,h4];exact r3 (dH p)
theorem aJr(h1:∀s∈L',s∈L)(h2:∀s∈L,s∈L')(O:BqOk p L b B)(O':BqOk p L' b B'):(tpB B').Perm (tpB B):=by
 have key:∀ {L L':List SK}{B B':List Bk},(∀s∈L',s∈L)->(∀s∈L,s∈L')->BqOk p L b B->BqOk p L' b B'->∀x,x∈tpB B'->x∈tpB B:=λ{L L' B B'} h1 h2 O O' x hx=>by
  obtain⟨e,he,rfl⟩:=aN.mp hx;obtain⟨y,hy,y1,y2⟩:=aDa h1 O O' he;obtain⟨z,hz,z1,z2⟩:=aDa h2 O' O hy;obtain rfl:z=e:=tO O'.nd hz he (z1.trans y1);refine aN.mpr ⟨y,hy, ?_⟩;have q:y.1=z.1:=by omega
  rw[q,y1]
 exact aDu (aFT O'.nd) (aFT O.nd) λx=>⟨key h1 h2 O O' x,key h2 h1 O' O x⟩
end
theorem FewR.less{L:List SK}{b b':Int}{U:List (List Nat)}(F:FewR L b U)(h:b'<=b):FewR L b' U:=⟨F.len,F.rl,λrow ho hr=>F.all row ho (by omega)⟩
theorem KitOk.perm{p:Int×Int}{f:Int}{L L':List SK}(h:KitOk p f L)(hp:L'.Perm L):KitOk p f L':=⟨by rw[hp.length_eq];exact h.pos,by rw[hp.length_eq];exact h.le,λs hs=>h.st s (hp.mem_iff.mp hs),(hp.map _).nodup_iff.mpr h.nd,h.f13⟩
theorem KitOk.cut{p:Int×Int}{f:Int}{L:List SK}(h:KitOk p f L)(h1:1<L.length):KitOk p f (L.take (L.length-1))/\(∀s∈L.take (L.length-1),s∈L)/\∀b:Int,b<f*((lI L.length:Int)+1)->b<f*((lI (L.take (L.length-1)).length:Int)+1):=by
 have hl:(L.take (L.length-1)).length=L.length-1:=by rw[bX];omega
 have l5:=h.le;refine⟨⟨by omega,by omega,λs hs=>h.st s (iM hs), ?_,h.f13⟩,λs hs=>iM hs,λb hb=> ?_⟩
 ·rw[iO];exact h.nd.sublist (aIx _ _)
 ·rw[hl];have g:∀n∈[2,3,4,5],lI n<=lI (n-1):=by decide+kernel
  have hm:L.length∈[2,3,4,5]:=by
   have e:L.length=2\/L.length=3\/L.length=4\/L.length=5:=by omega
   rcases e with e|e|e|e<;>rw[e]<;>decide
  have:=g _ hm
  rcases h.f13 with e|e<;>rw[e] at hb ⊢<;>omega
noncomputable def lX(c:Int)(L:List SK):Nat->List SK
 |0=>[]
 |t+1=>(lX c L t).take (mxS c (60+t)%((t:Int)+1)).toNat++L.getD t AN::(lX c L t).drop (mxS c (60+t)%((t:Int)+1)).toNat
theorem rA(c:Int)(L:List SK):∀t,t<=L.length->(lX c L t).Perm (L.take t)
 |0,_=>by simp[lX]
 |t+1,h=>by
  have ih:=rA c L t (by omega)
  have e:L.take (t+1)=L.take t++[L.getD t AN]:=by have ht:t<L.length:=h;rw[List.take_succ];simp[cA,ht]
  rw[e];unfold lX;refine iV.trans ?_;rw[iE];exact(ih.cons _).trans (iD (l₁:=[L.getD t AN]) (l₂:=L.take t))
theorem aEW(c:Int)(L:List SK):(lX c L L.length).Perm L:=by
 have:=rA c L L.length (aM _)
 rwa[cZ] at this
theorem aMF(B:List Bk):plL (kT B)=true/\jP (kT B)<=3:=by
 unfold kT;generalize aFF (tpB B)=T;refine⟨vV (srE hdT snT) (λx=> ?_) T,tU (srE hdT snT) 3 (λx=> ?_) T⟩
 ·show(plL (x.1.map bJ)&&(true&&true))=true;rw[nQ];rfl
 ·show max (jP (x.1.map bJ)+1) (max 0 0)+1<=3;have:=nV x.1;omega
theorem aKB(ds:List D):DL.cutD ds none (some (-1))=ds.take (ds.length-1):=by
 unfold DL.cutD;rw[HT.sIx_none]
 have e:HT.sIx ds.length ds.length (some (-1))=ds.length-1:=by show(if(-1:Int)<0 then(-1+(ds.length:Int)).toNat else min (-1:Int).toNat ds.length)=_;rw[if_pos (by decide)];omega
 rw[e];simp
theorem aMp{B:List Bk}(nd:(B.map λe=>e.2.2).Nodup){y:Bk}(hy:y∈B){T:List (List Int)}(h:y.2.2=T){n:Nat}(hn:(ksE B)[n]? =some (tbK T)):(B.map λe=>D.int e.1)[n]? =some (.int y.1):=by unfold ksE at hn;rw[aQ,eE] at hn;obtain⟨e,he,e1⟩:=hn;obtain rfl:e=y:=tO nd (aO he) hy ((mV e1).trans h.symm);rw[aQ,he];rfl
end DL
set_option maxHeartbeats 400000
namespace K44
open PySem PySem.Spec PyProof.Rows L2 DL
noncomputable def top(i:Nat):BP:=PySem.Challenge.pw_leastrow_k44_whole_what_holds_is_the_boo.main.body.getD i (.Pass ⟨0,0,0,0⟩)
noncomputable abbrev aHI:BP:=top 4
noncomputable abbrev aHO:BP:=top 5
noncomputable abbrev aCI:BP:=top 6
noncomputable abbrev aLx:BP:=top 7
noncomputable abbrev aPa:BP:=top 8
noncomputable abbrev aEc:BP:=top 11
noncomputable abbrev aBq:BP:=top 12
noncomputable abbrev aBu:BP:=top 13
noncomputable abbrev aBg:BP:=top 15
noncomputable abbrev aDC:BP:=top 14
noncomputable abbrev aNP:BP:=top 18
noncomputable abbrev aCQ:BP:=top 19
noncomputable abbrev aIQ:BP:=top 20
noncomputable abbrev aNv:BP:=top 21
noncomputable abbrev sFd:BP:=top 22
noncomputable abbrev aCO:BP:=top 23
noncomputable abbrev aIW:BP:=top 24
noncomputable abbrev aLt:BP:=top 29
noncomputable abbrev aAn:BP:=top 26
noncomputable abbrev aCU:BP:=top 27
noncomputable abbrev aLc:BP:=top 30
noncomputable abbrev aNL:BP:=top 32
noncomputable abbrev aAY:BP:=top 34
noncomputable abbrev aNF:BP:=top 31
noncomputable abbrev aNK:BP:=top 33
noncomputable abbrev aCV:BP:=top 35
noncomputable abbrev aDo:BP:=top 37
noncomputable abbrev aHJ:BP:=top 38
noncomputable abbrev aCL:BP:=top 39
noncomputable abbrev aHR:BP:=top 40
noncomputable abbrev aOR:BP:=top 41
noncomputable abbrev aCN:BP:=top 43
noncomputable abbrev aNx:BP:=top 46
noncomputable abbrev aLz:BP:=top 42
noncomputable abbrev aIF:BP:=top 44
noncomputable abbrev aOX:BP:=top 45
noncomputable abbrev aFI:BP:=top 47
noncomputable abbrev aNn:BP:=top 48
noncomputable abbrev uP:BP:=top 49
section
variable {P:AD}{w:AM}{K:aA}{mg:Str->Option BJ}{base:BN}{f:BL}{fd:AX}
def aIe:List D->R->Prop:=λds r=>∃d,ds=[d]/\(Unit->∃i,d=.int i)/\r=.val (.bl true)
theorem aGI(F:Fun K "is_whole" "is_whole" aHI f fd)(zisinstance:mg "isinstance"=none)(zint:mg "int"=none)(zbool:mg "bool"=none)(hm:mg "is_whole"=some (.ref f)):bL P w K mg base "is_whole" 1 1 aIe:=by
 have nd:(["thing"]:List Str).Nodup:=by decide+kernel
 refine eQ (N:=["thing"]) (ps:=["thing"]) (k:=0) F ⟨rfl,rfl,rfl,nd,rfl,by decide+kernel,by decide+kernel⟩ hm (λ_ _ _ _ _ _ us hl=>match us,hl with | [_],_=>rfl) λcdv A outer s H E hr ds r hl c=> ?_
 obtain⟨d,rfl,hd,rfl⟩:=c;obtain⟨i,rfl⟩:=hd ();exact bB (bU (PEd.cast (tV (aDA rfl zisinstance rfl zint PyProof.Rows.boot_int (aC 0 rfl (pv 0)) (λ_=>by simp) (aJe _ (.int i))) λ_=>xG (aMZ (aDA rfl zisinstance rfl zbool PyProof.Rows.boot_bool (aC 0 rfl (pv 0)) (λ_=>by simp) (aHg _ (.int i))))) rfl) trivial rfl)
theorem aLj(q:SQ):pl (sqD q)=true:=by
 show pl (kC _ _ _ _)=true;unfold kC
 split
 ·rfl
 ·split<;>rfl
theorem aMJ(q:SQ):dep (sqD q)=1:=by
 show dep (kC _ _ _ _)=1;unfold kC
 split
 ·rfl
 ·split<;>rfl
theorem aDp{α:Type}(g:α->D)(h:∀a,pl (g a)=true):∀l:List α,plL (l.map g)=true
 |[]=>rfl
 |a::l=>by show(pl (g a)&&plL (l.map g))=true;rw[h a,aDp g h l];rfl
theorem aBj{α:Type}(g:α->D)(n:Nat)(h:∀a,dep (g a)<=n):∀l:List α,jP (l.map g)<=n
 |[]=>bY _
 |a::l=>Nat.max_le.mpr ⟨h a,aBj g n h l⟩
def aBc:List D->R->Prop:=λds r=>∃p:Int×Int,ds=[cP p]/\0<=p.1/\p.1<=60/\r=.val (.int (2^p.1.toNat))
theorem aGE(F:Fun K "word_count" "word_count" aHO f fd)(zrange:mg "range"=none)(hm:mg "word_count"=some (.ref f)):bL P w K mg base "word_count" 1 1 aBc:=by
 have nd:(["size","count","bit"]:List Str).Nodup:=by decide+kernel
 refine eQ (N:=["size","count","bit"]) (ps:=["size"]) (k:=0) F ⟨rfl,rfl,rfl,nd,rfl,by decide+kernel,by decide+kernel⟩ hm (λ_ _ _ _ _ _ us hl=>match us,hl with | [_],_=>rfl) λcdv A outer s H E hr ds r hl c=> ?_
 obtain⟨p,rfl,h0,h1,rfl⟩:=c;have ep:p.1=((p.1.toNat:Nat):Int):=by omega
 refine aJ (cR 1 nd rfl (Or.inl rfl) bE ?_);refine aJ (vG (ds:=iQ 0 p.1.toNat) (λk=>[.val (cP p),.val (.int (2^k)),.un]) (λk=>[.val (cP p),.val (.int (2^k)),.val (.int (0+(k:Int)))]) (jX (n:=p.1.toNat) rfl zrange (PEd.cast (eX (n:=0) (d:=.int p.1) (aC 0 rfl (pv 0)) bE rfl λ_ _=>rfl) (by rw[<-ep])) (by omega)) ⟨.inr rfl,.inr rfl,.inr rfl,trivial⟩ (λi d hd=> ?_) (λi d hd=> ?_) ?_)
 ·obtain⟨_,rfl⟩:=jS hd;exact fM 2 (bR (i:=2) nd rfl (Or.inl rfl))
 ·refine bB (cR 1 nd rfl (Or.inl rfl) (dM kU (aC 1 rfl (pv 1)) bE (aIH (by decide) (by decide))) ?_);exact⟨.inr rfl,.inr rfl,.inl rfl,trivial⟩
 ·refine bB (bU (aC 1 rfl (pv 1)) trivial ?_);rw[iJ]
def aLb:List D->R->Prop:=λds r=>∃ (L:List (List Int)) (m:Nat),ds=[.lst (L.map bJ),.int (m:Int)]/\L.length*m<=900/\m<=64/\(∀s∈L,s.length<=100)/\r=.own ((L.flatMap λs=>(bP m).map λ(w:Nat)=>s++[(w:Int)]).map bJ)
theorem aJp(F:Fun K "with_each_word" "with_each_word" aCI f fd)(zrange:mg "range"=none)(hm:mg "with_each_word"=some (.ref f)):bL P w K mg base "with_each_word" 1 2 aLb:=by
 have nd:(["starts","count","longer","start"]:List Str).Nodup:=by decide+kernel
 refine eQ (N:=["starts","count","longer","start"]) (ps:=["starts","count"]) (k:=0) F ⟨rfl,rfl,rfl,nd,rfl,by decide+kernel,by decide+kernel⟩ hm (λ_ _ _ _ _ _ us hl=>match us,hl with | [_,_],_=>rfl) λcdv A outer s H E hr ds r hl c=> ?_
 obtain⟨L,m,rfl,hL,hm64,hs,rfl⟩:=c;have nd2:(["word","start"]:List Str).Nodup:=by decide+kernel
 refine aJ (gC 2 nd rfl (Or.inl rfl) (iY (ds:=[]) aR (bY _)) λl=> ?_);refine aJ (vG (ds:=L.map bJ) (λk=>[.val (.lst (L.map bJ)),.val (.int (m:Int)),.own l (((L.take k).flatMap λs=>(bP m).map λ(w:Nat)=>s++[(w:Int)]).map bJ),.un]) (λk=>[.val (.lst (L.map bJ)),.val (.int (m:Int)),.own l (((L.take k).flatMap λs=>(bP m).map λ(w:Nat)=>s++[(w:Int)]).map bJ),.val (bJ (L.getD k []))]) (gQ (aC 0 rfl (pv 0))) ⟨.inr rfl,.inr rfl,.inr rfl,.inr rfl,trivial⟩ (λk d hd=> ?_) (λk d hd=> ?_) ?_)
 ·obtain⟨_,rfl⟩:=rO hd;exact fM 3 (bR (i:=3) nd rfl (Or.inr rfl))
 ·obtain⟨hk,rfl⟩:=rO hd;have hmem:L.getD k []∈L:=getD_mem hk
  have et:L.take (k+1)=L.take k++[L.getD k []]:=by rw[eZ];simp[cA,hk]
  have lk:(L.take k).length*m+m<=900:=by
   have h1:(L.take k).length+1<=L.length:=by rw[bX];omega
   have h2:=rE m h1;rw[aFt] at h2;omega
  have comp:∀ {pos:Pos},PEd (nO CX0 P w K mg base ["starts","count","longer","start"] "with_each_word" (bI aCI) f cdv A outer s H E).nox [.val (.lst (L.map bJ)),.val (.int (m:Int)),.own l (((L.take k).flatMap λs=>(bP m).map λ(w:Nat)=>s++[(w:Int)]).map bJ),.val (bJ (L.getD k []))] (match(iX aCI).getD 1 (.Pass ⟨0,0,0,0⟩) with | .For _ _ [.Expr (.Call _ [c] _ _) _] _ _=>c|_=> .Constant .none 0 ⟨0,0,0,0⟩) (.own (((iQ 0 m).filter λ_=>true).map λd=>D.tup ((L.getD k []).map D.int++[d]))):=λ{pos}=>by
   refine jK (N:=["word","start"]) (M:=["starts","count","longer","start"]) (cap:=[none,some 3]) (sc:=bI aCI) (Tb:=λd=>[.val d,.val (bJ (L.getD k []))]) (λ_=>true) (λd=>D.tup ((L.getD k []).map D.int++[d])) (jX (n:=m) rfl zrange (aC 1 rfl (pv 1)) (by omega)) (by rw[iJ];omega) rfl (by decide+kernel) rfl (by decide+kernel) rfl (λcl C fp s H d _=>fM 0 (bR (i:=0) nd2 rfl (Or.inl rfl))) (λd _=>⟨.inl rfl,.inr rfl,trivial⟩) (λcl C fp s H d _=>.inl ⟨rfl,rfl⟩) λcl C fp s H d _ _=> ?_
   refine mU (aC 1 rfl (pv 1)) (gF (ds:=[d]) (aD (aC 0 rfl (pv 0)) aR) (aK rfl)) ?_;have:=hs _ hmem;simp only[aB,bS,gW];omega
  have ec:((iQ 0 m).filter λ_=>true).map (λd=>D.tup ((L.getD k []).map D.int++[d]))=((bP m).map λ(w:Nat)=>L.getD k []++[(w:Int)]).map bJ:=by
   rw[cQ.mpr (λ_ _=>rfl)];unfold iQ;rw[bA,bA];refine bZ λw _=> ?_
   simp[bJ]
  refine bB (vQ 2 rfl (pv 2) (PEd.val (comp (pos:=⟨0,0,0,0⟩))) ?_ ?_)
  ·rw[aB,pM,ec,aB,aB,jT];omega
  ·refine⟨.inr rfl,.inr rfl,.inr ?_,.inl rfl,trivial⟩;rw[et,ec,aFB,aW];simp
 ·refine bB (nL 2 rfl (pv 2) ?_);show R.own _=R.own _;rw[aB,cZ]
def aFQ:List D->R->Prop:=λds r=>∃p,p∈cJ/\ds=[cP p]/\r=.own ((jC (2^p.1.toNat) p.2.toNat).map bJ)
theorem aJk(F:Fun K "fillings" "fillings" aLx f fd)(zrange:mg "range"=none)(hm:mg "fillings"=some (.ref f))(GC:bL P w K mg base "word_count" 1 1 aBc)(GE:bL P w K mg base "with_each_word" 1 2 aLb):bL P w K mg base "fillings" 2 1 aFQ:=by
 have nd:(["size","count","told","box"]:List Str).Nodup:=by decide+kernel
 refine eQ (N:=["size","count","told","box"]) (ps:=["size"]) (k:=1) F ⟨rfl,rfl,rfl,nd,rfl,by decide+kernel,by decide+kernel⟩ hm (λ_ _ _ _ _ _ us hl=>match us,hl with | [_],_=>rfl) λcdv A outer s H E hr ds r hl c=> ?_
 obtain⟨p,hp,rfl,rfl⟩:=c;obtain⟨h1,h2,h3,h4,h5⟩:=xY p hp;have e2:p.2=((p.2.toNat:Nat):Int):=by omega
 have m64:2^p.1.toNat<=64:=by
  have:p.1.toNat<=6:=by omega
  exact cK (rG (by decide) this) (by decide)
 have ec:(2:Int)^p.1.toNat=((2^p.1.toNat:Nat):Int):=by push_cast;rfl
 refine aJ (cR 1 nd rfl (Or.inl rfl) (bQ (ds:=[cP p]) GC hr rfl (aD (aC 0 rfl (pv 0)) aR) ⟨p,rfl,by omega,by omega,rfl⟩ trivial rfl) ?_);refine aJ (gC (ds:=[bJ []]) 2 nd rfl (Or.inl rfl) (iY (ds:=[bJ []]) (aD (gF (ds:=[]) aR (bY _)) aR) (aK rfl)) λl=> ?_);refine aJ (gB (ds:=iQ 0 p.2.toNat) (λk sd=>∃l,sd=[.val (cP p),.val (.int (2^p.1.toNat)),.own l ((jC (2^p.1.toNat) k).map bJ),.un]) (jX (n:=p.2.toNat) rfl zrange (PEd.cast (eX (n:=1) (d:=.int p.2) (aC 0 rfl (pv 0)) bE rfl λ_ _=>rfl) (by rw[<-e2])) (by omega)) ⟨_,Le.refl _,l,rfl⟩ (λk d sdk hd hk=> ?_) λsdn hn=> ?_)
 ·obtain⟨hk2,rfl⟩:=jS hd;obtain⟨l2,rfl⟩:=hk;refine⟨[.val (cP p),.val (.int (2^p.1.toNat)),.own l2 ((jC (2^p.1.toNat) k).map bJ),.val (.int (0+(k:Int)))],fM 3 (bR (i:=3) nd rfl (Or.inl rfl)), ?_⟩;refine jW 2 rfl ?_;refine bB (gC 2 nd rfl (Or.inl rfl) (bQ (ds:=[.lst ((jC (2^p.1.toNat) k).map bJ),.int ((2^p.1.toNat:Nat):Int)]) GE hr rfl (aD (aC 2 rfl (pv 2)) (aD (PEd.cast (aC 1 rfl (pv 1)) (by rw[ec])) aR)) ⟨jC (2^p.1.toNat) k,2^p.1.toNat,rfl, ?_,m64,λs hs=> ?_,rfl⟩ trivial rfl) λl3=> ?_)
  ·rw[vH];exact yV p hp k hk2
  ·rw[vX _ _ s hs];omega
  ·exact⟨[.val (cP p),.val (.int (2^p.1.toNat)),.own l3 ((jC (2^p.1.toNat) (k+1)).map bJ),.un],⟨.inr rfl,.inr rfl,.inr rfl,.inl rfl,trivial⟩,l3,rfl⟩
 ·rw[iJ] at hn;obtain⟨l2,rfl⟩:=hn;exact bB (nL 2 rfl (pv 2) rfl)
def aOL:List D->R->Prop:=λds r=>∃ (p:Int×Int) (ws:List Int),ds=[cP p,bJ ws]/\0<=p.1/\p.1<=60/\r=.val (.int (uM (2^p.1.toNat) ws))
theorem aMI(F:Fun K "number_of" "number_of" aPa f fd)(hm:mg "number_of"=some (.ref f))(GC:bL P w K mg base "word_count" 1 1 aBc):bL P w K mg base "number_of" 2 2 aOL:=by
 have nd:(["size","filling","count","number","word"]:List Str).Nodup:=by decide+kernel
 refine eQ (N:=["size","filling","count","number","word"]) (ps:=["size","filling"]) (k:=1) F ⟨rfl,rfl,rfl,nd,rfl,by decide+kernel,by decide+kernel⟩ hm (λ_ _ _ _ _ _ us hl=>match us,hl with | [_,_],_=>rfl) λcdv A outer s H E hr ds r hl c=> ?_
 obtain⟨p,ws,rfl,h0,h1,rfl⟩:=c
 have b1: -(2^64)<(2:Int)^p.1.toNat/\(2:Int)^p.1.toNat<2^64:=by
  have h3:p.1.toNat<=60:=by omega
  have h4:2^p.1.toNat<=2^60:=rG (by decide) h3;have h5:(2:Int)^p.1.toNat=((2^p.1.toNat:Nat):Int):=by push_cast;rfl
  rw[h5];have h6:(2:Nat)^60=1152921504606846976:=by decide
  rw[h6] at h4;generalize 2^p.1.toNat=q at h4 ⊢;omega
 refine aJ (cR 2 nd rfl (Or.inl rfl) (bQ (ds:=[cP p]) GC hr rfl (aD (aC 0 rfl (pv 0)) aR) ⟨p,rfl,h0,h1,rfl⟩ trivial rfl) ?_);refine aJ (cR 3 nd rfl (Or.inl rfl) bE ?_);refine aJ (vG (ds:=ws.map D.int) (λk=>[.val (cP p),.val (bJ ws),.val (.int (2^p.1.toNat)),.val (.int (uM (2^p.1.toNat) (ws.take k))),.un]) (λk=>[.val (cP p),.val (bJ ws),.val (.int (2^p.1.toNat)),.val (.int (uM (2^p.1.toNat) (ws.take k))),.val (.int (ws.getD k 0))]) (oN (aC 1 rfl (pv 1))) ⟨.inr rfl,.inr rfl,.inr rfl,.inr rfl,.inr rfl,trivial⟩ (λk d hd=> ?_) (λk d hd=> ?_) ?_)
 ·obtain⟨_,rfl⟩:=aBH hd;exact fM 4 (bR (i:=4) nd rfl (Or.inl rfl))
 ·obtain⟨hk,rfl⟩:=aBH hd
  have et:ws.take (k+1)=ws.take k++[ws.getD k 0]:=by rw[eZ];simp[cA,hk]
  refine bB (cR 3 nd rfl (Or.inl rfl) (gA gY (dM kU (aC 3 rfl (pv 3)) (aC 2 rfl (pv 2)) (aIH b1.1 b1.2)) (aC 4 rfl (pv 4))) ?_);refine⟨.inr rfl,.inr rfl,.inr rfl,.inr ?_,.inl rfl,trivial⟩;rw[et];unfold uM;rw[jU];rfl
 ·refine bB (bU (aC 3 rfl (pv 3)) trivial ?_);show R.val _=R.val _;rw[aB,cZ]
def aDY:List D->R->Prop:=λds r=>∃ (k:Nat) (m a:Int),ds=[.str (nm k),.int m,.int a]/\7<=k/\k<10/\0<m/\r=.val (.int (aLs k m a))
theorem aET(F:Fun K "word_by_itself" "word_by_itself" aEc f fd)(hm:mg "word_by_itself"=some (.ref f)):bL P w K mg base "word_by_itself" 1 3 aDY:=by
 have nd:(["name","count","word"]:List Str).Nodup:=by decide+kernel
 refine eQ (N:=["name","count","word"]) (ps:=["name","count","word"]) (k:=0) F ⟨rfl,rfl,rfl,nd,rfl,by decide+kernel,by decide+kernel⟩ hm (λ_ _ _ _ _ _ us hl=>match us,hl with | [_,_,_],_=>rfl) λcdv A outer s H E hr ds r hl c=> ?_
 obtain⟨k,m,a,rfl,h7,h10,hm0,rfl⟩:=c;refine aJ (iP (k:=decide (k=7)) (cS (aC 0 rfl (pv 0)) dY rfl rfl rfl (aBb k h10)) (λh=> ?_) λh=>cO ?_)
 ·have:k=7:=by simpa using h
  subst this;exact bB (bU (gA qU (gA qU (aC 1 rfl (pv 1)) bE) (aC 2 rfl (pv 2))) trivial rfl)
 have n7:¬ k=7:=by simpa using h
 refine aJ (iP (k:=decide (k=8)) (cS (aC 0 rfl (pv 0)) dY rfl rfl rfl (aFY k h10)) (λh=> ?_) λh=>cO ?_)
 ·have:k=8:=by simpa using h
  subst this;exact bB (bU (dM gP (dM kU (aC 2 rfl (pv 2)) bE (aIH (by decide) (by decide))) (aC 1 rfl (pv 1)) hm0) trivial rfl)
 have n8:¬ k=8:=by simpa using h
 have:k=9:=by omega
 subst this;exact bB (bU (dM aKc (aC 2 rfl (pv 2)) bE ⟨by decide,by decide⟩) trivial rfl)
def aBl:List D->R->Prop:=λds r=>∃ (k:Nat) (m a c:Int),ds=[.str (nm k),.int m,.int a,.int c]/\k<6/\0<m/\r=.val (.int (aFJ k m a c))
theorem aCr(F:Fun K "word_by_another" "word_by_another" aBq f fd)(hm:mg "word_by_another"=some (.ref f)):bL P w K mg base "word_by_another" 1 4 aBl:=by
 have nd:(["name","count","word","other"]:List Str).Nodup:=by decide+kernel
 refine eQ (N:=["name","count","word","other"]) (ps:=["name","count","word","other"]) (k:=0) F ⟨rfl,rfl,rfl,nd,rfl,by decide+kernel,by decide+kernel⟩ hm (λ_ _ _ _ _ _ us hl=>match us,hl with | [_,_,_,_],_=>rfl) λcdv A outer s H E hr ds r hl c=> ?_
 obtain⟨k,m,a,c,rfl,h6,hm0,rfl⟩:=c;have h10:k<10:=by omega
 refine aJ (iP (k:=decide (k=0)) (cS (aC 0 rfl (pv 0)) dY rfl rfl rfl (aDk k h10)) (λh=> ?_) λh=>cO ?_)
 ·have:k=0:=by simpa using h
  subst this;exact bB (bU (gA aHE (aC 2 rfl (pv 2)) (aC 3 rfl (pv 3))) trivial rfl)
 have n0:¬ k=0:=by simpa using h
 refine aJ (iP (k:=decide (k=1)) (cS (aC 0 rfl (pv 0)) dY rfl rfl rfl (aIN k h10)) (λh=> ?_) λh=>cO ?_)
 ·have:k=1:=by simpa using h
  subst this;exact bB (bU (gA aKW (aC 2 rfl (pv 2)) (aC 3 rfl (pv 3))) trivial rfl)
 have n1:¬ k=1:=by simpa using h
 refine aJ (iP (k:=decide (k=2)) (cS (aC 0 rfl (pv 0)) dY rfl rfl rfl (aCZ k h10)) (λh=> ?_) λh=>cO ?_)
 ·have:k=2:=by simpa using h
  subst this;exact bB (bU (gA aIi (aC 2 rfl (pv 2)) (aC 3 rfl (pv 3))) trivial rfl)
 have n2:¬ k=2:=by simpa using h
 refine aJ (iP (k:=decide (k=3)) (cS (aC 0 rfl (pv 0)) dY rfl rfl rfl (aCK k h10)) (λh=> ?_) λh=>cO ?_)
 ·have:k=3:=by simpa using h
  subst this;exact bB (bU (dM gP (gA gY (aC 2 rfl (pv 2)) (aC 3 rfl (pv 3))) (aC 1 rfl (pv 1)) hm0) trivial rfl)
 have n3:¬ k=3:=by simpa using h
 refine aJ (iP (k:=decide (k=4)) (cS (aC 0 rfl (pv 0)) dY rfl rfl rfl (aAx k h10)) (λh=> ?_) λh=>cO ?_)
 ·have:k=4:=by simpa using h
  subst this;exact bB (bU (dM gP (gA qU (aC 2 rfl (pv 2)) (aC 3 rfl (pv 3))) (aC 1 rfl (pv 1)) hm0) trivial rfl)
 have n4:¬ k=4:=by simpa using h
 have:k=5:=by omega
 subst this;exact bB (bU (aC 3 rfl (pv 3)) trivial rfl)
structure aNO(p:Int×Int)(k:Nat)(i j n:Int)(ws:List Int):Prop where
 sz:p∈cJ
 k10:k<10
 i0:0<=i/\i<p.2
 j0:0<=j/\j<p.2
 n0:0<=n/\n<((2^p.1.toNat:Nat):Int)
 len:ws.length=p.2.toNat
 wd:∀w∈ws,0<=w/\w<((2^p.1.toNat:Nat):Int)
noncomputable def aKT(p:Int×Int)(k:Nat)(i j n:Int)(ws:List Int):Int:=newW k ((2^p.1.toNat:Nat):Int) (ws.getD i.toNat 0) (ws.getD j.toNat 0) n
def aBL:List D->R->Prop:=λds r=>∃p k i j n ws,aNO p k i j n ws/\ds=[cP p,kC k i j n,bJ ws]/\r=.val (.int (aKT p k i j n ws))
theorem aLY(n:Nat):(0:Int)<((2^n:Nat):Int):=by have:0<2^n:=Nat.pow_pos (by decide);generalize 2^n=q at this ⊢;omega
theorem aHS{ws:List Int}{i:Int}{n:Nat}(h:ws.length=n)(h1:i<(n:Int))(h0:0<=i):(ws.map D.int)[i.toNat]? =some (.int (ws.getD i.toNat 0)):=by
 have:i.toNat<ws.length:=by omega
 simp[cA,this]
theorem aCp(F:Fun K "new_word" "new_word" aBu f fd)(byself:∃ad,mg "BY_ITSELF"=some (.ref ad)/\∀H:Hp,SqT K H ad [V.str "not",V.str "up",V.str "down"])(hm:mg "new_word"=some (.ref f))(GC:bL P w K mg base "word_count" 1 1 aBc)(GI:bL P w K mg base "word_by_itself" 1 3 aDY)(GA:bL P w K mg base "word_by_another" 1 4 aBl):bL P w K mg base "new_word" 2 3 aBL:=by
 have nd:(["size","step","filling","name","word"]:List Str).Nodup:=by decide+kernel
 refine eQ (N:=["size","step","filling","name","word"]) (ps:=["size","step","filling"]) (k:=1) F ⟨rfl,rfl,rfl,nd,rfl,by decide+kernel,by decide+kernel⟩ hm (λ_ _ _ _ _ _ us hl=>match us,hl with | [_,_,_],_=>rfl) λcdv A outer s H E hr ds r hl c=> ?_
 obtain⟨p,k,i,j,n,ws,O,rfl,rfl⟩:=c;obtain⟨h1,h2,h3,h4,h5⟩:=xY p O.sz;have hm0:=aLY p.1.toNat;have ec:(2:Int)^p.1.toNat=((2^p.1.toNat:Nat):Int):=by push_cast;rfl
 have e2:p.2=((p.2.toNat:Nat):Int):=by omega
 obtain⟨ad,hB,hq⟩:=byself;have ai:(ws.map D.int)[i.toNat]? =some (.int (ws.getD i.toNat 0)):=aHS O.len (by have:=O.i0.2;omega) O.i0.1;have aj:(ws.map D.int)[j.toNat]? =some (.int (ws.getD j.toNat 0)):=aHS O.len (by have:=O.j0.2;omega) O.j0.1
 by_cases k6:k<6
 ·have es:kC k i j n=.tup [.str (nm k),.int i,.int j]:=by unfold kC;rw[if_pos k6]
  rw[es];refine aJ (cR 3 nd rfl (Or.inl rfl) (eX (n:=0) (aC 1 rfl (pv 1)) bE rfl λ_ _=>rfl) ?_);refine aJ (fR (cS (aC 3 rfl (pv 3)) dY rfl rfl rfl (tP k O.k10)) (by simp;omega) (cO ?_));refine aJ (cR 4 nd rfl (Or.inl rfl) (oJ (i:=i) (aC 2 rfl (pv 2)) (eX (n:=1) (aC 1 rfl (pv 1)) bE rfl λ_ _=>rfl) O.i0.1 ai λ_ _=>rfl) ?_);refine aJ (fR (aDX rfl hB (λH=>hq H) (aC 3 rfl (pv 3)) rfl rfl rfl) (by rw[aDD k O.k10];simp;omega) (cO ?_));refine bB (bU (bQ (ds:=[.str (nm k),.int ((2^p.1.toNat:Nat):Int),.int (ws.getD i.toNat 0),.int (ws.getD j.toNat 0)]) GA hr rfl (aD (aC 3 rfl (pv 3)) (aD (PEd.cast (bQ (ds:=[cP p]) GC hr rfl (aD (aC 0 rfl (pv 0)) aR) ⟨p,rfl,by omega,by omega,rfl⟩ trivial rfl) (by rw[ec])) (aD (aC 4 rfl (pv 4)) (aD (oJ (i:=j) (aC 2 rfl (pv 2)) (eX (n:=2) (aC 1 rfl (pv 1)) bE rfl λ_ _=>rfl) O.j0.1 aj λ_ _=>rfl) aR)))) ⟨k,_,_,_,rfl,k6,hm0,rfl⟩ trivial rfl) trivial ?_);unfold aKT newW;rw[if_neg (by omega),if_neg (by omega)]
 ·by_cases k6':k=6
  ·subst k6';have es:kC 6 i j n=.tup [.str (nm 6),.int i,.int n]:=rfl;rw[es];refine aJ (cR 3 nd rfl (Or.inl rfl) (eX (n:=0) (aC 1 rfl (pv 1)) bE rfl λ_ _=>rfl) ?_);refine aJ (jZ (cS (aC 3 rfl (pv 3)) dY rfl rfl rfl (tP 6 O.k10)) rfl ?_);exact bB (bU (eX (n:=2) (aC 1 rfl (pv 1)) bE rfl λ_ _=>rfl) trivial rfl)
  ·have es:kC k i j n=.tup [.str (nm k),.int i]:=by unfold kC;rw[if_neg k6,if_neg k6']
   rw[es];refine aJ (cR 3 nd rfl (Or.inl rfl) (eX (n:=0) (aC 1 rfl (pv 1)) bE rfl λ_ _=>rfl) ?_);refine aJ (fR (cS (aC 3 rfl (pv 3)) dY rfl rfl rfl (tP k O.k10)) (by simp;omega) (cO ?_));refine aJ (cR 4 nd rfl (Or.inl rfl) (oJ (i:=i) (aC 2 rfl (pv 2)) (eX (n:=1) (aC 1 rfl (pv 1)) bE rfl λ_ _=>rfl) O.i0.1 ai λ_ _=>rfl) ?_);refine aJ (jZ (aDX rfl hB (λH=>hq H) (aC 3 rfl (pv 3)) rfl rfl rfl) (by rw[aDD k O.k10];simp;omega) ?_);refine bB (bU (bQ (ds:=[.str (nm k),.int ((2^p.1.toNat:Nat):Int),.int (ws.getD i.toNat 0)]) GI hr rfl (aD (aC 3 rfl (pv 3)) (aD (PEd.cast (bQ (ds:=[cP p]) GC hr rfl (aD (aC 0 rfl (pv 0)) aR) ⟨p,rfl,by omega,by omega,rfl⟩ trivial rfl) (by rw[ec])) (aD (aC 4 rfl (pv 4)) aR))) ⟨k,_,_,rfl,by omega,O.k10,hm0,rfl⟩ trivial rfl) trivial ?_);unfold aKT newW;rw[if_neg k6',if_pos (by omega)]
def aBs:List D->R->Prop:=λds r=>∃k i j n,ds=[kC k i j n]/\r=.val (.int i)
theorem aKE(k:Nat)(i j n:Int):∃es,kC k i j n=.tup (.str (nm k)::.int i::es):=by
 unfold kC
 split
 ·exact⟨_,rfl⟩
 ·split
  ·exact⟨_,rfl⟩
  ·exact⟨_,rfl⟩
theorem aCf(F:Fun K "written_box" "written_box" aBg f fd)(hm:mg "written_box"=some (.ref f)):bL P w K mg base "written_box" 1 1 aBs:=by
 have nd:(["step"]:List Str).Nodup:=by decide+kernel
 refine eQ (N:=["step"]) (ps:=["step"]) (k:=0) F ⟨rfl,rfl,rfl,nd,rfl,by decide+kernel,by decide+kernel⟩ hm (λ_ _ _ _ _ _ us hl=>match us,hl with | [_],_=>rfl) λcdv A outer s H E hr ds r hl c=> ?_
 obtain⟨k,i,j,n,rfl,rfl⟩:=c;obtain⟨es,e⟩:=aKE k i j n;rw[e];exact bB (bU (eX (n:=1) (aC 0 rfl (pv 0)) bE rfl λ_ _=>rfl) trivial rfl)
noncomputable def aOQ(p:Int×Int)(k:Nat)(i j n:Int)(ws:List Int):List Int:=ws.set i.toNat (aKT p k i j n ws)
def aDN:List D->R->Prop:=λds r=>∃p k i j n ws,aNO p k i j n ws/\ds=[cP p,kC k i j n,bJ ws]/\r=.val (bJ (aOQ p k i j n ws))
theorem tE(ws:List Int){i:Nat}(h:i<ws.length):DL.cutD (ws.map D.int) none (some (i:Int))=(ws.take i).map D.int:=by
 unfold DL.cutD;have h1:HT.sIx (ws.map D.int).length 0 none=0:=rfl
 have h2:HT.sIx (ws.map D.int).length (ws.map D.int).length (some (i:Int))=i:=by rw[HT.sIx_nat,aB];omega
 rw[h1,h2,iO];simp
theorem sK(ws:List Int){i:Nat}(h:i<ws.length):DL.cutD (ws.map D.int) (some ((i:Int)+1)) none=(ws.drop (i+1)).map D.int:=by
 unfold DL.cutD;have e:((i:Int)+1)=((i+1:Nat):Int):=by push_cast;rfl
 have h1:HT.sIx (ws.map D.int).length 0 (some ((i:Int)+1))=i+1:=by rw[e,HT.sIx_nat,aB];omega
 have h2:HT.sIx (ws.map D.int).length (ws.map D.int).length none=ws.length:=by rw[HT.sIx_none,aB]
 rw[h1,h2,lN,hW (by rw[iS,aB];omega)]
theorem aEs(F:Fun K "step_on" "step_on" aDC f fd)(hm:mg "step_on"=some (.ref f))(GB:bL P w K mg base "written_box" 1 1 aBs)(GN:bL P w K mg base "new_word" 2 3 aBL):bL P w K mg base "step_on" 3 3 aDN:=by
 have nd:(["size","step","filling","box"]:List Str).Nodup:=by decide+kernel
 refine eQ (N:=["size","step","filling","box"]) (ps:=["size","step","filling"]) (k:=2) F ⟨rfl,rfl,rfl,nd,rfl,by decide+kernel,by decide+kernel⟩ hm (λ_ _ _ _ _ _ us hl=>match us,hl with | [_,_,_],_=>rfl) λcdv A outer s H E hr ds r hl c=> ?_
 obtain⟨p,k,i,j,n,ws,O,rfl,rfl⟩:=c;obtain⟨h1,h2,h3,h4,h5⟩:=xY p O.sz;have hr1:=hr.mono (show 1<=2 by decide);have li:i.toNat<ws.length:=by have:=O.i0;rw[O.len];omega
 have ei:i=((i.toNat:Nat):Int):=by have:=O.i0;omega
 have l6:ws.length<=6:=by rw[O.len];omega
 refine aJ (cR (d:=.int ((i.toNat:Nat):Int)) 3 nd rfl (Or.inl rfl) (PEd.cast (bQ (ds:=[kC k i j n]) GB hr1 rfl (aD (aC 1 rfl (pv 1)) aR) ⟨k,i,j,n,rfl,rfl⟩ trivial rfl) (by rw[<-ei])) ?_);refine bB (bU (PEd.cast (mU (mU (aAW (ol:=none) (oh:=some ((i.toNat:Nat):Int)) (aC 2 rfl (pv 2)) trivial (aC 3 rfl (pv 3)) ?_) (gF (ds:=[.int (aKT p k i j n ws)]) (aD (bQ (ds:=[cP p,kC k i j n,bJ ws]) GN hr rfl (aD (aC 0 rfl (pv 0)) (aD (aC 1 rfl (pv 1)) (aD (aC 2 rfl (pv 2)) aR))) ⟨p,k,i,j,n,ws,O,rfl,rfl⟩ trivial rfl) aR) (aK rfl)) ?_) (aAW (ol:=some (((i.toNat:Nat):Int)+1)) (oh:=none) (aC 2 rfl (pv 2)) (gA gY (aC 3 rfl (pv 3)) bE) trivial ?_) ?_) ?_) trivial rfl)
 ·rw[HT.sIx_nat,aB];omega
 ·rw[tE ws li];simp only[aB,bX,bS,gW];omega
 ·have e:(((i.toNat:Nat):Int)+1)=((i.toNat+1:Nat):Int):=by push_cast;rfl
  rw[e,HT.sIx_nat,aB];omega
 ·rw[tE ws li,sK ws li];simp only[aP,aB,bX,iS,bS,gW];omega
 ·rw[tE ws li,sK ws li];unfold bJ aOQ;rw[uC,if_pos li];simp
theorem aMs{p:Int×Int}{q:SQ}{ws:List Int}(O:qE p q)(G:Fil p ws):aNO p q.1 q.2.1 q.2.2.1 q.2.2.2 ws:=⟨O.sz,O.k10,O.i0,O.j0,O.n0,G.len,G.wd⟩
theorem aHb(F:Fun K "numbers_of_step" "numbers_of_step" aNP f fd)(ztuple:mg "tuple"=none)(hm:mg "numbers_of_step"=some (.ref f))(GN:bL P w K mg base "number_of" 2 2 aOL)(GS:bL P w K mg base "step_on" 3 3 aDN)(GF:bL P w K mg base "fillings" 2 1 aFQ):bL P w K mg base "numbers_of_step" 4 2 aOM:=by
 have nd:(["size","step"]:List Str).Nodup:=by decide+kernel
 have nd2:(["filling","size","step"]:List Str).Nodup:=by decide+kernel
 refine eQ (N:=["size","step"]) (ps:=["size","step"]) (k:=3) F ⟨rfl,rfl,rfl,nd,rfl,by decide+kernel,by decide+kernel⟩ hm (λ_ _ _ _ _ _ us hl=>match us,hl with | [_,_],_=>rfl) λcdv A outer s H E hr ds r hl c=> ?_
 obtain⟨p,q,hp,O,rfl,rfl⟩:=c;have hr2:=hr.mono (show 2<=3 by decide);have f9:(dH p).length<=64:=lU hp;obtain⟨h1,h2,h3,h4,h5⟩:=xY p hp
 have ec:(((dH p).map bJ).filter λ_=>true).map (λd=>D.int ((tX p (onQ p q (qQ d)):Nat):Int))=bM (gX p q):=by
  rw[cQ.mpr (λ_ _=>rfl)];unfold bM gX;rw[bA,bA];refine bZ λg _=> ?_
  show D.int ((tX p (onQ p q (qQ (bJ g))):Nat):Int)=_;rw[oF];rfl
 refine bB (bU (nH rfl ztuple (PEd.bor (PEd.val (PEd.cast (jK (ds:=(dH p).map bJ) (N:=["filling","size","step"]) (M:=["size","step"]) (cap:=[none,some 0,some 1]) (sc:=bI aNP) (Tb:=λd=>[.val d,.val (cP p),.val (sqD q)]) (λ_=>true) (λd=>D.int ((tX p (onQ p q (qQ d)):Nat):Int)) (gQ (PEd.val (bQ (ds:=[cP p]) GF hr2 rfl (aD (aC 0 rfl (pv 0)) aR) ⟨p,hp,rfl,rfl⟩ trivial rfl))) (by rw[aB];omega) rfl (by decide+kernel) rfl (by decide+kernel) rfl (λcl C fp s H d hd=>fM 0 (bR (i:=0) nd2 rfl (Or.inl rfl))) (λd hd=>⟨.inl rfl,.inr rfl,.inr rfl,trivial⟩) (λcl C fp s H d hd=>.inl ⟨rfl,rfl⟩) λcl C2 fp s H d hd _=> ?_) (by rw[ec]))))) trivial rfl);obtain⟨g,hg,rfl⟩:=aBI hd;rw[oF];have G:=aAw hp hg;have e:=(aCY hp (aAB O G)).1;exact bQ (ds:=[cP p,bJ (onQ p q g)]) GN hr2 rfl (aD (aC 1 rfl (pv 1)) (aD (bQ (ds:=[cP p,sqD q,bJ g]) GS hr rfl (aD (aC 1 rfl (pv 1)) (aD (aC 2 rfl (pv 2)) (aD (aC 0 rfl (pv 0)) aR))) ⟨p,_,_,_,_,g,aMs O G,rfl,rfl⟩ trivial rfl) aR)) ⟨p,_,rfl,by omega,by omega,by rw[e]⟩ trivial rfl
theorem aBT(F:Fun K "moves_of" "moves_of" aCQ f fd)(hm:mg "moves_of"=some (.ref f))(GN:bL P w K mg base "numbers_of_step" 4 2 aOM):bL P w K mg base "moves_of" 5 2 aDh:=by
 have nd:(["size","stock"]:List Str).Nodup:=by decide+kernel
 have nd2:(["step","price","size"]:List Str).Nodup:=by decide+kernel
 refine eQ (N:=["size","stock"]) (ps:=["size","stock"]) (k:=4) F ⟨rfl,rfl,rfl,nd,rfl,by decide+kernel,by decide+kernel⟩ hm (λ_ _ _ _ _ _ us hl=>match us,hl with | [_,_],_=>rfl) λcdv A outer s H E hr ds r hl c=> ?_
 obtain⟨p,L,hp,S,dn,rfl,rfl⟩:=c;have l8:=S.le
 have ec:((L.map skD).filter λ_=>true).map (λd=>mvD p (wJ L d))=L.map (mvD p):=by
  rw[cQ.mpr (λ_ _=>rfl),bA];refine bZ λs hs=> ?_
  show mvD p (wJ L (skD s))=_;rw[xM dn hs]
 refine bB (bU (PEd.cast (jK (ds:=L.map skD) (N:=["step","price","size"]) (M:=["size","stock"]) (cap:=[none,none,some 0]) (sc:=bI aCQ) (Tb:=λd=>[.val (sqD (wJ L d).1),.val (.int (wJ L d).2),.val (cP p)]) (λ_=>true) (λd=>mvD p (wJ L d)) (gQ (aC 1 rfl (pv 1))) (by rw[aB];omega) rfl (by decide+kernel) rfl (by decide+kernel) rfl (λcl C fp s H d hd=> ?_) (λd hd=>⟨.inl rfl,.inl rfl,.inr rfl,trivial⟩) (λcl C fp s H d hd=>.inl ⟨rfl,rfl⟩) λcl C2 fp s H d hd _=> ?_) (by rw[ec])) trivial rfl)
 ·obtain⟨z,hz,rfl⟩:=aN.mp hd;rw[xM dn hz];exact jA (ds:=[sqD z.1,.int z.2]) (js:=[0,1]) rfl (cN (bR (i:=0) nd2 rfl (Or.inl rfl)) (cN (bR (i:=1) nd2 rfl (Or.inl rfl)) iW)) rfl rfl
 ·obtain⟨z,hz,rfl⟩:=aN.mp hd;rw[xM dn hz];exact gF (ds:=[.int z.2,.tup (bM (gX p z.1))]) (aD (aC 1 rfl (pv 1)) (aD (bQ (ds:=[cP p,sqD z.1]) GN hr rfl (aD (aC 2 rfl (pv 2)) (aD (aC 0 rfl (pv 0)) aR)) ⟨p,z.1,hp,(S.st z hz).1,rfl,rfl⟩ trivial rfl) aR)) (aK rfl)
theorem aFo(F:Fun K "numbers_behind" "numbers_behind" aIQ f fd)(ztuple:mg "tuple"=none)(hm:mg "numbers_behind"=some (.ref f)):bL P w K mg base "numbers_behind" 1 2 aFO:=by
 have nd:(["one","other"]:List Str).Nodup:=by decide+kernel
 have nd2:(["number","other"]:List Str).Nodup:=by decide+kernel
 refine eQ (N:=["one","other"]) (ps:=["one","other"]) (k:=0) F ⟨rfl,rfl,rfl,nd,rfl,by decide+kernel,by decide+kernel⟩ hm (λ_ _ _ _ _ _ us hl=>match us,hl with | [_,_],_=>rfl) λcdv A outer s H E hr ds r hl c=> ?_
 obtain⟨one,other,h1,h2,rfl,rfl⟩:=c
 have ec:((bM one).filter λ_=>true).map (λd=>match d with | .int i=>D.int ((other.getD i.toNat 0:Nat):Int)|_=>.non)=bM (gR other one):=by rw[cQ.mpr (λ_ _=>rfl)];unfold bM gR;rw[bA,bA];rfl
 refine bB (bU (nH rfl ztuple (PEd.bor (PEd.val (PEd.cast (jK (ds:=bM one) (N:=["number","other"]) (M:=["one","other"]) (cap:=[none,some 1]) (sc:=bI aIQ) (Tb:=λd=>[.val d,.val (.tup (bM other))]) (λ_=>true) (λd=>match d with | .int i=>D.int ((other.getD i.toNat 0:Nat):Int)|_=>.non) (oN (aC 0 rfl (pv 0))) (by rw[xA];omega) rfl (by decide+kernel) rfl (by decide+kernel) rfl (λcl C fp s H d hd=>fM 0 (bR (i:=0) nd2 rfl (Or.inl rfl))) (λd hd=>⟨.inl rfl,.inr rfl,trivial⟩) (λcl C fp s H d hd=>.inl ⟨rfl,rfl⟩) λcl C2 fp s H d hd _=> ?_) (by rw[ec]))))) trivial rfl);obtain⟨i,hi,rfl⟩:=aN.mp hd;exact eX (n:=i) (aC 1 rfl (pv 1)) (aC 0 rfl (pv 0)) (aMd (h2 i hi)) λ_ _=>rfl
theorem aGp(F:Fun K "put_longer_rows" "put_longer_rows" aNv f fd)(zenumerate:mg "enumerate"=none)(hm:mg "put_longer_rows"=some (.ref f))(GB:bL P w K mg base "numbers_behind" 1 2 aFO):vA P w K (wtL P w K) mg base "put_longer_rows" 2 6 aOF:=by
 have nd:(["waiting","moves","bound","rank","row","numbers","place","move","price","longer"]:List Str).Nodup:=by decide+kernel
 refine aJF (Z:=wtL P w K) (N:=["waiting","moves","bound","rank","row","numbers","place","move","price","longer"]) (ps:=["waiting","moves","bound","rank","row","numbers"]) (k:=1) F ⟨rfl,rfl,rfl,nd,rfl,by decide+kernel,by decide+kernel⟩ hm (λ_ _ _ _ _ _ us hl=>match us,hl with | [_,_,_,_,_,_],_=>rfl) (λcdv A outer s H E B hB hr a ds post hl c=> ?_) (aHi P w K);obtain⟨p,L,b,r,row,nb,hp,L9,hnb,r9,ndT,hT,rfl,rfl⟩:=c;have hu:(A.deeper (Ah "put_longer_rows" (bI aNv) s.heap.objs.size f cdv)).units+4<AO:=by have:=hr.un;omega
 have f9:(dH p).length<=64:=lU hp;refine bB (gB (ds:=vO (L.map (mvD p))) (λt sd=>∃a':Wt,a'.l=a.l/\a'.T=lgQ p L b r row nb t a.T/\sd=[wtS P w K a',.val (.lst (L.map (mvD p))),.val (.int b),.val (.tup [.int r.1,.int r.2]),.val (.tup (bM row)),.val (.tup (bM nb)),.un,.un,.un,.un]) (aGc rfl zenumerate (aC 1 rfl (pv 1))) ⟨_,Le.refl _,a,rfl,rfl,rfl⟩ (λt d sdt hd ht=> ?_) λsdn hn=> ?_)
 ·obtain⟨x,hx,rfl⟩:=yK hd;obtain⟨a',el,eT,rfl⟩:=ht
  have tl:t<L.length:=by have:=(aE.mp hx).1;simpa using this
  have ex:x=mvD p (L.getD t AN):=by rw[aQ,eW tl] at hx;rw[<-cF.inj hx];simp[cA,tl]
  subst ex;have es:lgQ p L b r row nb (t+1) a.T=if r.1+(L.getD t AN).2<=b then kZ (lgQ p L b r row nb t a.T) (r.1+(L.getD t AN).2,r.2+1) (nP (row++[t],gR (gX p (L.getD t AN).1) nb)) else lgQ p L b r row nb t a.T:=rfl
  have ndt:=aFR (p:=p) (L:=L) (b:=b) (r:=r) (row:=row) (nb:=nb) ndT t;have tt:=aHK (p:=p) (L:=L) (b:=b) (r:=r) (row:=row) (nb:=nb) (T:=a.T) t;rw[<-eT] at es ndt tt;obtain⟨pl0,pl1⟩:=hnb;generalize L.getD t AN=m at es;refine⟨[wtS P w K a',.val (.lst (L.map (mvD p))),.val (.int b),.val (.tup [.int r.1,.int r.2]),.val (.tup (bM row)),.val (.tup (bM nb)),.val (.int (t:Int)),.val (mvD p m),.un,.un],jA (js:=[6,7]) rfl (cN (bR (i:=6) nd rfl (Or.inl rfl)) (cN (bR (i:=7) nd rfl (Or.inl rfl)) iW)) rfl rfl, ?_⟩;refine aJ (cR (d:=.int (r.1+m.2)) 8 nd rfl (Or.inl rfl) (gA gY (eX (n:=0) (d:=.int r.1) (aC 3 rfl (pv 3)) bE rfl λ_ _=>rfl) (eX (n:=0) (d:=.int m.2) (aC 7 rfl (pv 7)) bE rfl λ_ _=>rfl)) ?_);refine bB (iP (k:=decide (r.1+m.2<=b)) (oU yI (aC 8 rfl (pv 8)) (aC 2 rfl (pv 2)) (jI _)) (λq=> ?_) λq=>cO ?_)
  ·rw[if_pos (of_decide_eq_true q)] at es;have e1:bM row++[.int (t:Int)]=bM (row++[t]):=by unfold bM;rw[aW];rfl
   refine aJ (cR (d:=p2D (nP (row++[t],gR (gX p m.1) nb))) 9 nd rfl (Or.inl rfl) (PEd.cast (gF (ds:=[.tup (bM (row++[t])),.tup (bM (gR (gX p m.1) nb))]) (aD (PEd.cast (mU (d1:=bM row) (d2:=[.int (t:Int)]) (aC 4 rfl (pv 4)) (gF (ds:=[.int (t:Int)]) (aD (aC 6 rfl (pv 6)) aR) (aK rfl)) (by unfold bM;rw[aB];show _+1<=1000;omega)) (by rw[e1])) (aD (bQ (ds:=[.tup (bM nb),.tup (bM (gX p m.1))]) (r:=.val (.tup (bM (gR (gX p m.1) nb)))) GB hr rfl (aD (aC 5 rfl (pv 5)) (aD (eX (n:=1) (d:=.tup (bM (gX p m.1))) (aC 7 rfl (pv 7)) bE rfl λ_ _=>rfl) aR)) ⟨nb,gX p m.1,by omega,λi hi=>by rw[aAq];exact pl1 i hi,rfl,rfl⟩ trivial rfl) aR)) (aK rfl)) (by rw[aNz])) ?_);generalize nP (row++[t],gR (gX p m.1) nb)=y at es;refine bB (aEZ (k:=rkK (r.1+m.2,r.2+1)) (ks:=wtK a'.T) (ls:=a'.ls) (dss:=wtD a'.T) (d:=p2D y) 0 (by show(A.deeper _).units+1<AO;omega) rfl (pv 0) (PEd.cast (gF (ds:=[.int (r.1+m.2),.int (r.2+1)]) (aD (aC 8 rfl (pv 8)) (aD (gA gY (eX (n:=1) (d:=.int r.2) (aC 3 rfl (pv 3)) bE rfl λ_ _=>rfl) bE) aR)) (aK rfl)) rfl) (λz=>aC 9 rfl (pv 9)) (by have:=aJz a'.T;unfold wtD;rw[aB];omega) (λds hd=>by have:=aJZ ds hd;omega) (λn ds hk hd=> ?_) λhk a9=> ?_)
   ·obtain⟨k1,k2⟩:=xP y ndt hk hd;refine⟨[wtS P w K ⟨a'.l,a'.ls,kZ a'.T (r.1+m.2,r.2+1) y⟩,.val (.lst (L.map (mvD p))),.val (.int b),.val (.tup [.int r.1,.int r.2]),.val (.tup (bM row)),.val (.tup (bM nb)),.un,.un,.un,.un],⟨.inr ?_,.inr rfl,.inr rfl,.inr rfl,.inr rfl,.inr rfl,.inl rfl,.inl rfl,.inl rfl,.inl rfl,trivial⟩,⟨a'.l,a'.ls,kZ a'.T (r.1+m.2,r.2+1) y⟩,el,es.symm,rfl⟩;unfold wtS;rw[k1,k2];rfl
   ·have k1:=wN y hk;refine⟨[wtS P w K ⟨a'.l,a'.ls++[a9],kZ a'.T (r.1+m.2,r.2+1) y⟩,.val (.lst (L.map (mvD p))),.val (.int b),.val (.tup [.int r.1,.int r.2]),.val (.tup (bM row)),.val (.tup (bM nb)),.un,.un,.un,.un],⟨.inr ?_,.inr rfl,.inr rfl,.inr rfl,.inr rfl,.inr rfl,.inl rfl,.inl rfl,.inl rfl,.inl rfl,trivial⟩,⟨a'.l,a'.ls++[a9],kZ a'.T (r.1+m.2,r.2+1) y⟩,el,es.symm,rfl⟩;unfold wtS;rw[k1];unfold wtK wtD;rw[aW,aW];rfl
  ·rw[if_neg (of_decide_eq_false q)] at es;exact⟨[wtS P w K a',.val (.lst (L.map (mvD p))),.val (.int b),.val (.tup [.int r.1,.int r.2]),.val (.tup (bM row)),.val (.tup (bM nb)),.un,.un,.un,.un],⟨.inr rfl,.inr rfl,.inr rfl,.inr rfl,.inr rfl,.inr rfl,.inl rfl,.inl rfl,.inl rfl,.inr rfl,trivial⟩,a',el,es.symm,rfl⟩
 ·obtain⟨a',el,eT,rfl⟩:=hn;refine⟨a',⟨el, ?_⟩,rfl⟩;rw[eT,tN,aB]
theorem aCa(F:Fun K "found_rows" "found_rows" sFd f fd)(zlen:mg "len"=none)(zmin:mg "min"=none)(zlist:mg "list"=none)(zsorted:mg "sorted"=none)(hmt:∃t,mg "MOST_TABLES"=some (.int 500 t))(hm:mg "found_rows"=some (.ref f))(GP:vA P w K (wtL P w K) mg base "put_longer_rows" 2 6 aOF):bL P w K mg base "found_rows" 3 3 aId:=by
 obtain⟨tm,hmt⟩:=hmt;have nd:(["moves","bound","start","waiting","known","found","rank","ready","row","numbers"]:List Str).Nodup:=by decide+kernel
 refine eQ (N:=["moves","bound","start","waiting","known","found","rank","ready","row","numbers"]) (ps:=["moves","bound","start"]) (k:=2) F ⟨rfl,rfl,rfl,nd,rfl,by decide+kernel,by decide+kernel⟩ hm (λ_ _ _ _ _ _ us hl=>match us,hl with | [_,_,_],_=>rfl) λcdv A outer s H E hr ds r hl c=> ?_
 obtain⟨p,L,b,U,hp,S0,FU,rfl,rfl⟩:=c;have hu8:(A.deeper (Ah "found_rows" (bI sFd) s.heap.objs.size f cdv)).units+8<AO:=by have:=hr.un;omega
 have hu4:(A.deeper (Ah "found_rows" (bI sFd) s.heap.objs.size f cdv)).units+4<AO:=by omega
 have hu2:(A.deeper (Ah "found_rows" (bI sFd) s.heap.objs.size f cdv)).units+2<AO:=by omega
 have hu1:(A.deeper (Ah "found_rows" (bI sFd) s.heap.objs.size f cdv)).units+1<AO:=by omega
 have hpr:=S0.pr;have l8:=S0.le;have u4:=FU.len;refine aJ (aEm 3 nd rfl (Or.inl rfl) λl3=> ?_);refine aFS (K:=∀ls T,(fd0 p b).T=T->PSd _ [.val (.lst (L.map (mvD p))),.val (.int b),.val (.tup (bM (st0 p))),wtS P w K ⟨l3,ls,T⟩,.un,.un,.un,.un,.un,.un] _ _) (λkey=>aJ (iP (k:=decide (0<=b)) (oU aNV (aC 1 rfl (pv 1)) bE (jI _)) (λq=> ?_) λq=>cO (key [] [] (if_neg (of_decide_eq_false q))))) λls T e0=> ?_
 ·refine bB (aGV (ds:=[p2D (nP ([],st0 p))]) 3 hu1 rfl (pv 3) (iY (ds:=[p2D (nP ([],st0 p))]) (aD (PEd.cast (gF (ds:=[.tup (bM []),.tup (bM (st0 p))]) (aD (gF (ds:=[]) aR (aK rfl)) (aD (aC 2 rfl (pv 2)) aR)) (aK rfl)) (by rw[aNz])) aR) (aK rfl)) (λz=>nomatch z) (aK rfl) λa=> ?_);exact key [a] [((0,0),[nP ([],st0 p)])] (if_pos (of_decide_eq_true q))
 subst e0;refine aJ (pE (hkT P w) 4 nd rfl (Or.inl rfl) λl4=> ?_);refine aJ (gC (ds:=[]) 5 nd rfl (Or.inl rfl) (iY (ds:=[]) aR (aK rfl)) λl5=> ?_);refine aJ (aEK (λm sd=>∃S dn r ls,Wk p L b dn r [] S/\U.length<dn.length+m/\mH p L b m S=mH p L b 401 (fd0 p b)/\sd=[.val (.lst (L.map (mvD p))),.val (.int b),.val (.tup (bM (st0 p))),wtS P w K ⟨l3,ls,S.T⟩,oG (hkT P w) K l4 (S.kn.map iC) (S.kn.map λ_=>.bl true),.own l5 (S.fd.map fdD),.un,.un,.un,.un]) ⟨401,_,Le.refl _,fd0 p b,[],(0,0),ls,wk0 p L b,by simp;omega,rfl,rfl⟩ λm sdm hw=> ?_);obtain⟨S,dn,r,ls,W,hU,hR,rfl⟩:=hw;refine⟨decide ((0:Int)<((wtK S.T).length:Int)),oU aFU (aJH 3 rfl zlen rfl (pv 3)) bE (jI _),λq=> ?_,λq=> ?_⟩
 ·have e:S.T=[]:=by have:=of_decide_eq_false q;unfold wtK at this;rw[aB] at this;exact dJ (by omega)
  have e2:mH p L b m S=S:=by
   cases m with
   |zero=>rfl
   |succ m=>exact if_pos e
  have e3:bkF p L b=S.fd:=by unfold bkF;rw[<-hR,e2]
  rw[e3];exact bB (nL 5 rfl (pv 5) rfl)
 ·have hne:S.T≠[]:=λz=>by rw[z] at q;cases q
  obtain⟨t,ht,hm,tnd,tne,W1,eT,W2⟩:=W.turn hpr hne;obtain⟨M,t',g1,g2,g3,g4,_⟩:=aLU (X:=(nO CX0 P w K mg base ["moves","bound","start","waiting","known","found","rank","ready","row","numbers"] "found_rows" (bI sFd) f cdv A outer s H E).nox) hu4 hne;have et:t=t':=(cF.inj (g1.symm.trans ht)).symm;subst et
  have tl:t.2.length<=10000:=by have:=W.few FU;have h1:=(jF t.2).length_eq;have h2:=W1.few FU;omega
  refine aJ (cR (d:=rkD t.1) 6 nd rfl (Or.inl rfl) (aJs rfl zmin (PEd.bor (PEd.val (aHn 3 rfl zlist rfl (pv 3)))) M g2) ?_);refine aJ (aGb (ps:=t.2) (rk:=rkP t.2) (k:=rkK t.1) 3 7 (gE S.T) hu1 rfl zsorted rfl (pv 3) (PEd.cast (aC 6 rfl (pv 6)) rfl) g3 g4 (aLK tnd tl hu8) nd rfl (Or.inl rfl) λl7 qs qp qw=>jW 7 rfl ?_);have eq:=aKr tnd qp qw;subst eq;have ek:wtK (S.T.eraseIdx (gE S.T))=(wtK S.T).eraseIdx (gE S.T):=by unfold wtK;rw[dU,dU,aW,iO,lN]
  have ed:wtD (S.T.eraseIdx (gE S.T))=(wtD S.T).eraseIdx (gE S.T):=by unfold wtD;rw[dU,dU,aW,iO,lN]
  have e5:odG P w K l3 ((wtK S.T).eraseIdx (gE S.T)) (ls.eraseIdx (gE S.T)) ((wtD S.T).eraseIdx (gE S.T))=wtS P w K ⟨l3,ls.eraseIdx (gE S.T),S.T.eraseIdx (gE S.T)⟩:=by unfold wtS;rw[ek,ed]
  refine zW (sd':=[.val (.lst (L.map (mvD p))),.val (.int b),.val (.tup (bM (st0 p))),wtS P w K ⟨l3,ls.eraseIdx (gE S.T),({S with T:=S.T.eraseIdx (gE S.T)}:FdS).T⟩,oG (hkT P w) K l4 (({S with T:=S.T.eraseIdx (gE S.T)}:FdS).kn.map iC) (({S with T:=S.T.eraseIdx (gE S.T)}:FdS).kn.map λ_=>.bl true),.own l5 (({S with T:=S.T.eraseIdx (gE S.T)}:FdS).fd.map fdD),.val (rkD t.1),.val (.lst ((kF t.2).map p2D)),.un,.un]) ⟨.inr rfl,.inr rfl,.inr rfl,.inr e5,.inr rfl,.inr rfl,.inr rfl,.inr rfl,.inr rfl,.inr rfl,trivial⟩ ?_
  have hR2:∃m',m=m'+1/\mH p L b m' (fdT p L b S)=mH p L b 401 (fd0 p b):=by
   cases m with
   |zero=>have:=W.few FU;omega
   |succ m'=>have e6:mH p L b (m'+1) S=mH p L b m' (fdT p L b S):=if_neg hne;exact⟨m',rfl,by rw[<-e6];exact hR⟩
  obtain⟨m',rfl,hR2⟩:=hR2
  have tpos:0<(kF t.2).length:=by rw[(jF t.2).length_eq];exact hG.mpr tne
  rw[eT] at hR2 W2;clear hR e5 ek ed g1 g2 g3 g4 M qp qw eT;generalize ({S with T:=S.T.eraseIdx (gE S.T)}:FdS)=S1 at W1 W2 hR2;generalize ls.eraseIdx (gE S.T)=ls1;refine bB (gB (ds:=(kF t.2).map p2D) (λj sd=>∃S' ls,S'=fdP p L b t.1 S1 ((kF t.2).take j)/\sd=[.val (.lst (L.map (mvD p))),.val (.int b),.val (.tup (bM (st0 p))),wtS P w K ⟨l3,ls,S'.T⟩,oG (hkT P w) K l4 (S'.kn.map iC) (S'.kn.map λ_=>.bl true),.own l5 (S'.fd.map fdD),.val (rkD t.1),.val (.lst ((kF t.2).map p2D)),.un,.un]) (gQ (aC 7 rfl (pv 7))) ⟨_,Le.refl _,S1,ls1,rfl,rfl⟩ (λj d sdj hd hj=> ?_) λsdn hn=> ?_)
  ·obtain⟨S',ls2,eS,rfl⟩:=hj;obtain⟨y,hy,rfl,ey⟩:=lZ hd;have jl:j<(kF t.2).length:=(aE.mp hy).1;have Wj:=W1.take hpr j (by omega);have Wj1:=W1.take hpr (j+1) (by omega);rw[ey,wQ,<-eS] at Wj1;rw[<-eS] at Wj;have eS1:fdP p L b t.1 S1 ((kF t.2).take (j+1))=fdI p L b t.1 S' (unP y):=by rw[ey,wQ,<-eS]
   obtain⟨row,rfl,ro,er,rb⟩:=W1.rs y (aO hy);rw[eS1];rw[aLe] at Wj1 ⊢;have rU:row.length<=300:=FU.rl _ (FU.all _ ro (by rw[er] at rb;exact rb));have nbo:=(wF hp (λs hs=>(S0.st s hs).1) ro).1;have f1:=Wj.fdl FU;have f2:=Wj1.fdl FU;have tt:=Wj.tot FU;have okj:=Wj.ok
   have kl:S'.kn.length<=400:=by rw[okj.kn,aB];exact f1
   have dy:p2D (itP p L row)=.tup [.tup (bM row),.tup (bM (nrQ p L row))]:=aNz _;rw[dy];clear Wj Wj1 eS1 ey hy hd eS dy;refine⟨[.val (.lst (L.map (mvD p))),.val (.int b),.val (.tup (bM (st0 p))),wtS P w K ⟨l3,ls2,S'.T⟩,oG (hkT P w) K l4 (S'.kn.map iC) (S'.kn.map λ_=>.bl true),.own l5 (S'.fd.map fdD),.val (rkD t.1),.val (.lst ((kF t.2).map p2D)),.val (.tup (bM row)),.val (.tup (bM (nrQ p L row)))],jA (ds:=[.tup (bM row),.tup (bM (nrQ p L row))]) (js:=[8,9]) rfl (cN (bR (i:=8) nd rfl (Or.inl rfl)) (cN (bR (i:=9) nd rfl (Or.inl rfl)) iW)) rfl rfl, ?_⟩
   have inj:decide (nrQ p L row∈S'.kn)=true↔iC (nrQ p L row)∈S'.kn.map iC:=by
    rw[decide_eq_true_iff]
    constructor
    ·exact λh=>aN.mpr ⟨_,h,rfl⟩
    ·intro h;obtain⟨e,e1,e2⟩:=aN.mp h;rw[<-rQ e2];exact e1
   refine aFS (K:=∀S2 ls3,S2=fdI p L b t.1 S' (row,nrQ p L row)->PSd _ [.val (.lst (L.map (mvD p))),.val (.int b),.val (.tup (bM (st0 p))),wtS P w K ⟨l3,ls3,S2.T⟩,oG (hkT P w) K l4 (S2.kn.map iC) (S2.kn.map λ_=>.bl true),.own l5 (S2.fd.map fdD),.val (rkD t.1),.val (.lst ((kF t.2).map p2D)),.val (.tup (bM row)),.val (.tup (bM (nrQ p L row)))] _ _) (λkey=>aJ (iP (k:= !decide (nrQ p L row∈S'.kn)) (aBD (hk:=hkT P w) (k:=iC (nrQ p L row)) inj hu2 (PEd.cast (aC 9 rfl (pv 9)) (by rw[show(hkT P w).dat (iC (nrQ p L row))=tD (iC (nrQ p L row)) from rfl,oH])) (aAp 4 rfl (pv 4))) (λq=> ?_) λq=>cO (key S' ls2 (if_pos (by simpa using q)).symm))) λS2 ls3 e2=> ?_
   ·have nk:nrQ p L row∉S'.kn:=by simpa using q
    refine aJ (pJ (hk:=hkT P w) (k:=iC (nrQ p L row)) (d:=.bl true) 4 hu2 rfl (pv 4) vT (PEd.cast (aC 9 rfl (pv 9)) (by rw[show(hkT P w).dat (iC (nrQ p L row))=tD (iC (nrQ p L row)) from rfl,oH])) (λz=>nk (of_decide_eq_true (inj.mpr z))) (by rw[aB];omega) ?_);refine aJ (qX (d:=fdD (t.1.1,row,nrQ p L row)) 5 rfl (pv 5) (gF (ds:=[.int t.1.1,.tup (bM row),.tup (bM (nrQ p L row))]) (aD (eX (n:=0) (d:=.int t.1.1) (aC 6 rfl (pv 6)) bE rfl λ_ _=>rfl) (aD (aC 8 rfl (pv 8)) (aD (aC 9 rfl (pv 9)) aR))) (aK rfl)) (by rw[aB];omega) ?_);refine bB (aFe (Z:=wtL P w K) (a:=⟨l3,ls2,S'.T⟩) (ds:=[.lst (L.map (mvD p)),.int b,.tup [.int t.1.1,.int t.1.2],.tup (bM row),.tup (bM (nrQ p L row))]) 3 rfl (pv 3) GP hr rfl (aD (aC 0 rfl (pv 0)) (aD (aC 1 rfl (pv 1)) (aD (aC 6 rfl (pv 6)) (aD (aC 8 rfl (pv 8)) (aD (aC 9 rfl (pv 9)) aR))))) ⟨p,L,b,t.1,row,nrQ p L row,hp,by omega,nbo,by omega,okj.nk,by show tot S'.T+_<=_;omega,rfl,rfl⟩ (λa' h=>h.1) rfl λa' h=> ?_);obtain⟨al,als,aT⟩:=a';obtain⟨h1,h2⟩:=h;have h1:al=l3:=h1;have h2:aT=lgQ p L b t.1 row (nrQ p L row) L.length S'.T:=h2;subst h1 h2;have k:=key ⟨lgQ p L b t.1 row (nrQ p L row) L.length S'.T,S'.kn++[nrQ p L row],S'.fd++[(t.1.1,row,nrQ p L row)]⟩ als (if_neg nk).symm;simp only[aW,bC,eY] at k;exact k
   ·rw[<-e2] at f2;refine bB (fR (k:=decide ((500:Int)<(((S2.fd.map fdD).length:Nat):Int))) (oU aFU (lV rfl zlen (aEd 5 rfl (pv 5))) (aHl (i:=500) rfl hmt ⟨tm,rfl⟩) (jI _)) (decide_eq_false (by rw[aB];omega)) (cO ?_));exact⟨[.val (.lst (L.map (mvD p))),.val (.int b),.val (.tup (bM (st0 p))),wtS P w K ⟨l3,ls3,S2.T⟩,oG (hkT P w) K l4 (S2.kn.map iC) (S2.kn.map λ_=>.bl true),.own l5 (S2.fd.map fdD),.val (rkD t.1),.val (.lst ((kF t.2).map p2D)),.un,.un],⟨.inr rfl,.inr rfl,.inr rfl,.inr rfl,.inr rfl,.inr rfl,.inr rfl,.inr rfl,.inl rfl,.inl rfl,trivial⟩,S2,ls3,e2,rfl⟩
  ·obtain⟨S',ls3,eS,rfl⟩:=hn;rw[aB,cZ] at eS;subst eS;exact⟨m',[.val (.lst (L.map (mvD p))),.val (.int b),.val (.tup (bM (st0 p))),wtS P w K ⟨l3,ls3,(fdP p L b t.1 S1 (kF t.2)).T⟩,oG (hkT P w) K l4 ((fdP p L b t.1 S1 (kF t.2)).kn.map iC) ((fdP p L b t.1 S1 (kF t.2)).kn.map λ_=>.bl true),.own l5 ((fdP p L b t.1 S1 (kF t.2)).fd.map fdD),.un,.un,.un,.un],lO _,⟨.inr rfl,.inr rfl,.inr rfl,.inr rfl,.inr rfl,.inr rfl,.inl rfl,.inl rfl,.inr rfl,.inr rfl,trivial⟩,fdP p L b t.1 S1 (kF t.2),dn++(kF t.2).map rwP,t.1,ls3,W2,by rw[aP,aB];omega,hR2,rfl⟩
theorem aBS(F:Fun K "table_from" "table_from" aCO f fd)(ztuple:mg "tuple"=none)(hm:mg "table_from"=some (.ref f)):bL P w K mg base "table_from" 1 2 aCR:=by
 have nd:(["every","numbers"]:List Str).Nodup:=by decide+kernel
 have nd2:(["number","every"]:List Str).Nodup:=by decide+kernel
 refine eQ (N:=["every","numbers"]) (ps:=["every","numbers"]) (k:=0) F ⟨rfl,rfl,rfl,nd,rfl,by decide+kernel,by decide+kernel⟩ hm (λ_ _ _ _ _ _ us hl=>match us,hl with | [_,_],_=>rfl) λcdv A outer s H E hr ds r hl c=> ?_
 obtain⟨B,nb,h1,h2,rfl,rfl⟩:=c
 have ec:((bM nb).filter λ_=>true).map (λd=>match d with | .int i=>bJ (B.getD i.toNat [])|_=>.non)=(nb.map λi=>B.getD i []).map bJ:=by rw[cQ.mpr (λ_ _=>rfl)];unfold bM;rw[bA,bA];rfl
 refine bB (bU (nH rfl ztuple (PEd.bor (PEd.val (PEd.cast (jK (ds:=bM nb) (N:=["number","every"]) (M:=["every","numbers"]) (cap:=[none,some 0]) (sc:=bI aCO) (Tb:=λd=>[.val d,.val (.lst (B.map bJ))]) (λ_=>true) (λd=>match d with | .int i=>bJ (B.getD i.toNat [])|_=>.non) (oN (aC 1 rfl (pv 1))) (by rw[xA];omega) rfl (by decide+kernel) rfl (by decide+kernel) rfl (λcl C fp s H d hd=>fM 0 (bR (i:=0) nd2 rfl (Or.inl rfl))) (λd hd=>⟨.inl rfl,.inr rfl,trivial⟩) (λcl C fp s H d hd=>.inl ⟨rfl,rfl⟩) λcl C2 fp s H d hd _=> ?_) (by rw[ec]))))) trivial rfl);obtain⟨i,hi,rfl⟩:=aN.mp hd;exact qV (n:=i) (PEd.bor (aC 1 rfl (pv 1))) (aC 0 rfl (pv 0)) (aJK (h2 i hi)) λ_ _=>rfl
theorem aEk(F:Fun K "book_of" "book_of" aIW f fd)(zlen:mg "len"=none)(zrange:mg "range"=none)(ztuple:mg "tuple"=none)(hm:mg "book_of"=some (.ref f))(GF:bL P w K mg base "fillings" 2 1 aFQ)(GM:bL P w K mg base "moves_of" 5 2 aDh)(GR:bL P w K mg base "found_rows" 3 3 aId)(GT:bL P w K mg base "table_from" 1 2 aCR):bL P w K mg base "book_of" 6 3 aLr:=by
 have nd:(["size","stock","bound","every","found"]:List Str).Nodup:=by decide+kernel
 have nd2:(["price","row","numbers","every"]:List Str).Nodup:=by decide+kernel
 refine eQ (N:=["size","stock","bound","every","found"]) (ps:=["size","stock","bound"]) (k:=5) F ⟨rfl,rfl,rfl,nd,rfl,by decide+kernel,by decide+kernel⟩ hm (λ_ _ _ _ _ _ us hl=>match us,hl with | [_,_,_],_=>rfl) λcdv A outer s H E hr ds r hl c=> ?_
 obtain⟨p,L,b,U,hp,S,dn,FU,rfl,rfl⟩:=c;have hr1:=hr.mono (show 1<=5 by decide);have hr2:=hr.mono (show 2<=5 by decide);have hr3:=hr.mono (show 3<=5 by decide);have f9:(dH p).length<=64:=lU hp;have O:=aHB (p:=p) S.pr FU;have l4:=O.len;refine aJ (gC (ds:=(dH p).map bJ) 3 nd rfl (Or.inr rfl) (bQ (ds:=[cP p]) GF hr2 rfl (aD (aC 0 rfl (pv 0)) aR) ⟨p,hp,rfl,rfl⟩ trivial rfl) λl5=>jW 3 rfl ?_);refine aJ (gC (ds:=(bkF p L b).map fdD) 4 nd rfl (Or.inl rfl) (bQ (ds:=[.lst (L.map (mvD p)),.int b,.tup (bM (st0 p))]) GR hr3 rfl (aD (PEd.val (bQ (ds:=[cP p,.lst (L.map skD)]) GM hr rfl (aD (aC 0 rfl (pv 0)) (aD (aC 1 rfl (pv 1)) aR)) ⟨p,L,hp,S,dn,rfl,rfl⟩ trivial rfl)) (aD (aC 2 rfl (pv 2)) (aD (uG (n:=(dH p).length) rfl ztuple rfl zrange (PEd.ic (lV rfl zlen (PEd.bor (aC 3 rfl (pv 3)))) (by rw[aB])) (by omega)) aR))) ⟨p,L,b,U,hp,S,FU,rfl,rfl⟩ trivial rfl) λl4=>jW 4 rfl ?_)
 have ec:(((bkF p L b).map fdD).filter λ_=>true).map (λd=>enD ((unE d).1,(unE d).2.1,kN p (unE d).2.2))=(bkQ p L b).map enD:=by
  rw[cQ.mpr (λ_ _=>rfl),bA];unfold bkQ;rw[bA];refine bZ λe _=> ?_
  show enD ((unE (fdD e)).1,(unE (fdD e)).2.1,kN p (unE (fdD e)).2.2)=_;rw[aIX];rfl
 refine bB (bU (PEd.cast (jK (ds:=(bkF p L b).map fdD) (N:=["price","row","numbers","every"]) (M:=["size","stock","bound","every","found"]) (cap:=[none,none,none,some 3]) (sc:=bI aIW) (Tb:=λd=>[.val (.int (unE d).1),.val (.tup (bM (unE d).2.1)),.val (.tup (bM (unE d).2.2)),.val (.lst ((dH p).map bJ))]) (λ_=>true) (λd=>enD ((unE d).1,(unE d).2.1,kN p (unE d).2.2)) (gQ (aC 4 rfl (pv 4))) (by rw[aB];omega) rfl (by decide+kernel) rfl (by decide+kernel) rfl (λcl C fp s H d hd=> ?_) (λd hd=>⟨.inl rfl,.inl rfl,.inl rfl,.inr rfl,trivial⟩) (λcl C fp s H d hd=>.inl ⟨rfl,rfl⟩) λcl C2 fp s H d hd _=> ?_) (by rw[ec])) trivial rfl)
 ·obtain⟨e,he,rfl⟩:=aN.mp hd;rw[aIX];exact jA (ds:=[.int e.1,.tup (bM e.2.1),.tup (bM e.2.2)]) (js:=[0,1,2]) rfl (cN (bR (i:=0) nd2 rfl (Or.inl rfl)) (cN (bR (i:=1) nd2 rfl (Or.inl rfl)) (cN (bR (i:=2) nd2 rfl (Or.inl rfl)) iW))) rfl rfl
 ·obtain⟨e,he,rfl⟩:=aN.mp hd;rw[aIX];obtain⟨h1,h2,h3,h4,h5⟩:=O.ent e he;have nbo:=(wF hp (λs hs=>(S.st s hs).1) h1).1;rw[<-h4] at nbo;exact gF (ds:=[.int e.1,.tup (bM e.2.1),.tup ((kN p e.2.2).map bJ)]) (aD (aC 0 rfl (pv 0)) (aD (aC 1 rfl (pv 1)) (aD (bQ (ds:=[.lst ((dH p).map bJ),.tup (bM e.2.2)]) GT hr1 rfl (aD (aC 3 rfl (pv 3)) (aD (aC 2 rfl (pv 2)) aR)) ⟨dH p,e.2.2,by rw[nbo.1];omega,nbo.2,rfl,rfl⟩ trivial rfl) aR))) (aK rfl)
theorem aEQ(F:Fun K "numbers_of_row" "numbers_of_row" aLt f fd)(hm:mg "numbers_of_row"=some (.ref f))(GB:bL P w K mg base "numbers_behind" 1 2 aFO):bL P w K mg base "numbers_of_row" 2 3 aLA:=by
 have nd:(["moves","row","start","numbers","place"]:List Str).Nodup:=by decide+kernel
 refine eQ (N:=["moves","row","start","numbers","place"]) (ps:=["moves","row","start"]) (k:=1) F ⟨rfl,rfl,rfl,nd,rfl,by decide+kernel,by decide+kernel⟩ hm (λ_ _ _ _ _ _ us hl=>match us,hl with | [_,_,_],_=>rfl) λcdv A outer s H E hr ds r hl c=> ?_
 obtain⟨p,L,row,hp,S,R,rfl,rfl⟩:=c;have f9:(dH p).length<=64:=lU hp;have S':∀s∈L,qE p s.1:=λs hs=>(S.st s hs).1
 refine aJ (cR (d:=.tup (bM (st0 p))) 3 nd rfl (Or.inl rfl) (aC 2 rfl (pv 2)) ?_);refine aJ (gB (ds:=bM row) (λt sd=>sd=[.val (.lst (L.map (mvD p))),.val (.tup (bM row)),.val (.tup (bM (st0 p))),.val (.tup (bM (nrQ p L (row.take t)))),.un]) (oN (aC 1 rfl (pv 1))) ⟨_,Le.refl _,rfl⟩ (λt d sdt hd ht=> ?_) λsdn hn=> ?_)
 ·obtain⟨t2,rfl⟩:=aKy hd;subst ht;have km:row.getD t 0∈row:=getD_mem t2;have kl:=R _ km;have N0:=(wF hp S' (row:=row.take t) λj hj=>R j (iM hj)).1;refine⟨[.val (.lst (L.map (mvD p))),.val (.tup (bM row)),.val (.tup (bM (st0 p))),.val (.tup (bM (nrQ p L (row.take t)))),.val (.int ((row.getD t 0:Nat):Int))],fM 4 (bR (i:=4) nd rfl (Or.inl rfl)), ?_⟩
  have et:nrQ p L (row.take (t+1))=gR (gX p (L.getD (row.getD t 0) AN).1) (nrQ p L (row.take t)):=by rw[yS 0 t2,vE]
  have em:∀k,k<L.length->(L.map (mvD p))[k]? =some (mvD p (L.getD k AN)):=λk hk=>by
   have e:L[k]? =some (L.getD k AN):=by simp[cA,hk]
   rw[aQ,e];rfl
  have em:=em _ kl;rw[et];generalize row.getD t 0=k at kl em;generalize nrQ p L (row.take t)=nb at N0;exact bB (cR (d:=.tup (bM (gR (gX p (L.getD k AN).1) nb))) 3 nd rfl (Or.inl rfl) (bQ (ds:=[.tup (bM nb),.tup (bM (gX p (L.getD k AN).1))]) GB hr rfl (aD (aC 3 rfl (pv 3)) (aD (eX (n:=1) (ds:=[.int (L.getD k AN).2,.tup (bM (gX p (L.getD k AN).1))]) (qV (n:=k) (PEd.bor (aC 0 rfl (pv 0))) (aC 4 rfl (pv 4)) em λ_ _=>rfl) bE rfl λ_ _=>rfl) aR)) ⟨nb,_,by rw[N0.1];omega,λi hi=>by rw[aAq];exact N0.2 i hi,rfl,rfl⟩ trivial rfl) ⟨[.val (.lst (L.map (mvD p))),.val (.tup (bM row)),.val (.tup (bM (st0 p))),.val (.tup (bM (gR (gX p (L.getD k AN).1) nb))),.un],⟨.inr rfl,.inr rfl,.inr rfl,.inr rfl,.inl rfl,trivial⟩,rfl⟩)
 ·subst hn;rw[xA,cZ];exact bB (bU (aC 3 rfl (pv 3)) trivial rfl)
theorem aGO(F:Fun K "is_row" "is_row" aAn f fd)(zall:mg "all"=none)(zlen:mg "len"=none)(hm:mg "is_row"=some (.ref f))(GW:bL P w K mg base "is_whole" 1 1 aIe):bL P w K mg base "is_row" 2 2 aIr:=by
 have nd:(["stock","numbers"]:List Str).Nodup:=by decide+kernel
 refine eQ (N:=["stock","numbers"]) (ps:=["stock","numbers"]) (k:=1) F ⟨rfl,rfl,rfl,nd,rfl,by decide+kernel,by decide+kernel⟩ hm (λ_ _ _ _ _ _ us hl=>match us,hl with | [_,_],_=>rfl) λcdv A outer s H E hr ds r hl c=> ?_
 obtain⟨L,row,hrow,hl9,rfl,rfl⟩:=c;have nd2:(["number","stock"]:List Str).Nodup:=by decide+kernel
 refine bB (bU (PEd.cast (aJx (bs:=row.map λ_=>true) rfl zall (PEd.bor (PEd.val (PEd.cast (jK (ds:=bM row) (N:=["number","stock"]) (M:=["stock","numbers"]) (cap:=[none,some 0]) (sc:=bI aAn) (Tb:=λd=>[.val d,.val (.lst (L.map skD))]) (λ_=>true) (λ_=>.bl true) (oN (aC 1 rfl (pv 1))) (by unfold bM;rw[aB];omega) rfl (by decide+kernel) rfl (by decide+kernel) rfl (λcl C fp s H d _=>fM 0 (bR (i:=0) nd2 rfl (Or.inl rfl))) (λd _=>⟨.inl rfl,.inr rfl,trivial⟩) (λcl C fp s H d hd=>.inl ⟨rfl,rfl⟩) λcl C fp s H d hd _=> ?_) ?_)))) ?_) trivial rfl)
 ·obtain⟨t,ht,rfl⟩:=aN.mp hd;have hn:=hrow t ht;refine PEd.cast (tV (k:=true) (j:=true) (bQ (ds:=[.int (t:Int)]) (r:=.val (.bl true)) GW hr rfl (aD (aC 0 rfl (pv 0)) aR) ⟨_,rfl,(λ_=>by simp),rfl⟩ trivial rfl) λ_=>xG (PEd.cast (aER (g:=λi j=>decide (i<=j)) (g':=λi j=>decide (i<j)) yI aIZ bE (aC 0 rfl (pv 0)) (PEd.ic (lV rfl zlen (PEd.bor (aC 1 rfl (pv 1)))) (by rw[aB]))) ?_)) rfl;have h1:decide ((0:Int)<=(t:Int))=true:=decide_eq_true (by omega);have h2:decide ((t:Int)<(L.length:Int))=true:=decide_eq_true (by omega);rw[h1,h2];rfl
 ·rw[cQ.mpr (λ_ _=>rfl)];unfold bM;rw[bA,bA];rfl
 ·congr 2;rw[cX];intro x hx;obtain⟨_,_,rfl⟩:=aN.mp hx;rfl
theorem aGe(F:Fun K "price_of" "price_of" aCU f fd)(zsum:mg "sum"=none)(hm:mg "price_of"=some (.ref f)):bL P w K mg base "price_of" 1 2 aIj:=by
 have nd:(["stock","row"]:List Str).Nodup:=by decide+kernel
 refine eQ (N:=["stock","row"]) (ps:=["stock","row"]) (k:=0) F ⟨rfl,rfl,rfl,nd,rfl,by decide+kernel,by decide+kernel⟩ hm (λ_ _ _ _ _ _ us hl=>match us,hl with | [_,_],_=>rfl) λcdv A outer s H E hr ds r hl c=> ?_
 obtain⟨L,row,hrow,hl2,rfl,rfl⟩:=c;have nd2:(["number","stock"]:List Str).Nodup:=by decide+kernel
 have ec:((bM row).filter λ_=>true).map (λd=>match d with | .int t=>D.int (L.getD t.toNat AN).2|_=>.non)=(aHv L row).map D.int:=by
  rw[cQ.mpr (λ_ _=>rfl)];unfold bM aHv;rw[bA,bA];refine bZ λt _=> ?_
  simp
 refine bB (bU (aKp (ns:=aHv L row) rfl zsum (PEd.bor (PEd.val (PEd.cast (jK (ds:=bM row) (N:=["number","stock"]) (M:=["stock","row"]) (cap:=[none,some 0]) (sc:=bI aCU) (Tb:=λd=>[.val d,.val (.lst (L.map skD))]) (λ_=>true) (λd=>match d with | .int t=>D.int (L.getD t.toNat AN).2|_=>.non) (oN (aC 1 rfl (pv 1))) (by rw[show(bM row).length=row.length from aB _];omega) rfl (by decide+kernel) rfl (by decide+kernel) rfl (λcl C fp s H d _=>fM 0 (bR (i:=0) nd2 rfl (Or.inl rfl))) (λd _=>⟨.inl rfl,.inr rfl,trivial⟩) (λcl C fp s H d hd=>.inl ⟨rfl,rfl⟩) λcl C fp s H d hd _=> ?_) (by rw[ec]))))) trivial rfl);obtain⟨t,ht,rfl⟩:=aN.mp hd;have hn:=hrow t ht;exact eX (n:=1) (ds:=[sqD (L.getD t AN).1,.int (L.getD t AN).2]) (qV (n:=t) (PEd.bor (aC 1 rfl (pv 1))) (aC 0 rfl (pv 0)) (aHH hn) λ_ _=>rfl) bE rfl λ_ _=>rfl
theorem aFh(F:Fun K "is_priced_row" "is_priced_row" aLc f fd)(hm:mg "is_priced_row"=some (.ref f))(GR:bL P w K mg base "is_row" 2 2 aIr)(GP:bL P w K mg base "price_of" 1 2 aIj):bL P w K mg base "is_priced_row" 3 4 aLf:=by
 have nd:(["stock","bound","price","row"]:List Str).Nodup:=by decide+kernel
 refine eQ (N:=["stock","bound","price","row"]) (ps:=["stock","bound","price","row"]) (k:=2) F ⟨rfl,rfl,rfl,nd,rfl,by decide+kernel,by decide+kernel⟩ hm (λ_ _ _ _ _ _ us hl=>match us,hl with | [_,_,_,_],_=>rfl) λcdv A outer s H E hr ds r hl c=> ?_
 obtain⟨p,L,b,B,e,S,O,he,rfl,rfl⟩:=c;have hr1:=hr.mono (show 1<=2 by decide);obtain⟨h1,h2,h3,h4,h5⟩:=O.ent e he;exact bB (bU (PEd.cast (tV (k:=true) (j:=true) (bQ (ds:=[.lst (L.map skD),.tup (bM e.2.1)]) (r:=.val (.bl true)) GR hr rfl (aD (aC 0 rfl (pv 0)) (aD (aC 3 rfl (pv 3)) aR)) ⟨L,e.2.1,h3,by omega,rfl,rfl⟩ trivial rfl) λ_=>PEd.cast (tV (k:=true) (j:=true) (PEd.cast (aHx (i:=e.1) (j:=e.1) (aC 2 rfl (pv 2)) (PEd.ic (bQ (ds:=[.lst (L.map skD),.tup (bM e.2.1)]) (r:=.val (.int (aHt (aHv L e.2.1)))) GP hr1 rfl (aD (aC 0 rfl (pv 0)) (aD (aC 3 rfl (pv 3)) aR)) ⟨L,e.2.1,h3,by omega,rfl,rfl⟩ trivial rfl) (by rw[aLL,<-h1]))) (by rw[decide_eq_true rfl])) λ_=>xG (PEd.cast (aII (g:=λi j=>decide (i<=j)) yI (aC 2 rfl (pv 2)) (aC 1 rfl (pv 1)) (jI _)) (by rw[decide_eq_true h2]))) rfl) rfl) trivial rfl)
theorem aAM(F:Fun K "stands_there" "stands_there" aNL f fd)(hm:mg "stands_there"=some (.ref f)):bL P w K mg base "stands_there" 1 3 (aDn P w K):=by
 have nd:(["prices","numbers","most"]:List Str).Nodup:=by decide+kernel
 refine eQ (N:=["prices","numbers","most"]) (ps:=["prices","numbers","most"]) (k:=0) F ⟨rfl,rfl,rfl,nd,rfl,by decide+kernel,by decide+kernel⟩ hm (λ_ _ _ _ _ _ us hl=>match us,hl with | [_,_,_],_=>rfl) λcdv A outer s H E hr ds r hl c=> ?_
 obtain⟨p,L,b,B,nb,m,hp,S,O,rfl,rfl⟩:=c;have hu:(A.deeper (Ah "stands_there" (bI aNL) s.heap.objs.size f cdv)).units+2<AO:=by have:=hr.un;omega
 by_cases q:iC nb∈ksB p L B
 ·obtain⟨e,he,en⟩:=aN.mp q;have en:=rQ en;obtain⟨i,hi⟩:=cW he
  have sq:sS p L B nb m=decide (e.1<=m):=by
   unfold sS
   by_cases z:e.1<=m
   ·rw[decide_eq_true z];exact gL.mpr ⟨e,he,by rw[decide_eq_true en,decide_eq_true z];rfl⟩
   ·rw[decide_eq_false z];refine nZ.mpr λh=> ?_
    obtain⟨x,x1,x2⟩:=gL.mp h;rw[bH] at x2;have:=O.inj hp S x1 he ((of_decide_eq_true x2.1).trans en.symm);subst this;exact z (of_decide_eq_true x2.2)
  rw[sq];exact bB (bU (PEd.cast (tV (k:=true) (j:=decide (e.1<=m)) (aIa (kk:=true) (hk:=hkT P w) (k:=iC nb) ⟨λ_=>q,λ_=>rfl⟩ hu (PEd.cast (aC 1 rfl (pv 1)) (by rw[show(hkT P w).dat (iC nb)=tD (iC nb) from rfl,oH])) (sI (aC 0 rfl (pv 0)))) λ_=>xG (aII (g:=λi j=>decide (i<=j)) yI (aAm (hk:=hkT P w) (k:=iC nb) (n:=i) (d:=.int e.1) hu (sI (aC 0 rfl (pv 0))) (PEd.cast (aC 1 rfl (pv 1)) (by rw[show(hkT P w).dat (iC nb)=tD (iC nb) from rfl,oH])) (by unfold ksB;rw[aQ,hi,<-en];rfl) (by rw[aQ,hi];rfl) λ_ _=>rfl) (aC 2 rfl (pv 2)) (jI _))) (by rw[aBR])) trivial rfl)
 ·have sq:sS p L B nb m=false:=by
   unfold sS;refine nZ.mpr λh=> ?_
   obtain⟨x,x1,x2⟩:=gL.mp h;rw[bH] at x2;exact q (aN.mpr ⟨x,x1,by rw[of_decide_eq_true x2.1]⟩)
  rw[sq];exact bB (bU (PEd.cast (tV (k:=false) (j:=false) (aIa (kk:=false) (hk:=hkT P w) (k:=iC nb) ⟨λz=>(by cases z),λz=>absurd z q⟩ hu (PEd.cast (aC 1 rfl (pv 1)) (by rw[show(hkT P w).dat (iC nb)=tD (iC nb) from rfl,oH])) (sI (aC 0 rfl (pv 0)))) λh=>by cases h) rfl) trivial rfl)
theorem aCn(F:Fun K "has_start" "has_start" aAY f fd)(zany:mg "any"=none)(hm:mg "has_start"=some (.ref f)):bL P w K mg base "has_start" 1 2 aIh:=by
 have nd:(["bound","book"]:List Str).Nodup:=by decide+kernel
 have nd2:(["price","row","table"]:List Str).Nodup:=by decide+kernel
 refine eQ (N:=["bound","book"]) (ps:=["bound","book"]) (k:=0) F ⟨rfl,rfl,rfl,nd,rfl,by decide+kernel,by decide+kernel⟩ hm (λ_ _ _ _ _ _ us hl=>match us,hl with | [_,_],_=>rfl) λcdv A outer s H E hr ds r hl c=> ?_
 obtain⟨p,L,b,B,O,hb,rfl,rfl⟩:=c;have hu:(A.deeper (Ah "has_start" (bI aAY) s.heap.objs.size f cdv)).units+4<AO:=by have:=hr.un;omega
 have ec:((B.map enD).filter λ_=>true).map (λd=>match d with | .tup [_,.tup rs,_]=>D.bl rs.isEmpty|_=>.bl false)=(B.map λe=>decide (e.2.1=[])).map D.bl:=by
  rw[cQ.mpr (λ_ _=>rfl),bA,bA];refine bZ λe _=> ?_
  show D.bl (bM e.2.1).isEmpty=D.bl (decide (e.2.1=[]));cases e.2.1<;>rfl
 have ea:((B.map λe=>decide (e.2.1=[])).any id)=B.any λe=>decide (e.2.1=[]):=by rw[List.any_map];rfl
 refine bB (bU (PEd.cast (aNY (k:=decide (b<0)) (j:=(B.map λ(e:Bk)=>decide (e.2.1=[])).any id) (aII (g:=λi j=>decide (i<j)) aIZ (aC 0 rfl (pv 0)) bE (jI _)) λ_=>xG (aJB (bs:=B.map λ(e:Bk)=>decide (e.2.1=[])) rfl zany (PEd.bor (PEd.val (PEd.cast (jK (ds:=B.map enD) (N:=["price","row","table"]) (M:=["bound","book"]) (cap:=[none,none,none]) (sc:=bI aAY) (Tb:=λd=>match d with | .tup [a,r,t]=>[.val a,.val r,.val t] | _=>[.un,.un,.un]) (λ_=>true) (λd=>match d with | .tup [_,.tup rs,_]=>D.bl rs.isEmpty|_=>.bl false) (gQ (aC 1 rfl (pv 1))) (by rw[aB];have:=O.len;omega) rfl (by decide+kernel) rfl (by decide+kernel) rfl (λcl C fp s H d hd=> ?_) (λd hd=> ?_) (λcl C fp s H d hd=>.inl ⟨rfl,rfl⟩) λcl C2 fp s H d hd _=> ?_) (by rw[ec])))))) (by rw[decide_eq_false (by omega),aBQ,ea])) trivial rfl)
 ·obtain⟨e,_,rfl⟩:=aN.mp hd;exact jA (ds:=[.int e.1,.tup (bM e.2.1),.tup (e.2.2.map bJ)]) (js:=[0,1,2]) rfl (cN (bR (i:=0) nd2 rfl (Or.inl rfl)) (cN (bR (i:=1) nd2 rfl (Or.inl rfl)) (cN (bR (i:=2) nd2 rfl (Or.inl rfl)) iW))) rfl rfl
 ·obtain⟨e,_,rfl⟩:=aN.mp hd;exact⟨.inl rfl,.inl rfl,.inl rfl,trivial⟩
 ·obtain⟨e,_,rfl⟩:=aN.mp hd;refine PEd.cast (aMt (ra:=.val (.tup (bM e.2.1))) (rb:=.val (.tup [])) (aC 1 rfl (pv 1)) (gF (ds:=[]) aR (aK rfl)) trivial trivial (.inl ⟨rfl,rfl⟩) ?_ rfl ?_) ?_
  ·exact(pG e.2.1).1
  ·exact aCG hu (by show jP (bM e.2.1)+1+1<=4;rw[(pG e.2.1).2];decide)
  ·show DL.R.val (.bl (kA (bM e.2.1) []))=DL.R.val (.bl (bM e.2.1).isEmpty);cases e.2.1<;>rfl
theorem aGd(F:Fun K "prices_by_numbers" "prices_by_numbers" aNF f fd)(zlen:mg "len"=none)(zrange:mg "range"=none)(ztuple:mg "tuple"=none)(hm:mg "prices_by_numbers"=some (.ref f))(GF:bL P w K mg base "fillings" 2 1 aFQ)(GI:bL P w K mg base "is_priced_row" 3 4 aLf)(GR:bL P w K mg base "numbers_of_row" 2 3 aLA)(GT:bL P w K mg base "table_from" 1 2 aCR):bL P w K mg base "prices_by_numbers" 4 5 (aOY P w K):=by
 have nd:(["size","stock","moves","bound","book","every","prices","price","row","table","numbers"]:List Str).Nodup:=by decide+kernel
 refine eQ (N:=["size","stock","moves","bound","book","every","prices","price","row","table","numbers"]) (ps:=["size","stock","moves","bound","book"]) (k:=3) F ⟨rfl,rfl,rfl,nd,rfl,by decide+kernel,by decide+kernel⟩ hm (λ_ _ _ _ _ _ us hl=>match us,hl with | [_,_,_,_,_],_=>rfl) λcdv A outer s H E hr ds r hl c=> ?_
 obtain⟨p,L,b,B,hp,S,O,rfl,rfl⟩:=c;have hr1:=hr.mono (show 1<=3 by decide);have hr2:=hr.mono (show 2<=3 by decide);have hu:(A.deeper (Ah "prices_by_numbers" (bI aNF) s.heap.objs.size f cdv)).units+5<AO:=by have:=hr.un;omega
 have f9:(dH p).length<=64:=lU hp;have l7:=O.len;refine aJ (gC (ds:=(dH p).map bJ) 5 nd rfl (Or.inl rfl) (bQ (ds:=[cP p]) GF hr2 rfl (aD (aC 0 rfl (pv 0)) aR) ⟨p,hp,rfl,rfl⟩ trivial rfl) λl5=>jW 5 rfl ?_);refine aJ (pE (hkT P w) 6 nd rfl (Or.inl rfl) λl6=> ?_);refine aJ (gB (ds:=B.map enD) (λt sd=>sd=[.val (cP p),.val (.lst (L.map skD)),.val (.lst (L.map (mvD p))),.val (.int b),.val (.lst (B.map enD)),.val (.lst ((dH p).map bJ)),oG (hkT P w) K l6 (ksB p L (B.take t)) ((B.take t).map λe=>.int e.1),.un,.un,.un,.un]) (gQ (aC 4 rfl (pv 4))) ⟨_,Le.refl _,rfl⟩ (λt d sdt hd ht=> ?_) λsdn hn=> ?_)
 ·have tl:t<B.length:=by have:=(aE.mp hd).1;rw[aB] at this;exact this
  obtain⟨e,he⟩:∃e,B[t]? =some e:=⟨B[t],by simp[tl]⟩
  have ed:d=enD e:=by rw[aQ,he] at hd;exact(cF.inj hd).symm
  subst ed ht;have em:=aO he;obtain⟨h1,h2,h3,h4,h5⟩:=O.ent e em;obtain⟨n1,n2⟩:=O.nr hp S em
  have et:B.take (t+1)=B.take t++[e]:=by rw[eZ,he];rfl
  have nk:iC (nrQ p L e.2.1)∉ksB p L (B.take t):=λz=>by
   obtain⟨x,x1,x2⟩:=aN.mp z;have:=O.inj hp S (iM x1) em (rQ x2);subst this;obtain⟨i,hi,ex⟩:=cV x1;have il:i<t:=by rw[bX] at hi;omega
   rw[aIy] at ex;obtain⟨t1,et2⟩:=aE.mp he;have:i=t:=(fV (i:=i) (j:=t) (h₀:=by rw[aB];omega) (h₁:=by rw[aB];exact t1) O.nd).mp (by rw[cY,cY,ex,et2]);omega
  have tk:((B.take t).map λe=>D.int e.1).length<=1000:=by rw[aB,bX];omega
  have e1:ksB p L (B.take (t+1))=ksB p L (B.take t)++[iC (nrQ p L e.2.1)]:=by rw[et];unfold ksB;rw[aW];rfl
  have e2:((B.take (t+1)).map λe=>D.int e.1)=((B.take t).map λe=>D.int e.1)++[.int e.1]:=by rw[et,aW];rfl
  rw[e1,e2];generalize ksB p L (B.take t)=ks at nk;generalize (B.take t).map (λe=>D.int e.1)=vs at tk;refine⟨[.val (cP p),.val (.lst (L.map skD)),.val (.lst (L.map (mvD p))),.val (.int b),.val (.lst (B.map enD)),.val (.lst ((dH p).map bJ)),oG (hkT P w) K l6 ks vs,.val (.int e.1),.val (.tup (bM e.2.1)),.val (.tup (e.2.2.map bJ)),.un],jA (ds:=[.int e.1,.tup (bM e.2.1),.tup (e.2.2.map bJ)]) (js:=[7,8,9]) rfl (cN (bR (i:=7) nd rfl (Or.inl rfl)) (cN (bR (i:=8) nd rfl (Or.inl rfl)) (cN (bR (i:=9) nd rfl (Or.inl rfl)) iW))) rfl rfl, ?_⟩;refine aJ (fR (k:=false) (vD (k:=true) (vF (bQ (ds:=[.lst (L.map skD),.int b,.int e.1,.tup (bM e.2.1)]) (r:=.val (.bl true)) GI hr rfl (aD (aC 1 rfl (pv 1)) (aD (aC 3 rfl (pv 3)) (aD (aC 7 rfl (pv 7)) (aD (aC 8 rfl (pv 8)) aR)))) ⟨p,L,b,B,e,S,O,em,rfl,rfl⟩ trivial rfl))) rfl (cO ?_));refine aJ (cR (d:=.tup (bM (nrQ p L e.2.1))) 10 nd rfl (Or.inl rfl) (bQ (ds:=[.lst (L.map (mvD p)),.tup (bM e.2.1),.tup (bM (st0 p))]) GR hr2 rfl (aD (aC 2 rfl (pv 2)) (aD (aC 8 rfl (pv 8)) (aD (uG (n:=(dH p).length) rfl ztuple rfl zrange (PEd.ic (lV rfl zlen (PEd.bor (aC 5 rfl (pv 5)))) (by rw[aB])) (by omega)) aR))) ⟨p,L,e.2.1,hp,S,h3,rfl,rfl⟩ trivial rfl) ?_);have etab:(nrQ p L e.2.1).map (λi=>(dH p).getD i [])=e.2.2:=n2;have pT:plL (e.2.2.map bJ)=true:=nQ e.2.2;have dT:jP (e.2.2.map bJ)<=1:=nV e.2.2;have pT2:pl (.tup (e.2.2.map bJ))=true:=pT;refine aJ (fR (k:=false) (PWd.pt (pH (k:=false) (j:=false) (aJA (kk:=false) (hk:=hkT P w) (k:=iC (nrQ p L e.2.1)) ⟨λz=>(by cases z),λz=>absurd z nk⟩ (by show(A.deeper _).units+2<AO;omega) (PEd.cast (aC 10 rfl (pv 10)) (by rw[show(hkT P w).dat (iC (nrQ p L e.2.1))=tD (iC (nrQ p L e.2.1)) from rfl,oH])) (aAp 6 rfl (pv 6))) λ_=>pX (PTd.cast (uY (ra:=.val (.tup (e.2.2.map bJ))) (rb:=.val (.tup (e.2.2.map bJ))) (aC 9 rfl (pv 9)) (PEd.cast (bQ (ds:=[.lst ((dH p).map bJ),.tup (bM (nrQ p L e.2.1))]) GT hr1 rfl (aD (aC 5 rfl (pv 5)) (aD (aC 10 rfl (pv 10)) aR)) ⟨dH p,nrQ p L e.2.1,by rw[n1.1];omega,n1.2,rfl,rfl⟩ trivial rfl) (by rw[etab])) trivial trivial (.inl ⟨rfl,rfl⟩) pT2 pT2 (aCG hu (by show jP _+1+1<=5;omega))) (by show(!deq (.tup _) (.tup _))=false;rw[xI _ pT2];rfl)))) rfl (cO ?_));exact bB (pJ (hk:=hkT P w) (k:=iC (nrQ p L e.2.1)) (d:=.int e.1) 6 (by show(A.deeper _).units+2<AO;omega) rfl (pv 6) (aC 7 rfl (pv 7)) (PEd.cast (aC 10 rfl (pv 10)) (by rw[show(hkT P w).dat (iC (nrQ p L e.2.1))=tD (iC (nrQ p L e.2.1)) from rfl,oH])) nk tk ⟨[.val (cP p),.val (.lst (L.map skD)),.val (.lst (L.map (mvD p))),.val (.int b),.val (.lst (B.map enD)),.val (.lst ((dH p).map bJ)),oG (hkT P w) K l6 (ks++[iC (nrQ p L e.2.1)]) (vs++[.int e.1]),.un,.un,.un,.un],⟨.inr rfl,.inr rfl,.inr rfl,.inr rfl,.inr rfl,.inr rfl,.inr rfl,.inl rfl,.inl rfl,.inl rfl,.inl rfl,trivial⟩,rfl⟩)
 ·subst hn;rw[aB,cZ];refine rP 6 rfl ?_;exact bB (bU (aC 6 rfl (pv 6)) trivial rfl)
theorem aAI(F:Fun K "is_closed" "is_closed" aNK f fd)(hm:mg "is_closed"=some (.ref f))(GB:bL P w K mg base "numbers_behind" 1 2 aFO)(GS:bL P w K mg base "stands_there" 1 3 (aDn P w K)):bL P w K mg base "is_closed" 2 3 (aDQ P w K):=by
 have nd:(["moves","bound","prices","numbers","more","move","price"]:List Str).Nodup:=by decide+kernel
 refine eQ (N:=["moves","bound","prices","numbers","more","move","price"]) (ps:=["moves","bound","prices"]) (k:=1) F ⟨rfl,rfl,rfl,nd,rfl,by decide+kernel,by decide+kernel⟩ hm (λ_ _ _ _ _ _ us hl=>match us,hl with | [_,_,_],_=>rfl) λcdv A outer s H E hr ds r hl c=> ?_
 obtain⟨p,L,b,B,hp,S,O,rfl,rfl⟩:=c;have hu:(A.deeper (Ah "is_closed" (bI aNK) s.heap.objs.size f cdv)).units+2<AO:=by have:=hr.un;omega
 have f9:(dH p).length<=64:=lU hp;obtain⟨good,hgood⟩:∃good:Bk->Nat->Bool,good=λe k=> !decide (e.1+prK L k<=b)||sS p L B (gR (gX p (L.getD k AN).1) (nrQ p L e.2.1)) (e.1+prK L k):=⟨_,rfl⟩
 have ecl:aHu p L b B=B.all λe=>(bP L.length).all λk=>good e k:=by rw[hgood];rfl
 have kl:((ksB p L B).map (hkT P w).dat).length=B.length:=by unfold ksB;rw[aB,aB]
 refine aJ (gB (ds:=(ksB p L B).map (hkT P w).dat) (λt sd=>(∀i e,i<t->B[i]? =some e->∀k,k<L.length->good e k=true)/\sd=[.val (.lst (L.map (mvD p))),.val (.int b),.val (pcD P w K p L B),.un,.un,.un,.un]) (aEE (aC 2 rfl (pv 2))) ⟨_,Le.refl _,λi e hi=>by omega,rfl⟩ (λt d sdt hd ht=> ?_) λsdn hn=> ?_)
 ·obtain⟨hn,rfl⟩:=ht
  have tl:t<B.length:=by have:=(aE.mp hd).1;rw[kl] at this;exact this
  obtain⟨e,he⟩:∃e,B[t]? =some e:=⟨B[t],by simp[tl]⟩;have em:=aO he
  have ek:(ksB p L B)[t]? =some (iC (nrQ p L e.2.1)):=by unfold ksB;rw[aQ,he];rfl
  have ed:d=.tup (bM (nrQ p L e.2.1)):=by rw[aQ,ek] at hd;rw[<-oH];exact(cF.inj hd).symm
  subst ed;obtain⟨n1,n2⟩:=O.nr hp S em;refine⟨[.val (.lst (L.map (mvD p))),.val (.int b),.val (pcD P w K p L B),.val (.tup (bM (nrQ p L e.2.1))),.un,.un,.un],fM 3 (bR (i:=3) nd rfl (Or.inl rfl)), ?_⟩;refine bB (gB (ds:=L.map (mvD p)) (λj sd=>(∀k,k<j->good e k=true)/\sd=[.val (.lst (L.map (mvD p))),.val (.int b),.val (pcD P w K p L B),.val (.tup (bM (nrQ p L e.2.1))),.un,.un,.un]) (gQ (aC 0 rfl (pv 0))) ⟨_,Le.refl _,λk hk=>by omega,rfl⟩ (λj d sdj hd hj=> ?_) λsdn hn2=> ?_)
  ·obtain⟨hn2,rfl⟩:=hj
   have jl:j<L.length:=by have:=(aE.mp hd).1;rw[aB] at this;exact this
   have ej:L[j]? =some (L.getD j AN):=by simp[cA,jl]
   have ed:d=mvD p (L.getD j AN):=by rw[aQ,ej] at hd;exact(cF.inj hd).symm
   subst ed;have gj:good e j=(!decide (e.1+(L.getD j AN).2<=b)||sS p L B (gR (gX p (L.getD j AN).1) (nrQ p L e.2.1)) (e.1+(L.getD j AN).2)):=by rw[hgood];rfl
   generalize L.getD j AN=sk at gj;refine⟨[.val (.lst (L.map (mvD p))),.val (.int b),.val (pcD P w K p L B),.val (.tup (bM (nrQ p L e.2.1))),.val (.int sk.2),.val (.tup (bM (gX p sk.1))),.un],jA (ds:=[.int sk.2,.tup (bM (gX p sk.1))]) (js:=[4,5]) rfl (cN (bR (i:=4) nd rfl (Or.inl rfl)) (cN (bR (i:=5) nd rfl (Or.inl rfl)) iW)) rfl rfl, ?_⟩;refine aJ (cR (d:=.int (e.1+sk.2)) 6 nd rfl (Or.inl rfl) (gA gY (aAm (hk:=hkT P w) (k:=iC (nrQ p L e.2.1)) (n:=t) (d:=.int e.1) hu (sI (aC 2 rfl (pv 2))) (PEd.cast (aC 3 rfl (pv 3)) (by rw[show(hkT P w).dat (iC (nrQ p L e.2.1))=tD (iC (nrQ p L e.2.1)) from rfl,oH])) ek (by rw[aQ,he];rfl) λ_ _=>rfl) (aC 4 rfl (pv 4))) ?_);refine bB (iP (k:=decide (e.1+sk.2<=b)&&!sS p L B (gR (gX p sk.1) (nrQ p L e.2.1)) (e.1+sk.2)) (PWd.pt (aJm (k:=decide (e.1+sk.2<=b)) (j:= !sS p L B (gR (gX p sk.1) (nrQ p L e.2.1)) (e.1+sk.2)) (oU (g:=λi j=>decide (i<=j)) yI (aC 6 rfl (pv 6)) (aC 1 rfl (pv 1)) (jI _)) λ_=>aHe (vD (vF (bQ (ds:=[pcD P w K p L B,.tup (bM (gR (gX p sk.1) (nrQ p L e.2.1))),.int (e.1+sk.2)]) (r:=.val (.bl (sS p L B (gR (gX p sk.1) (nrQ p L e.2.1)) (e.1+sk.2)))) GS hr rfl (aD (aC 2 rfl (pv 2)) (aD (bQ (ds:=[.tup (bM (nrQ p L e.2.1)),.tup (bM (gX p sk.1))]) GB hr rfl (aD (aC 3 rfl (pv 3)) (aD (aC 5 rfl (pv 5)) aR)) ⟨nrQ p L e.2.1,gX p sk.1,by rw[n1.1];omega,λi hi=>by rw[aAq];exact n1.2 i hi,rfl,rfl⟩ trivial rfl) (aD (aC 6 rfl (pv 6)) aR))) ⟨p,L,b,B,_,_,hp,S,O,rfl,rfl⟩ trivial rfl))))) (λh=> ?_) λh=>cO ?_)
   ·refine bB (bU vT trivial ?_)
    have:aHu p L b B=false:=by
     rw[ecl];refine nZ.mpr λz=> ?_
     have:=cX.mp (cX.mp z e em) j (cM.mpr jl);rw[gj] at this;rw[bH] at h;rw[h.1] at this;have h2:=h.2;simp at this h2;rw[this] at h2;cases h2
    show DL.R.val _=DL.R.val _;rw[this]
   ·refine⟨[.val (.lst (L.map (mvD p))),.val (.int b),.val (pcD P w K p L B),.val (.tup (bM (nrQ p L e.2.1))),.un,.un,.un],⟨.inr rfl,.inr rfl,.inr rfl,.inr rfl,.inl rfl,.inl rfl,.inl rfl,trivial⟩,λk hk=> ?_,rfl⟩
    by_cases q:k<j
    ·exact hn2 k q
    ·have:k=j:=by omega
     subst this;rw[gj];cases z1:decide (e.1+sk.2<=b) with
     |false=>rfl
     |true=>
      rw[z1] at h;cases z2:sS p L B (gR (gX p sk.1) (nrQ p L e.2.1)) (e.1+sk.2) with
      |true=>rfl
      |false=>rw[z2] at h;cases h
  ·obtain⟨hn2,rfl⟩:=hn2;rw[aB] at hn2;refine⟨[.val (.lst (L.map (mvD p))),.val (.int b),.val (pcD P w K p L B),.un,.un,.un,.un],⟨.inr rfl,.inr rfl,.inr rfl,.inl rfl,.inr rfl,.inr rfl,.inr rfl,trivial⟩,λi x hi hx k hk=> ?_,rfl⟩
   by_cases q:i<t
   ·exact hn i x q hx k hk
   ·have:i=t:=by omega
    subst this;rw[he] at hx;cases hx;exact hn2 k hk
 ·obtain⟨hn,rfl⟩:=hn;rw[kl] at hn;refine bB (bU vT trivial ?_)
  have:aHu p L b B=true:=by
   rw[ecl];refine cX.mpr λe he=>cX.mpr λk hk=> ?_
   obtain⟨i,hi⟩:=cW he;exact hn i e (aE.mp hi).1 hi k (cM.mp hk)
  show DL.R.val _=DL.R.val _;rw[this]
theorem aCz(F:Fun K "holds" "holds" aCV f fd)(hm:mg "holds"=some (.ref f))(GM:bL P w K mg base "moves_of" 5 2 aDh)(GP:bL P w K mg base "prices_by_numbers" 4 5 (aOY P w K))(GS:bL P w K mg base "has_start" 1 2 aIh)(GC:bL P w K mg base "is_closed" 2 3 (aDQ P w K)):bL P w K mg base "holds" 6 4 aHW:=by
 have nd:(["size","stock","bound","book","moves","prices"]:List Str).Nodup:=by decide+kernel
 refine eQ (N:=["size","stock","bound","book","moves","prices"]) (ps:=["size","stock","bound","book"]) (k:=5) F ⟨rfl,rfl,rfl,nd,rfl,by decide+kernel,by decide+kernel⟩ hm (λ_ _ _ _ _ _ us hl=>match us,hl with | [_,_,_,_],_=>rfl) λcdv A outer s H E hr ds r hl c=> ?_
 obtain⟨p,L,b,B,hp,S,dn,O,h0,rfl,rfl⟩:=c;have hr1:=hr.mono (show 1<=5 by decide);have hr2:=hr.mono (show 2<=5 by decide);have hr4:=hr.mono (show 4<=5 by decide);refine aJ (gC (ds:=L.map (mvD p)) 4 nd rfl (Or.inl rfl) (bQ (ds:=[cP p,.lst (L.map skD)]) GM hr rfl (aD (aC 0 rfl (pv 0)) (aD (aC 1 rfl (pv 1)) aR)) ⟨p,L,hp,S,dn,rfl,rfl⟩ trivial rfl) λl4=>jW 4 rfl ?_);refine aJ (cR (d:=pcD P w K p L B) 5 nd rfl (Or.inl rfl) (bQ (ds:=[cP p,.lst (L.map skD),.lst (L.map (mvD p)),.int b,.lst (B.map enD)]) GP hr4 rfl (aD (aC 0 rfl (pv 0)) (aD (aC 1 rfl (pv 1)) (aD (aC 4 rfl (pv 4)) (aD (aC 2 rfl (pv 2)) (aD (aC 3 rfl (pv 3)) aR))))) ⟨p,L,b,B,hp,S,O,rfl,rfl⟩ trivial rfl) ?_);have st:∀ {sd:List Slot}{p1 p2 p3 p4:Pos},sd[2]? =some (.val (.int b))->sd[3]? =some (.val (.lst (B.map enD)))->PEd (nO CX0 P w K mg base ["size","stock","bound","book","moves","prices"] "holds" (bI aCV) f cdv A outer s H E).nox sd (.Call (.Name "has_start" p1) [.Name "bound" p2, .Name "book" p3] [] p4) (.val (.bl (B.any λe=>decide (e.2.1=[])))):=λq2 q3=>bQ (ds:=[.int b,.lst (B.map enD)]) GS hr1 rfl (aD (aC 2 q2 (pv 2)) (aD (aC 3 q3 (pv 3)) aR)) ⟨p,L,b,B,O,h0,rfl,rfl⟩ trivial rfl
 cases q:B.any λe=>decide (e.2.1=[]) with
 |false=>rw[q] at st;refine aJ (iP (k:=true) (PWd.pt (pH (k:=false) (j:=true) (PTd.cast (aDt (d:=pcD P w K p L B) (aC 5 rfl (pv 5)) aIf) rfl) λ_=>pX (vD (k:=false) (vF (st rfl rfl))))) (λ_=> ?_) λh=>by cases h);exact bB (bU vT trivial rfl)
 |true=>rw[q] at st;refine aJ (fR (k:=false) (PWd.pt (pH (k:=false) (j:=false) (PTd.cast (aDt (d:=pcD P w K p L B) (aC 5 rfl (pv 5)) aIf) rfl) λ_=>pX (vD (k:=true) (vF (st rfl rfl))))) rfl (cO ?_));exact bB (bU (bQ (ds:=[.lst (L.map (mvD p)),.int b,pcD P w K p L B]) GC hr2 rfl (aD (aC 4 rfl (pv 4)) (aD (aC 2 rfl (pv 2)) (aD (aC 5 rfl (pv 5)) aR))) ⟨p,L,b,B,hp,S,O,rfl,rfl⟩ trivial rfl) trivial rfl)
theorem aEv(F:Fun K "_law_cell_at" "_law_cell_at" aDo f fd)(zlen:mg "len"=none)(hm:mg "_law_cell_at"=some (.ref f)):bL P w K mg base "_law_cell_at" 1 2 aIP:=by
 have nd:(["_law_script","_law_k"]:List Str).Nodup:=by decide+kernel
 refine eQ (N:=["_law_script","_law_k"]) (ps:=["_law_script","_law_k"]) (k:=0) F ⟨rfl,rfl,rfl,nd,rfl,by decide+kernel,by decide+kernel⟩ hm (λ_ _ _ _ _ _ us hl=>match us,hl with | [_,_],_=>rfl) λcdv A outer s H E hr ds r hl c=> ?_
 obtain⟨ns,k,rfl,hk,rfl⟩:=c;refine aJ (iP (oU aIZ (aC 1 rfl (pv 1)) (aJb rfl zlen (aC 0 rfl (pv 0))) (jI _)) (λh=> ?_) λh=>cO ?_)
 ·have h':k<ns.length:=by simpa using h
  exact bB (bU (aMj (z:=ns.getD k 0) (aC 0 rfl (pv 0)) (aC 1 rfl (pv 1)) (by simp[h']) λ_ _=>rfl) trivial rfl)
 ·have h':¬ k<ns.length:=by simpa using h
  refine bB (bU bE trivial ?_);show R.val (.int 0)=R.val (.int (ns.getD k 0));simp[cA,h']
theorem aHk(F:Fun K "_law_mixed" "_law_mixed" aHJ f fd)(hm:mg "_law_mixed"=some (.ref f)):bL P w K mg base "_law_mixed" 1 2 CMx:=by
 have nd:(["_law_cell","_law_k","_law_number"]:List Str).Nodup:=by decide+kernel
 refine eQ (N:=["_law_cell","_law_k","_law_number"]) (ps:=["_law_cell","_law_k"]) (k:=0) F ⟨rfl,rfl,rfl,nd,rfl,by decide+kernel,by decide+kernel⟩ hm (λ_ _ _ _ _ _ us hl=>match us,hl with | [_,_],_=>rfl) λcdv A outer s H E hr ds r hl c=> ?_
 obtain⟨c,k,rfl,hk,rfl⟩:=c;have kb:((k:Nat):Int).natAbs<2^250:=cD (by omega:_<=1000) (by decide);refine aJ (iP (aEa (dM gP (aC 0 rfl (pv 0)) bE (by decide)) bE) (λh=> ?_) λh=>cO ?_)
 ·have h':c%2=0:=by simpa using h
  have e2:(2:Int)*2^((8:Int)*(k:Int)).toNat=((2^(8*k+1):Nat):Int):=by
   have:((8:Int)*(k:Int)).toNat=8*k:=by omega
   rw[this,aPe]
   push_cast
   exact aPh _ _
  have lg:(2^(8*k+1):Nat).log2<9000:=by rw[Nat.log2_two_pow];omega
  refine bB (bU (dM xL (aC 0 rfl (pv 0)) (PEd.ic (dM aIm bE (dM kU bE (aC 1 rfl (pv 1)) (kP (by decide) kb)) ⟨by omega,by omega,by decide⟩) e2) ⟨pw0 _,lg⟩) trivial ?_);unfold mxS;rw[if_pos h']
 have h':¬ c%2=0:=by simpa using h
 have c1:=dG c (show(2147483647:Int)≠0 by decide);have c2:=cE c (show(0:Int)<2147483647 by decide);have big:∀z:Int,0<=z/\z<2147483647+69621*400+7919->z.natAbs<2^250:=λz hz=>cD (by omega:z.natAbs<=3000000000) (by decide)
 refine aJ (cR (d:=.int (mx1 c k)) 2 nd rfl (Or.inl rfl) (dM gP (dM kU (gA gY (gA gY (dM gP (aC 0 rfl (pv 0)) bE (by decide)) (dM kU bE (aC 1 rfl (pv 1)) (kP (by decide) kb))) bE) bE (kP (big _ ⟨by omega,by omega⟩) (by decide))) bE (by decide)) ?_);have r1:0<=mx1 c k/\mx1 c k<2147483647:=⟨dG _ (by decide),cE _ (by decide)⟩;refine aJ (cR (d:=.int (mx2 c k)) 2 nd rfl (Or.inl rfl) (dM gP (dM kU (aC 2 rfl (pv 2)) (aC 2 rfl (pv 2)) (kP (big _ ⟨by omega,by omega⟩) (big _ ⟨by omega,by omega⟩))) bE (by decide)) ?_);have r2:0<=mx2 c k/\mx2 c k<2147483629:=⟨dG _ (by decide),cE _ (by decide)⟩;refine bB (bU (dM gP (gA gY (dM kU (aC 2 rfl (pv 2)) (aC 2 rfl (pv 2)) (kP (big _ ⟨by omega,by omega⟩) (big _ ⟨by omega,by omega⟩))) (dM kU bE (aC 1 rfl (pv 1)) (kP (by decide) kb))) bE (by decide)) trivial ?_);unfold mxS;rw[if_neg h']
def aDg:List D->R->Prop:=λds r=>∃p,p∈cJ/\ds=[cP p]/\r=.own ((jC (2^p.1.toNat) p.2.toNat).map bJ)
theorem aCA(F:Fun K "_law_fillings" "_law_fillings" aCL f fd)(zrange:mg "range"=none)(hm:mg "_law_fillings"=some (.ref f)):bL P w K mg base "_law_fillings" 1 1 aDg:=by
 have nd:(["_law_size_here","_law_found_here","_law_box","_law_longer","_law_one"]:List Str).Nodup:=by decide+kernel
 refine eQ (N:=["_law_size_here","_law_found_here","_law_box","_law_longer","_law_one"]) (ps:=["_law_size_here"]) (k:=0) F ⟨rfl,rfl,rfl,nd,rfl,by decide+kernel,by decide+kernel⟩ hm (λ_ _ _ _ _ _ us hl=>match us,hl with | [_],_=>rfl) λcdv A outer s H E hr ds r hl c=> ?_
 obtain⟨p,hp,rfl,rfl⟩:=c;obtain⟨h1,h2,h3,h4,h5⟩:=xY p hp;have e2:p.2=((p.2.toNat:Nat):Int):=by omega
 have e1:p.1=((p.1.toNat:Nat):Int):=by omega
 have nd2:(["_law_word_here","_law_one"]:List Str).Nodup:=by decide+kernel
 have m64:2^p.1.toNat<=64:=by
  have:p.1.toNat<=6:=by omega
  exact cK (rG (by decide) this) (by decide)
 refine aJ (gC (ds:=[bJ []]) 1 nd rfl (Or.inl rfl) (iY (ds:=[bJ []]) (aD (gF (ds:=[]) aR (bY _)) aR) (aK rfl)) λl=> ?_);refine aJ (gB (ds:=iQ 0 p.2.toNat) (λk sd=>∃l,sd=[.val (cP p),.own l ((jC (2^p.1.toNat) k).map bJ),.un,.un,.un]) (jX (n:=p.2.toNat) rfl zrange (PEd.cast (eX (n:=1) (d:=.int p.2) (aC 0 rfl (pv 0)) bE rfl λ_ _=>rfl) (by rw[<-e2])) (by omega)) ⟨_,Le.refl _,l,rfl⟩ (λk d sdk hd hk=> ?_) λsdn hn=> ?_)
 ·obtain⟨hk2,rfl⟩:=jS hd;obtain⟨l2,rfl⟩:=hk
  have hsm:(jC (2^p.1.toNat) k).length*2^p.1.toNat<=900:=by rw[vH];exact yV p hp k hk2
  have lens:=vX (2^p.1.toNat) k;have eL:jC (2^p.1.toNat) (k+1)=(jC (2^p.1.toNat) k).flatMap λs=>(bP (2^p.1.toNat)).map λ(w:Nat)=>s++[(w:Int)]:=rfl
  rw[eL];generalize jC (2^p.1.toNat) k=L at *;refine⟨_,fM 2 (bR (i:=2) nd rfl (Or.inl rfl)),jW 1 rfl ?_⟩;refine aJ (gC 3 nd rfl (Or.inl rfl) (iY (ds:=[]) aR (bY _)) λl3=> ?_);refine aJ (vG (ds:=L.map bJ) (λt=>[.val (cP p),.val (.lst (L.map bJ)),.un,.own l3 (((L.take t).flatMap λs=>(bP (2^p.1.toNat)).map λ(w:Nat)=>s++[(w:Int)]).map bJ),.un]) (λt=>[.val (cP p),.val (.lst (L.map bJ)),.un,.own l3 (((L.take t).flatMap λs=>(bP (2^p.1.toNat)).map λ(w:Nat)=>s++[(w:Int)]).map bJ),.val (bJ (L.getD t []))]) (gQ (aC 1 rfl (pv 1))) ⟨.inr rfl,.inr rfl,.inl rfl,.inr rfl,.inr rfl,trivial⟩ (λt d hd=> ?_) (λt d hd=> ?_) ?_)
  ·obtain⟨_,rfl⟩:=rO hd;exact fM 4 (bR (i:=4) nd rfl (Or.inr rfl))
  ·obtain⟨ht,rfl⟩:=rO hd;have hmem:L.getD t []∈L:=DL.getD_mem ht
   have et:L.take (t+1)=L.take t++[L.getD t []]:=by rw[eZ];simp[cA,ht]
   have lk:(L.take t).length*2^p.1.toNat+2^p.1.toNat<=900:=by
    have h1:(L.take t).length+1<=L.length:=by rw[bX];omega
    have h2:=rE (2^p.1.toNat) h1;rw[aFt] at h2;omega
   have ec:((iQ 0 (2^p.1.toNat)).filter λ_=>true).map (λd=>D.tup ((L.getD t []).map D.int++[d]))=((bP (2^p.1.toNat)).map λ(w:Nat)=>L.getD t []++[(w:Int)]).map bJ:=by
    rw[cQ.mpr (λ_ _=>rfl)];unfold iQ;rw[bA,bA];refine bZ λw _=> ?_
    simp[bJ]
   have lt:=lens _ hmem;refine bB (vQ (ds2:=((bP (2^p.1.toNat)).map λ(w:Nat)=>L.getD t []++[(w:Int)]).map bJ) 3 rfl (pv 3) (PEd.val (PEd.cast (jK (N:=["_law_word_here","_law_one"]) (M:=["_law_size_here","_law_found_here","_law_box","_law_longer","_law_one"]) (cap:=[none,some 4]) (sc:=bI aCL) (Tb:=λd=>[.val d,.val (bJ (L.getD t []))]) (λ_=>true) (λd=>D.tup ((L.getD t []).map D.int++[d])) (jX (n:=2^p.1.toNat) rfl zrange (aAs (k:=p.1.toNat) (PEd.ic (eX (n:=0) (aC 0 rfl (pv 0)) bE rfl λ_ _=>rfl) e1) (by omega)) (by omega)) (by rw[iJ];omega) rfl (by decide+kernel) rfl (by decide+kernel) rfl (λcl C fp s H d _=>fM 0 (bR (i:=0) nd2 rfl (Or.inl rfl))) (λd _=>⟨.inl rfl,.inr rfl,trivial⟩) (λcl C fp s H d _=>.inl ⟨rfl,rfl⟩) λcl C fp s H d _ _=>mU (aC 1 rfl (pv 1)) (gF (ds:=[d]) (aD (aC 0 rfl (pv 0)) aR) (aK rfl)) ?_) (by rw[ec]))) ?_ ?_)
   ·simp only[aB,bS,gW];omega
   ·rw[aB,pM,aB,aB,jT];omega
   ·refine⟨.inr rfl,.inr rfl,.inr rfl,.inr ?_,.inl rfl,trivial⟩;rw[et,aFB,aW];simp
  ·rw[aB,cZ];refine bB (aHj 1 3 rfl nd rfl (Or.inl rfl) (pv 3) ?_);exact⟨_,Le.refl _,l3,rfl⟩
 ·obtain⟨l2,rfl⟩:=hn;refine bB (nL 1 rfl (pv 1) ?_);show R.own _=R.own _;rw[iJ]
theorem aAt:∀k,k<10->decide (V.str (nm k)=V.str "down")=decide (k=9):=by decide+kernel
theorem aHN{ws:List Int}{i:Nat}(h:i<ws.length):(ws.map D.int)[i]? =some (.int (ws.getD i 0)):=by simp[cA,h]
theorem aJQ(F:Fun K "_law_word" "_law_word" aHR f fd)(hm:mg "_law_word"=some (.ref f)):bL P w K mg base "_law_word" 1 3 aLh:=by
 have nd:(["_law_size_here","_law_step","_law_filling","_law_most","_law_name","_law_a","_law_b"]:List Str).Nodup:=by decide+kernel
 refine eQ (N:=["_law_size_here","_law_step","_law_filling","_law_most","_law_name","_law_a","_law_b"]) (ps:=["_law_size_here","_law_step","_law_filling"]) (k:=0) F ⟨rfl,rfl,rfl,nd,rfl,by decide+kernel,by decide+kernel⟩ hm (λ_ _ _ _ _ _ us hl=>match us,hl with | [_,_,_],_=>rfl) λcdv A outer s H E hr ds r hl c=> ?_
 obtain⟨p,⟨k,i,j,n⟩,ws,O,G,rfl,rfl⟩:=c;obtain⟨h1,h2,h3,h4,h5⟩:=xY p O.sz;have e1:p.1=((p.1.toNat:Nat):Int):=by omega
 have m0:=pw0 p.1.toNat;have wl:=G.len;obtain⟨_,k10,i0,j0,n0⟩:=O;simp only at i0 j0 k10;have ai:(ws.map D.int)[i.toNat]? =some (.int (ws.getD i.toNat 0)):=aHN (by omega);have aj:(ws.map D.int)[j.toNat]? =some (.int (ws.getD j.toNat 0)):=aHN (by omega);show PSd _ (init _ [cP p,kC k i j n,bJ ws]) _ {nx:=λ_=>R.val (.int (newW k ((2^p.1.toNat:Nat):Int) (ws.getD i.toNat 0) (ws.getD j.toNat 0) n))=.val .non,rt:=λr'=>r'=.val (.int (newW k ((2^p.1.toNat:Nat):Int) (ws.getD i.toNat 0) (ws.getD j.toNat 0) n))};have t_put:=tP k k10;have t_not:=aBb k k10;have t_up:=aFY k k10;have t_dn:=aAt k k10;refine aJ (cR (d:=.int ((2^p.1.toNat:Nat):Int)) 3 nd rfl (Or.inl rfl) (aAs (PEd.ic (eX (n:=0) (d:=.int p.1) (aC 0 rfl (pv 0)) bE rfl λ_ _=>rfl) e1) (by omega)) ?_)
 by_cases k6:k<6
 ·have es:kC k i j n=.tup [.str (nm k),.int i,.int j]:=by unfold kC;rw[if_pos k6]
  have en:newW k ((2^p.1.toNat:Nat):Int) (ws.getD i.toNat 0) (ws.getD j.toNat 0) n=aFJ k ((2^p.1.toNat:Nat):Int) (ws.getD i.toNat 0) (ws.getD j.toNat 0):=by unfold newW;rw[if_neg (by omega),if_neg (by omega)]
  rw[es,en];refine aJ (cR (d:=.str (nm k)) 4 nd rfl (Or.inl rfl) (eX (n:=0) (aC 1 rfl (pv 1)) bE rfl λ_ _=>rfl) ?_);refine aJ (cR (d:=.int (ws.getD i.toNat 0)) 5 nd rfl (Or.inl rfl) (oJ (i:=i) (aC 2 rfl (pv 2)) (eX (n:=1) (aC 1 rfl (pv 1)) bE rfl λ_ _=>rfl) i0.1 ai λ_ _=>rfl) ?_);refine aJ (fR (cS (aC 4 rfl (pv 4)) dY rfl rfl rfl t_put) (decide_eq_false (by omega)) (cO ?_));refine aJ (fR (cS (aC 4 rfl (pv 4)) dY rfl rfl rfl t_not) (decide_eq_false (by omega)) (cO ?_));refine aJ (fR (cS (aC 4 rfl (pv 4)) dY rfl rfl rfl t_up) (decide_eq_false (by omega)) (cO ?_));refine aJ (fR (cS (aC 4 rfl (pv 4)) dY rfl rfl rfl t_dn) (decide_eq_false (by omega)) (cO ?_));refine aJ (cR (d:=.int (ws.getD j.toNat 0)) 6 nd rfl (Or.inl rfl) (oJ (i:=j) (aC 2 rfl (pv 2)) (eX (n:=2) (aC 1 rfl (pv 1)) bE rfl λ_ _=>rfl) j0.1 aj λ_ _=>rfl) ?_)
  by_cases k0':k=0
  ·refine aJ (jZ (cS (aC 4 rfl (pv 4)) dY rfl rfl rfl (aDk k k10)) (decide_eq_true k0') (bB (bU (gA aHE (aC 5 rfl (pv 5)) (aC 6 rfl (pv 6))) trivial ?_)));rw[k0'];rfl
  refine aJ (fR (cS (aC 4 rfl (pv 4)) dY rfl rfl rfl (aDk k k10)) (decide_eq_false k0') (cO ?_))
  by_cases k1':k=1
  ·refine aJ (jZ (cS (aC 4 rfl (pv 4)) dY rfl rfl rfl (aIN k k10)) (decide_eq_true k1') (bB (bU (gA aKW (aC 5 rfl (pv 5)) (aC 6 rfl (pv 6))) trivial ?_)));rw[k1'];rfl
  refine aJ (fR (cS (aC 4 rfl (pv 4)) dY rfl rfl rfl (aIN k k10)) (decide_eq_false k1') (cO ?_))
  by_cases k2':k=2
  ·refine aJ (jZ (cS (aC 4 rfl (pv 4)) dY rfl rfl rfl (aCZ k k10)) (decide_eq_true k2') (bB (bU (gA aIi (aC 5 rfl (pv 5)) (aC 6 rfl (pv 6))) trivial ?_)));rw[k2'];rfl
  refine aJ (fR (cS (aC 4 rfl (pv 4)) dY rfl rfl rfl (aCZ k k10)) (decide_eq_false k2') (cO ?_))
  by_cases k3':k=3
  ·refine aJ (jZ (cS (aC 4 rfl (pv 4)) dY rfl rfl rfl (aCK k k10)) (decide_eq_true k3') (bB (bU (dM gP (gA gY (aC 5 rfl (pv 5)) (aC 6 rfl (pv 6))) (aC 3 rfl (pv 3)) m0) trivial ?_)));rw[k3'];rfl
  refine aJ (fR (cS (aC 4 rfl (pv 4)) dY rfl rfl rfl (aCK k k10)) (decide_eq_false k3') (cO ?_))
  by_cases k4':k=4
  ·refine aJ (jZ (cS (aC 4 rfl (pv 4)) dY rfl rfl rfl (aAx k k10)) (decide_eq_true k4') (bB (bU (dM gP (gA qU (aC 5 rfl (pv 5)) (aC 6 rfl (pv 6))) (aC 3 rfl (pv 3)) m0) trivial ?_)));rw[k4'];rfl
  refine aJ (fR (cS (aC 4 rfl (pv 4)) dY rfl rfl rfl (aAx k k10)) (decide_eq_false k4') (cO ?_));have k5:k=5:=by omega
  refine bB (bU (aC 6 rfl (pv 6)) trivial ?_);rw[k5];rfl
 by_cases k6':k=6
 ·have es:kC k i j n=.tup [.str (nm k),.int i,.int n]:=by unfold kC;rw[if_neg k6,if_pos k6']
  rw[es];refine aJ (cR (d:=.str (nm k)) 4 nd rfl (Or.inl rfl) (eX (n:=0) (aC 1 rfl (pv 1)) bE rfl λ_ _=>rfl) ?_);refine aJ (cR (d:=.int (ws.getD i.toNat 0)) 5 nd rfl (Or.inl rfl) (oJ (i:=i) (aC 2 rfl (pv 2)) (eX (n:=1) (aC 1 rfl (pv 1)) bE rfl λ_ _=>rfl) i0.1 ai λ_ _=>rfl) ?_);refine aJ (jZ (cS (aC 4 rfl (pv 4)) dY rfl rfl rfl t_put) (decide_eq_true k6') (bB (bU (eX (n:=2) (aC 1 rfl (pv 1)) bE rfl λ_ _=>rfl) trivial ?_)));rw[k6'];rfl
 have es:kC k i j n=.tup [.str (nm k),.int i]:=by unfold kC;rw[if_neg k6,if_neg k6']
 rw[es];refine aJ (cR (d:=.str (nm k)) 4 nd rfl (Or.inl rfl) (eX (n:=0) (aC 1 rfl (pv 1)) bE rfl λ_ _=>rfl) ?_);refine aJ (cR (d:=.int (ws.getD i.toNat 0)) 5 nd rfl (Or.inl rfl) (oJ (i:=i) (aC 2 rfl (pv 2)) (eX (n:=1) (aC 1 rfl (pv 1)) bE rfl λ_ _=>rfl) i0.1 ai λ_ _=>rfl) ?_);refine aJ (fR (cS (aC 4 rfl (pv 4)) dY rfl rfl rfl t_put) (decide_eq_false (by omega)) (cO ?_))
 by_cases k7:k=7
 ·refine aJ (jZ (cS (aC 4 rfl (pv 4)) dY rfl rfl rfl t_not) (decide_eq_true k7) (bB (bU (gA qU (gA qU (aC 3 rfl (pv 3)) bE) (aC 5 rfl (pv 5))) trivial ?_)));rw[k7];rfl
 refine aJ (fR (cS (aC 4 rfl (pv 4)) dY rfl rfl rfl t_not) (decide_eq_false k7) (cO ?_))
 by_cases k8:k=8
 ·refine aJ (jZ (cS (aC 4 rfl (pv 4)) dY rfl rfl rfl t_up) (decide_eq_true k8) (bB (bU (PEd.ic (dM gP (dM aMh bE (aC 5 rfl (pv 5)) (.inl ⟨by decide,by decide⟩)) (aC 3 rfl (pv 3)) m0) (by rw[aPh])) trivial ?_)));rw[k8];rfl
 refine aJ (fR (cS (aC 4 rfl (pv 4)) dY rfl rfl rfl t_up) (decide_eq_false k8) (cO ?_));have k9:k=9:=by omega
 refine aJ (jZ (cS (aC 4 rfl (pv 4)) dY rfl rfl rfl t_dn) (decide_eq_true k9) (bB (bU (dM xL (aC 5 rfl (pv 5)) bE ⟨by decide,by decide⟩) trivial ?_)));rw[k9];rfl
theorem aGY(q:SQ):∃es,sqD q=.tup (.str (nm q.1)::.int q.2.1::es):=by
 show ∃es,kC _ _ _ _=_;unfold kC
 split
 ·exact⟨_,rfl⟩
 ·split
  ·exact⟨_,rfl⟩
  ·exact⟨_,rfl⟩
theorem aHc(F:Fun K "_law_after" "_law_after" aOR f fd)(hm:mg "_law_after"=some (.ref f))(GW:bL P w K mg base "_law_word" 1 3 aLh):bL P w K mg base "_law_after" 2 3 aHD:=by
 have nd:(["_law_size_here","_law_step","_law_filling"]:List Str).Nodup:=by decide+kernel
 refine eQ (N:=["_law_size_here","_law_step","_law_filling"]) (ps:=["_law_size_here","_law_step","_law_filling"]) (k:=1) F ⟨rfl,rfl,rfl,nd,rfl,by decide+kernel,by decide+kernel⟩ hm (λ_ _ _ _ _ _ us hl=>match us,hl with | [_,_,_],_=>rfl) λcdv A outer s H E hr ds r hl c=> ?_
 obtain⟨p,q,ws,O,G,rfl,rfl⟩:=c;obtain⟨h1,h2,h3,h4,h5⟩:=xY p O.sz;have wl:=G.len;have i0:=O.i0;have li:q.2.1.toNat<ws.length:=by omega
 have ei:q.2.1=((q.2.1.toNat:Nat):Int):=by omega
 obtain⟨es0,es1⟩:=aGY q;have bx:∀ {X:Cx}{sd:List Slot}{a:Expr}{n0:Nat}{p1 p2:Pos},PEd X sd a (.val (sqD q))->PEd X sd (.Subscript a (.Constant (.int 1) n0 p1) p2) (.val (.int ((q.2.1.toNat:Nat):Int))):=λha=>PEd.ic (eX (n:=1) (ds:=.str (nm q.1)::.int q.2.1::es0) (PEd.cast ha (by rw[es1])) bE rfl λ_ _=>rfl) ei
 refine bB (bU (PEd.cast (mU (mU (aAW (ol:=none) (oh:=some ((q.2.1.toNat:Nat):Int)) (aC 2 rfl (pv 2)) trivial (bx (aC 1 rfl (pv 1))) ?_) (gF (ds:=[.int (nwQ p q ws)]) (aD (bQ (ds:=[cP p,sqD q,bJ ws]) GW hr rfl (aD (aC 0 rfl (pv 0)) (aD (aC 1 rfl (pv 1)) (aD (aC 2 rfl (pv 2)) aR))) ⟨p,q,ws,O,G,rfl,rfl⟩ trivial rfl) aR) (aK rfl)) ?_) (aAW (ol:=some (((q.2.1.toNat:Nat):Int)+1)) (oh:=none) (aC 2 rfl (pv 2)) (gA gY (bx (aC 1 rfl (pv 1))) bE) trivial ?_) ?_) ?_) trivial rfl)
 ·rw[HT.sIx_nat,aB];omega
 ·rw[tE ws li];simp only[aB,bX,bS,gW];omega
 ·have e:(((q.2.1.toNat:Nat):Int)+1)=((q.2.1.toNat+1:Nat):Int):=by push_cast;rfl
  rw[e,HT.sIx_nat,aB];omega
 ·rw[tE ws li,sK ws li];simp only[aP,aB,bX,iS,bS,gW];omega
 ·rw[tE ws li,sK ws li];unfold bJ onQ;rw[uC,if_pos li];simp
theorem aJX:∀k:Nat,k<10->([.str "and",.str "or",.str "xor",.str "add",.str "take",.str "copy",.str "put",.str "not",.str "up",.str "down"]:List D)[k]? =some (.str (nm k)):=by
 intro k hk
 match k,hk with
 |0,_=>rfl
 |1,_=>rfl
 |2,_=>rfl
 |3,_=>rfl
 |4,_=>rfl
 |5,_=>rfl
 |6,_=>rfl
 |7,_=>rfl
 |8,_=>rfl
 |9,_=>rfl
theorem aKk(F:Fun K "_law_drawn" "_law_drawn" aCN f fd)(hm:mg "_law_drawn"=some (.ref f))(GM:bL P w K mg base "_law_mixed" 1 2 CMx):bL P w K mg base "_law_drawn" 2 2 aLu:=by
 have nd:(["_law_size_here","_law_cell","_law_name","_law_i"]:List Str).Nodup:=by decide+kernel
 refine eQ (N:=["_law_size_here","_law_cell","_law_name","_law_i"]) (ps:=["_law_size_here","_law_cell"]) (k:=1) F ⟨rfl,rfl,rfl,nd,rfl,by decide+kernel,by decide+kernel⟩ hm (λ_ _ _ _ _ _ us hl=>match us,hl with | [_,_],_=>rfl) λcdv A outer s H E hr ds r hl c=> ?_
 obtain⟨p,c,hp,rfl,rfl⟩:=c;obtain⟨h1,h2,h3,h4,h5⟩:=xY p hp;have m0:=pw0 p.1.toNat;have e1:p.1=((p.1.toNat:Nat):Int):=by omega
 have p20:(0:Int)<p.2:=by omega
 have d0:=dG (mxS c 1) (show(10:Int)≠0 by decide);have d1:=cE (mxS c 1) (show(0:Int)<10 by decide);have mx:∀ {sd:List Slot}{j0:Nat}{p1 p2 p3 p4:Pos} (k:Nat),k<=400->sd[1]? =some (.val (.int c))->PEd (nO CX0 P w K mg base ["_law_size_here","_law_cell","_law_name","_law_i"] "_law_drawn" (bI aCN) f cdv A outer s H E).nox sd (.Call (.Name "_law_mixed" p1) [.Name "_law_cell" p2, .Constant (.int (k:Int)) j0 p4] [] p3) (.val (.int (mxS c k))):=λk hk hs=>bQ (ds:=[.int c,.int (k:Int)]) GM hr rfl (aD (aC 1 hs (pv 1)) (aD bE aR)) ⟨c,k,rfl,hk,rfl⟩ trivial rfl
 refine aJ (cR (d:=.str (nm (mxS c 1%10).toNat)) 2 nd rfl (Or.inl rfl) (sR (i:=mxS c 1%10) (ds:=[.str "and",.str "or",.str "xor",.str "add",.str "take",.str "copy",.str "put",.str "not",.str "up",.str "down"]) (PEd.bor (PEd.val (iY (ds:=[.str "and",.str "or",.str "xor",.str "add",.str "take",.str "copy",.str "put",.str "not",.str "up",.str "down"]) ?_ (aK rfl)))) (dM gP (mx 1 (by decide) rfl) bE (by decide)) d0 (aJX _ (by omega)) λ_ _=>rfl) ?_)
 ·show PAd _ _ _ [.val (.str "and"),.val (.str "or"),.val (.str "xor"),.val (.str "add"),.val (.str "take"),.val (.str "copy"),.val (.str "put"),.val (.str "not"),.val (.str "up"),.val (.str "down")]
  repeat' (first|exact aR|refine aD dY ?_)
 refine aJ (cR (d:=.int (mxS c 2%p.2)) 3 nd rfl (Or.inl rfl) (dM gP (mx 2 (by decide) rfl) (eX (n:=1) (d:=.int p.2) (aC 0 rfl (pv 0)) bE rfl λ_ _=>rfl) p20) ?_);have k10:(mxS c 1%10).toNat<10:=by omega
 show PSd _ _ _ {nx:=λ_=>R.val (kC (mxS c 1%10).toNat (mxS c 2%p.2) (mxS c 4%p.2) (mxS c 3%((2^p.1.toNat:Nat):Int)))=.val .non,rt:=λr'=>r'=.val (kC (mxS c 1%10).toNat (mxS c 2%p.2) (mxS c 4%p.2) (mxS c 3%((2^p.1.toNat:Nat):Int)))};generalize (mxS c 1%10).toNat=k at *
 by_cases k6:k=6
 ·refine aJ (jZ (cS (aC 2 rfl (pv 2)) dY rfl rfl rfl (tP k k10)) (decide_eq_true k6) (bB (bU (gF (ds:=[.str (nm k),.int (mxS c 2%p.2),.int (mxS c 3%((2^p.1.toNat:Nat):Int))]) (aD (aC 2 rfl (pv 2)) (aD (aC 3 rfl (pv 3)) (aD (dM gP (mx 3 (by decide) rfl) (aAs (PEd.ic (eX (n:=0) (d:=.int p.1) (aC 0 rfl (pv 0)) bE rfl λ_ _=>rfl) e1) (by omega)) m0) aR))) (aK rfl)) trivial ?_)));show R.val _=R.val _;unfold kC;rw[if_neg (by omega),if_pos k6]
 refine aJ (fR (cS (aC 2 rfl (pv 2)) dY rfl rfl rfl (tP k k10)) (decide_eq_false k6) (cO ?_))
 by_cases k7:7<=k
 ·refine aJ (jZ (PWd.pt (pH (cS (aC 2 rfl (pv 2)) dY rfl rfl rfl (aBb k k10)) λ_=>pH (cS (aC 2 rfl (pv 2)) dY rfl rfl rfl (aFY k k10)) λ_=>pX (cS (aC 2 rfl (pv 2)) dY rfl rfl rfl (aAt k k10)))) (by rcases(by omega:k=7\/k=8\/k=9) with h|h|h<;>simp[h]) (bB (bU (gF (ds:=[.str (nm k),.int (mxS c 2%p.2)]) (aD (aC 2 rfl (pv 2)) (aD (aC 3 rfl (pv 3)) aR)) (aK rfl)) trivial ?_)))
  show R.val _=R.val _;unfold kC;rw[if_neg (by omega),if_neg k6]
 refine aJ (fR (PWd.pt (pH (cS (aC 2 rfl (pv 2)) dY rfl rfl rfl (aBb k k10)) fun _=>pH (cS (aC 2 rfl (pv 2)) dY rfl rfl rfl (aFY k k10)) fun _=>pX (cS (aC 2 rfl (pv 2)) dY rfl rfl rfl (aAt k k10)))) (by
  have a1:¬ k=7:=by omega
  have a2:¬ k=8:=by omega
  have a3:¬ k=9:=by omega
  simp[a1,a2,a3]) (cO ?_))
 refine bB (bU (gF (ds:=[.str (nm k),.int (mxS c 2%p.2),.int (mxS c 4%p.2)]) (aD (aC 2 rfl (pv 2)) (aD (aC 3 rfl (pv 3)) (aD (dM gP (mx 4 (by decide) rfl) (eX (n:=1) (d:=.int p.2) (aC 0 rfl (pv 0)) bE rfl λ_ _=>rfl) p20) aR))) (aK rfl)) trivial ?_);show R.val _=R.val _;unfold kC;rw[if_pos (by omega)]
theorem aGC(F:Fun K "_law_moves" "_law_moves" aNx f fd)(hm:mg "_law_moves"=some (.ref f))(GF:bL P w K mg base "_law_fillings" 1 1 aDg)(GA:bL P w K mg base "_law_after" 2 3 aHD):bL P w K mg base "_law_moves" 3 2 (aOZ P w K):=by
 have nd:(["_law_size_here","_law_kit_here","_law_moves_here","_law_step","_law_price","_law_made","_law_filling"]:List Str).Nodup:=by decide+kernel
 refine eQ (N:=["_law_size_here","_law_kit_here","_law_moves_here","_law_step","_law_price","_law_made","_law_filling"]) (ps:=["_law_size_here","_law_kit_here"]) (k:=2) F ⟨rfl,rfl,rfl,nd,rfl,by decide+kernel,by decide+kernel⟩ hm (λ_ _ _ _ _ _ us hl=>match us,hl with | [_,_],_=>rfl) λcdv A outer s H E hr ds r hl c=> ?_
 obtain⟨p,L,hp,S,rfl,rfl⟩:=c;have hr1:=hr.mono (show 1<=2 by decide);have hu:(A.deeper (Ah "_law_moves" (bI aNx) s.heap.objs.size f cdv)).units+2<AO:=by have:=hr.un;omega
 have f9:(dH p).length<=64:=lU hp;have l8:=S.le;refine aJ (gC (ds:=[]) 2 nd rfl (Or.inl rfl) (iY (ds:=[]) aR (bY _)) λl2=> ?_);refine aJ (gB (ds:=L.map skD) (λt sd=>sd=[.val (cP p),.val (.lst (L.map skD)),.own l2 ((L.take t).map (mgD P w K p)),.un,.un,.un,.un]) (gQ (aC 1 rfl (pv 1))) ⟨_,Le.refl _,rfl⟩ (λt d sdt hd ht=> ?_) λsdn hn=> ?_)
 ·obtain⟨sk,hsk,rfl,et⟩:=lZ hd;have O:=(S.st sk (aO hsk)).1;have tk:((L.take t).map (mgD P w K p)).length<=1000:=by rw[aB,bX];omega
  rw[et,aW];subst ht;generalize (L.take t).map (mgD P w K p)=vs at tk;refine⟨[.val (cP p),.val (.lst (L.map skD)),.own l2 vs,.val (sqD sk.1),.val (.int sk.2),.un,.un],jA (ds:=[sqD sk.1,.int sk.2]) (js:=[3,4]) rfl (cN (bR (i:=3) nd rfl (Or.inl rfl)) (cN (bR (i:=4) nd rfl (Or.inl rfl)) iW)) rfl rfl, ?_⟩;refine aJ (pE (hkT P w) 5 nd rfl (Or.inl rfl) λl5=> ?_);refine aJ (gB (ds:=(dH p).map bJ) (λm sd=>sd=[.val (cP p),.val (.lst (L.map skD)),.own l2 vs,.val (sqD sk.1),.val (.int sk.2),oG (hkT P w) K l5 (((dH p).take m).map inK) (((dH p).take m).map λws=>bJ (onQ p sk.1 ws)),.un]) (gQ (PEd.val (bQ (ds:=[cP p]) GF hr1 rfl (aD (aC 0 rfl (pv 0)) aR) ⟨p,hp,rfl,rfl⟩ trivial rfl))) ⟨_,Le.refl _,rfl⟩ (λm d sdm hd hm=> ?_) λsdn hn=> ?_)
  ·obtain⟨ws,hws,rfl,em⟩:=lZ hd;have G:=aAw hp (aO hws)
   have nk:inK ws∉((dH p).take m).map inK:=λz=>by obtain⟨y,y1,y2⟩:=aN.mp z;rw[aAC y2] at y1;exact aDW (aEL hp) hws y1
   have tk2:(((dH p).take m).map λws=>bJ (onQ p sk.1 ws)).length<=1000:=by rw[aB,bX];omega
   rw[em,aW,aW];subst hm;generalize ((dH p).take m).map inK=ks at nk;generalize ((dH p).take m).map (λws=>bJ (onQ p sk.1 ws))=us at tk2;refine⟨[.val (cP p),.val (.lst (L.map skD)),.own l2 vs,.val (sqD sk.1),.val (.int sk.2),oG (hkT P w) K l5 ks us,.val (bJ ws)],fM 6 (bR (i:=6) nd rfl (Or.inl rfl)), ?_⟩;exact bB (pJ (hk:=hkT P w) (k:=inK ws) (d:=bJ (onQ p sk.1 ws)) 5 hu rfl (pv 5) (bQ (ds:=[cP p,sqD sk.1,bJ ws]) GA hr rfl (aD (aC 0 rfl (pv 0)) (aD (aC 3 rfl (pv 3)) (aD (aC 6 rfl (pv 6)) aR))) ⟨p,sk.1,ws,O,G,rfl,rfl⟩ trivial rfl) (PEd.cast (aC 6 rfl (pv 6)) (by rw[show(hkT P w).dat (inK ws)=tD (inK ws) from rfl,aIG])) nk tk2 ⟨[.val (cP p),.val (.lst (L.map skD)),.own l2 vs,.val (sqD sk.1),.val (.int sk.2),oG (hkT P w) K l5 (ks++[inK ws]) (us++[bJ (onQ p sk.1 ws)]),.un],⟨.inr rfl,.inr rfl,.inr rfl,.inr rfl,.inr rfl,.inr rfl,.inl rfl,trivial⟩,rfl⟩)
  ·subst hn;rw[aB,cZ];refine rP 5 rfl ?_;refine bB (qX (d:=mgD P w K p sk) 2 rfl (pv 2) (aC 5 rfl (pv 5)) tk ?_);exact⟨[.val (cP p),.val (.lst (L.map skD)),.own l2 (vs++[mgD P w K p sk]),.un,.un,.un,.un],⟨.inr rfl,.inr rfl,.inr rfl,.inl rfl,.inl rfl,.inl rfl,.inl rfl,trivial⟩,rfl⟩
 ·subst hn;rw[aB,cZ];exact bB (nL 2 rfl (pv 2) rfl)
theorem aFi(F:Fun K "_law_size" "_law_size" aLz f fd)(hm:mg "_law_size"=some (.ref f))(GM:bL P w K mg base "_law_mixed" 1 2 CMx):bL P w K mg base "_law_size" 2 1 aLo:=by
 have nd:(["_law_cell"]:List Str).Nodup:=by decide+kernel
 refine eQ (N:=["_law_cell"]) (ps:=["_law_cell"]) (k:=1) F ⟨rfl,rfl,rfl,nd,rfl,by decide+kernel,by decide+kernel⟩ hm (λ_ _ _ _ _ _ us hl=>match us,hl with | [_],_=>rfl) λcdv A outer s H E hr ds r hl c=> ?_
 obtain⟨c,rfl,rfl⟩:=c;obtain⟨h1,h0⟩:=kJ (mxS c 30) (n:=8) (by decide)
 have g:(sz8L.map cP)[(mxS c 30%8).toNat]? =some (cP (sz8L.getD (mxS c 30%8).toNat (1,1))):=by have hl:(mxS c 30%8).toNat<sz8L.length:=h1;rw[aQ];simp[cA,hl]
 refine bB (bU (sR (i:=mxS c 30%8) (ds:=sz8L.map cP) (PEd.bor (PEd.val (iY (ds:=sz8L.map cP) ?_ (aK rfl)))) (dM gP (bQ (ds:=[.int c,.int ((30:Nat):Int)]) GM hr rfl (aD (aC 0 rfl (pv 0)) (aD bE aR)) ⟨c,30,rfl,by decide,rfl⟩ trivial rfl) bE (by decide)) h0 g λ_ _=>rfl) trivial rfl);show PAd _ _ _ ([.tup [.int 1,.int 1],.tup [.int 1,.int 2],.tup [.int 2,.int 1],.tup [.int 2,.int 2],.tup [.int 1,.int 3],.tup [.int 3,.int 1],.tup [.int 1,.int 4],.tup [.int 4,.int 1]].map R.val)
 repeat' (first|exact aR|refine aD (gF (ds:=[.int _,.int _]) (aD bE (aD bE aR)) (aK rfl)) ?_)
noncomputable def uH:D->D
 |.tup [a,_]=>a
 |d=>d
noncomputable def aNW:D->List Slot
 |.tup [a,b]=>[.val a,.val b]
 |_=>[.un,.un]
theorem aGa(F:Fun K "_law_kit" "_law_kit" aIF f fd)(zrange:mg "range"=none)(zint:mg "int"=none)(hm:mg "_law_kit"=some (.ref f))(GC:bL P w K mg base "_law_cell_at" 1 2 aIP)(GM:bL P w K mg base "_law_mixed" 1 2 CMx)(GD:bL P w K mg base "_law_drawn" 2 2 aLu):bL P w K mg base "_law_kit" 3 3 aHF:=by
 have nd:(["_law_script","_law_start","_law_size_here","_law_head","_law_factor","_law_many","_law_kit_here","_law_k","_law_cell","_law_step"]:List Str).Nodup:=by decide+kernel
 have nd3:(["_law_one","_law_price"]:List Str).Nodup:=by decide+kernel
 refine eQ (N:=["_law_script","_law_start","_law_size_here","_law_head","_law_factor","_law_many","_law_kit_here","_law_k","_law_cell","_law_step"]) (ps:=["_law_script","_law_start","_law_size_here"]) (k:=2) F ⟨rfl,rfl,rfl,nd,rfl,by decide+kernel,by decide+kernel⟩ hm (λ_ _ _ _ _ _ us hl=>match us,hl with | [_,_,_],_=>rfl) λcdv A outer s H E hr ds r hl c=> ?_
 obtain⟨p,ns,st,hp,hst,rfl,rfl⟩:=c;have hr1:=hr.mono (show 1<=2 by decide);have hu:(A.deeper (Ah "_law_kit" (bI aIF) s.heap.objs.size f cdv)).units+4<AO:=by have:=hr.un;omega
 have mx:∀ {sd:List Slot}{x:Str}{p1 p2 p3 p4:Pos}{j1:Nat} (i:Nat) (c:Int) (k:Nat),k<=400->sd[i]? =some (.val (.int c))->PE (nO CX0 P w K mg base ["_law_script","_law_start","_law_size_here","_law_head","_law_factor","_law_many","_law_kit_here","_law_k","_law_cell","_law_step"] "_law_kit" (bI aIF) f cdv A outer s H E).nox (.Name x p2) (lG i)->PEd (nO CX0 P w K mg base ["_law_script","_law_start","_law_size_here","_law_head","_law_factor","_law_many","_law_kit_here","_law_k","_law_cell","_law_step"] "_law_kit" (bI aIF) f cdv A outer s H E).nox sd (.Call (.Name "_law_mixed" p1) [.Name x p2, .Constant (.int (k:Int)) j1 p3] [] p4) (.val (.int (mxS c k))):=λi c k hk hs hx=>bQ (ds:=[.int c,.int (k:Int)]) GM hr1 rfl (aD (aC i hs hx) (aD bE aR)) ⟨c,k,rfl,hk,rfl⟩ trivial rfl
 refine aJ (cR (d:=.int (ns.getD st 0)) 3 nd rfl (Or.inl rfl) (bQ (ds:=[.scr ns,.int (st:Int)]) GC hr1 rfl (aD (aC 0 rfl (pv 0)) (aD (aC 1 rfl (pv 1)) aR)) ⟨ns,st,rfl,by omega,rfl⟩ trivial rfl) ?_);have eK:wU p ns st=gU p ns st (nG (ns.getD st 0)) (oI (ns.getD st 0)):=rfl;rw[eK];generalize ns.getD st 0=c;have hf:=vY c;obtain⟨m1,m2⟩:=yH c;have eF:(([1,1,3]:List Int).map D.int)[(mxS c 10%3).toNat]? =some (.int (nG c)):=aDd (show(mxS c 10%3).toNat<([1,1,3]:List Int).length from(kJ (mxS c 10) (n:=3) (by decide)).1);refine aJ (cR (d:=.int (nG c)) 4 nd rfl (Or.inl rfl) (sR (i:=mxS c 10%3) (ds:=([1,1,3]:List Int).map D.int) (PEd.bor (PEd.val (iY (ds:=[.int 1,.int 1,.int 3]) (aD bE (aD bE (aD bE aR))) (aK rfl)))) (dM gP (mx 3 c 10 (by decide) rfl (pv 3)) bE (by decide)) (kJ (mxS c 10) (n:=3) (by decide)).2 eF λ_ _=>rfl) ?_);refine aJ (cR (d:=.int ((oI c:Nat):Int)) 5 nd rfl (Or.inl rfl) (PEd.ic (gA gY (gA gY bE (dM gP (mx 3 c 11 (by decide) rfl (pv 3)) bE (by decide))) (aJE rfl zint (aHx (dM gP (mx 3 c 12 (by decide) rfl (pv 3)) bE (by decide)) bE))) ?_) ?_)
 ·have h0:=(kJ (mxS c 11) (n:=4) (by decide)).2;have h0:0<=mxS c 11%4:=h0;unfold oI
  by_cases h:mxS c 12%8=1
  ·rw[if_pos h,if_pos (decide_eq_true h)];omega
  ·rw[if_neg h,if_neg (by simpa using h)];omega
 generalize nG c=fc at hf;generalize oI c=mn at m1 m2;refine aJ (gC (ds:=([]:List SK).map skD) 6 nd rfl (Or.inl rfl) (iY (ds:=[]) aR (bY _)) λl3=> ?_);refine aJ (gB (ds:=iQ 0 mn) (λt sd=>sd=[.val (.scr ns),.val (.int (st:Int)),.val (cP p),.un,.val (.int fc),.un,.own l3 ((gU p ns st fc t).map skD),.un,.un,.un]) (jX (n:=mn) rfl zrange (aC 5 rfl (pv 5)) (by omega)) ⟨[.val (.scr ns),.val (.int (st:Int)),.val (cP p),.un,.val (.int fc),.un,.own l3 ((gU p ns st fc 0).map skD),.un,.un,.un],⟨.inr rfl,.inr rfl,.inr rfl,.inl rfl,.inr rfl,.inl rfl,.inr rfl,.inr rfl,.inr rfl,.inr rfl,trivial⟩,rfl⟩ (λt d sdt hd ht=> ?_) λsdn hn=> ?_)
 ·subst ht;obtain⟨ht,rfl⟩:=jS hd;rw[uS];refine⟨[.val (.scr ns),.val (.int (st:Int)),.val (cP p),.un,.val (.int fc),.un,.own l3 ((gU p ns st fc t).map skD),.val (.int (t:Int)),.un,.un],fM 7 (bR (i:=7) nd rfl (Or.inl rfl)), ?_⟩;have ll:(gU p ns st fc t).length<=5:=cK (tL hp ns st hf t).1 (by omega);have eN:gU p ns st fc (t+1)=if vS (gU p ns st fc t) (drQ p (ns.getD (st+1+t) 0)) then gU p ns st fc t else gU p ns st fc t++[(drQ p (ns.getD (st+1+t) 0),fc*aFH (ns.getD (st+1+t) 0))]:=rfl
  rw[eN];refine aJ (cR (d:=.int (ns.getD (st+1+t) 0)) 8 nd rfl (Or.inl rfl) (bQ (ds:=[.scr ns,.int ((st+1+t:Nat):Int)]) GC hr1 rfl (aD (aC 0 rfl (pv 0)) (aD (PEd.ic (gA gY (gA gY (aC 1 rfl (pv 1)) bE) (aC 7 rfl (pv 7))) (by omega)) aR)) ⟨ns,st+1+t,rfl,by omega,rfl⟩ trivial rfl) ?_);generalize ns.getD (st+1+t) 0=x;generalize gU p ns st fc t=L at *;refine aJ (cR (d:=sqD (drQ p x)) 9 nd rfl (Or.inl rfl) (bQ (ds:=[cP p,.int x]) GD hr rfl (aD (aC 2 rfl (pv 2)) (aD (aC 8 rfl (pv 8)) aR)) ⟨p,x,hp,rfl,rfl⟩ trivial rfl) ?_);generalize drQ p x=q
  have plc:plL ((L.map skD).map uH)=true/\jP ((L.map skD).map uH)<=1:=by rw[bA];exact⟨aDp (λs:SK=>uH (skD s)) (λs=>aLj s.1) _,aBj (λs:SK=>uH (skD s)) 1 (λs=>aFs (aMJ s.1)) _⟩
  have ef:((L.map skD).filter λ_=>true).map uH=(L.map skD).map uH:=by rw[cQ.mpr (λ_ _=>rfl)]
  have es:((L.map skD).map uH).any (λz=>deq z (sqD q))=vS L q:=by unfold vS;rw[bA];rfl
  have pb:=aDy x;have eP:(([1,1,2,3]:List Int).map D.int)[(mxS x 5%4).toNat]? =some (.int (aFH x)):=aDd (show(mxS x 5%4).toNat<([1,1,2,3]:List Int).length from(kJ (mxS x 5) (n:=4) (by decide)).1);refine bB (iP (k:= !vS L q) (PTd.lend 6 rfl (aLq rfl) (PTd.cast (aGv (aC 9 rfl (pv 9)) (PEd.val (PEd.cast (jK (ds:=L.map skD) (N:=["_law_one","_law_price"]) (M:=["_law_script","_law_start","_law_size_here","_law_head","_law_factor","_law_many","_law_kit_here","_law_k","_law_cell","_law_step"]) (cap:=[none,none]) (sc:=bI aIF) (Tb:=aNW) (λ_=>true) uH (gQ (aC 6 rfl (pv 6))) (by rw[aB];omega) rfl (by decide+kernel) rfl (by decide+kernel) rfl (λcl C fp s H d hd=> ?_) (λd hd=> ?_) (λcl C fp s H d hd=>.inl ⟨rfl,rfl⟩) λcl C fp s H d hd _=> ?_) (by rw[ef]))) (aLj q) plc.1 (by have:=plc.2;show(A.deeper (Ah "_law_kit" (bI aIF) s.heap.objs.size f cdv)).units+1+_<AO;omega)) (by rw[es]))) (λh=> ?_) λh=> ?_)
  ·obtain⟨s,_,rfl⟩:=aN.mp hd;exact jA (js:=[0,1]) rfl (cN (bR (i:=0) nd3 rfl (Or.inl rfl)) (cN (bR (i:=1) nd3 rfl (Or.inl rfl)) iW)) rfl rfl
  ·obtain⟨s,_,rfl⟩:=aN.mp hd;exact⟨.inl rfl,.inl rfl,trivial⟩
  ·obtain⟨s,_,rfl⟩:=aN.mp hd;exact(aC 0 rfl (pv 0))
  ·have h':vS L q=false:=by simpa using h
   rw[h'];refine bB (qX (d:=skD (q,fc*aFH x)) 6 rfl (pv 6) (gF (ds:=[sqD q,.int (fc*aFH x)]) (aD (aC 9 rfl (pv 9)) (aD (dM kU (aC 4 rfl (pv 4)) (sR (i:=mxS x 5%4) (ds:=([1,1,2,3]:List Int).map D.int) (PEd.bor (PEd.val (iY (ds:=[.int 1,.int 1,.int 2,.int 3]) (aD bE (aD bE (aD bE (aD bE aR)))) (aK rfl)))) (dM gP (mx 8 x 5 (by decide) rfl (pv 8)) bE (by decide)) (kJ (mxS x 5) (n:=4) (by decide)).2 eP λ_ _=>rfl) (kP (cD (by omega:_<=3) (by decide)) (cD (by omega:_<=3) (by decide)))) aR)) (aK rfl)) (by rw[aB];omega) ⟨[.val (.scr ns),.val (.int (st:Int)),.val (cP p),.un,.val (.int fc),.un,.own l3 ((L++[(q,fc*aFH x)]).map skD),.un,.un,.un],⟨.inr rfl,.inr rfl,.inr rfl,.inr rfl,.inr rfl,.inr rfl,.inr ?_,.inl rfl,.inl rfl,.inl rfl,trivial⟩,rfl⟩);rw[aW];rfl
  ·have h':vS L q=true:=by simpa using h
   rw[h'];exact cO ⟨[.val (.scr ns),.val (.int (st:Int)),.val (cP p),.un,.val (.int fc),.un,.own l3 (L.map skD),.un,.un,.un],⟨.inr rfl,.inr rfl,.inr rfl,.inr rfl,.inr rfl,.inr rfl,.inr rfl,.inl rfl,.inl rfl,.inl rfl,trivial⟩,rfl⟩
 ·subst hn;rw[iJ];refine jW 6 rfl ?_;exact bB (bU (gF (ds:=[.lst ((gU p ns st fc mn).map skD),.int fc]) (aD (aC 6 rfl (pv 6)) (aD (aC 4 rfl (pv 4)) aR)) (aK rfl)) trivial rfl)
theorem aGX(F:Fun K "_law_bound" "_law_bound" aOX f fd)(zlen:mg "len"=none)(hm:mg "_law_bound"=some (.ref f)):bL P w K mg base "_law_bound" 1 3 aHG:=by
 have nd:(["_law_cell","_law_kit_here","_law_factor"]:List Str).Nodup:=by decide+kernel
 refine eQ (N:=["_law_cell","_law_kit_here","_law_factor"]) (ps:=["_law_cell","_law_kit_here","_law_factor"]) (k:=0) F ⟨rfl,rfl,rfl,nd,rfl,by decide+kernel,by decide+kernel⟩ hm (λ_ _ _ _ _ _ us hl=>match us,hl with | [_,_,_],_=>rfl) λcdv A outer s H E hr ds r hl c=> ?_
 obtain⟨c,L,fc,l1,l2,hf,rfl,rfl⟩:=c;have g0:∀n:Nat,n<5->([12,5,4,3,2]:List Int).getD n 0=((([12,5,4,3,2]:List Nat).getD n 0:Nat):Int):=by decide+kernel
 have g:∀n:Nat,n<5->(([12,5,4,3,2]:List Int).map D.int)[n]? =some (.int ((([12,5,4,3,2]:List Nat).getD n 0:Nat):Int)):=λn hn=>by rw[<-g0 n hn];exact aDd hn
 have g2:∀n:Nat,n<5->([12,5,4,3,2]:List Nat).getD n 0<=12:=by decide+kernel
 have gm:lI L.length<=12:=g2 _ (by omega);have h0:=dG c (show(lI L.length:Int)+1≠0 by omega);have h1:=cE c (show(0:Int)<(lI L.length:Int)+1 by omega);refine bB (bU (PEd.ic (gA gY (dM kU (aC 2 rfl (pv 2)) (dM gP (aC 0 rfl (pv 0)) (gA gY (sR (i:=(L.length:Int)-1) (d:=.int ((lI L.length:Nat):Int)) (ds:=([12,5,4,3,2]:List Int).map D.int) (PEd.bor (PEd.val (iY (ds:=[.int 12,.int 5,.int 4,.int 3,.int 2]) (aD bE (aD bE (aD bE (aD bE (aD bE aR))))) (aK rfl)))) (gA qU (PEd.ic (lV rfl zlen (PEd.bor (aC 1 rfl (pv 1)))) (by rw[aB])) bE) (by omega) ?_ λ_ _=>rfl) bE) (by omega)) (kP (cD (by omega:_<=3) (by decide)) (cD (by omega:_<=13) (by decide)))) (dM gP (dM xL (aC 0 rfl (pv 0)) bE ⟨by decide,by decide⟩) (aC 2 rfl (pv 2)) (by omega))) rfl) trivial rfl);have e:((L.length:Int)-1).toNat=L.length-1:=by omega
 rw[e];exact g _ (by omega)
noncomputable def aIT(e:Bk):D:=.tup [.tup (e.2.2.map bJ),enD e]
theorem aAH(row:List Nat)(k:Nat):bM (row++[k])=bM row++[.int (k:Int)]:=by unfold bM;rw[aW];rfl
theorem aGg(F:Fun K "_law_found" "_law_found" aFI f fd)(zrange:mg "range"=none)(zlen:mg "len"=none)(ztuple:mg "tuple"=none)(hm:mg "_law_found"=some (.ref f))(GF:bL P w K mg base "_law_fillings" 1 1 aDg)(GM:bL P w K mg base "_law_moves" 3 2 (aOZ P w K))(GX:bL P w K mg base "_law_mixed" 1 2 CMx):bL P w K mg base "_law_found" 4 4 aIl:=by
 have nd:(["_law_size_here","_law_kit_here","_law_bound_here","_law_cell","_law_moves_here","_law_layers","_law_known","_law_price","_law_there","_law_row","_law_table","_law_k","_law_behind","_law_found_here","_law_entry"]:List Str).Nodup:=by decide+kernel
 have nd2:(["_law_filling","_law_moves_here","_law_k"]:List Str).Nodup:=by decide+kernel
 refine eQ (N:=["_law_size_here","_law_kit_here","_law_bound_here","_law_cell","_law_moves_here","_law_layers","_law_known","_law_price","_law_there","_law_row","_law_table","_law_k","_law_behind","_law_found_here","_law_entry"]) (ps:=["_law_size_here","_law_kit_here","_law_bound_here","_law_cell"]) (k:=3) F ⟨rfl,rfl,rfl,nd,rfl,by decide+kernel,by decide+kernel⟩ hm (λ_ _ _ _ _ _ us hl=>match us,hl with | [_,_,_,_],_=>rfl) λcdv A outer s H E hr ds r hl c=> ?_
 obtain⟨p,L,c,U,b,hp,S,b40,FU,rfl,rfl⟩:=c;have hr1:=hr.mono (show 1<=3 by decide);have hu:(A.deeper (Ah "_law_found" (bI aFI) s.heap.objs.size f cdv)).units+2<AO:=by have:=hr.un;omega
 have hu1:(A.deeper (Ah "_law_found" (bI aFI) s.heap.objs.size f cdv)).units+1<AO:=by omega
 have f9:(dH p).length<=64:=lU hp;have l8:=S.le;have hpr:=S.pr;refine aJ (gC (ds:=L.map (mgD P w K p)) 4 nd rfl (Or.inr rfl) (bQ (ds:=[cP p,.lst (L.map skD)]) GM hr rfl (aD (aC 0 rfl (pv 0)) (aD (aC 1 rfl (pv 1)) aR)) ⟨p,L,hp,S,rfl,rfl⟩ trivial rfl) λl2=>jW 4 rfl ?_);refine aJ (aEO (-1) 5 nd rfl (Or.inl rfl) λl3=> ?_);refine aJ (aFd (ds:=[eD ([],dH p)]) (k:=0) 5 rfl (iY (ds:=[eD ([],dH p)]) (aD (gF (ds:=[.tup (bM []),.tup ((dH p).map bJ)]) (aD (gF (ds:=[]) aR (aK rfl)) (aD (nH rfl ztuple (PEd.bor (PEd.val (bQ (ds:=[cP p]) GF hr1 rfl (aD (aC 0 rfl (pv 0)) aR) ⟨p,hp,rfl,rfl⟩ trivial rfl)))) aR)) (aK rfl)) aR) (aK rfl)) (by decide) rfl (aK rfl) (λa ls'=> ?_) (aKf hu1 (pv 5) pe_int fW rfl));refine aJ (pE (hkN P w) 6 nd rfl (Or.inl rfl) λl4=> ?_)
 have e0:mD (λ_=>[]) 0 [eD ([],dH p)]=lyD (nJ p L (decide (c%2=1)) 0):=funext λj=>by
  show(if j=0 then[eD ([],dH p)] else[])=List.map eD (if j=0 then[(([]:List Nat),dH p)] else[])
  split<;>rfl
 rw[e0];have fQ:nA p L b c=nR c (nJ p L (decide (c%2=1)) (b+1)).1:=rfl;refine aJ (gB (ds:=iQ 0 (b+1)) (λt sd=>∃q kvs ls,q+1=(t:Int)/\kvs.length<=1+8*(nJ p L (decide (c%2=1)) t).1.length/\sd=[.val (cP p),.val (.lst (L.map skD)),.val (.int (b:Int)),.val (.int c),.val (.lst (L.map (mgD P w K p))),oLy K l3 q (lyD (nJ p L (decide (c%2=1)) t)) kvs ls,oG (hkN P w) K l4 (ksE (nJ p L (decide (c%2=1)) t).1) ((nJ p L (decide (c%2=1)) t).1.map enD),.un,.un,.un,.un,.un,.un,.un,.un]) (jX (n:=b+1) rfl zrange (PEd.ic (gA gY (aC 2 rfl (pv 2)) bE) (by omega)) (by omega)) ⟨_,Le.refl _, -1,_,_,rfl,aKO 1 _,rfl⟩ (λt d sdt hd ht=> ?_) λsdn hn=> ?_)
 ·obtain⟨q,kvs,ls,hq,hkv,rfl⟩:=ht;obtain⟨ht,rfl⟩:=jS hd;rw[uS];have oT:=S45.ok_run43 (beh:=gG p L) (t0:=dH p) hpr (decide (c%2=1)) t;have bT:S45.Bd L.length (nJ p L (decide (c%2=1)) t):=S45.run43_bd _ t;have eR:nJ p L (decide (c%2=1)) (t+1)=(S45.ordB (decide (c%2=1)) ((nJ p L (decide (c%2=1)) t).2 (t:Int))).foldl (S45.one L.length (prK L) (gG p L) (t:Int)) (nJ p L (decide (c%2=1)) t):=rfl;rw[eR];have oT:S45.Ok L.length (prK L) (gG p L) (dH p) (t:Int) (S45.ordB (decide (c%2=1)) ((nJ p L (decide (c%2=1)) t).2 (t:Int))) (nJ p L (decide (c%2=1)) t):=oT;generalize nJ p L (decide (c%2=1)) t=s0 at oT bT hkv;refine⟨[.val (cP p),.val (.lst (L.map skD)),.val (.int (b:Int)),.val (.int c),.val (.lst (L.map (mgD P w K p))),oLy K l3 q (lyD s0) kvs ls,oG (hkN P w) K l4 (ksE s0.1) (s0.1.map enD),.val (.int (t:Int)),.un,.un,.un,.un,.un,.un,.un],fM 7 (bR (i:=7) nd rfl (Or.inl rfl)), ?_⟩;refine aKu 5 rfl λls'=> ?_
  rw[hq];refine aJ (cR (d:=.lst (lyD s0 (t:Int))) 8 nd rfl (Or.inl rfl) (aGA 5 hu1 rfl (pv 5) (aC 7 rfl (pv 7)) ⟨rfl,rfl,rfl,rfl⟩) ?_);refine aFS (K:=∀Ls,S45.ordB (decide (c%2=1)) (s0.2 (t:Int))=Ls->PSd _ [.val (cP p),.val (.lst (L.map skD)),.val (.int (b:Int)),.val (.int c),.val (.lst (L.map (mgD P w K p))),oLy K l3 (t:Int) (lyD s0) kvs ls',oG (hkN P w) K l4 (ksE s0.1) (s0.1.map enD),.val (.int (t:Int)),.val (.lst (Ls.map eD)),.un,.un,.un,.un,.un,.un] _ _) (λkey=>aJ (iP (k:=decide (c%2=1)) (aEa (dM gP (aC 3 rfl (pv 3)) bE (by decide)) bE) (λh=> ?_) λh=>cO (key (s0.2 (t:Int)) (by rw[h];rfl)))) λLs hLs=> ?_
  ·refine bB (gC (ds:=(lyD s0 (t:Int)).reverse) 8 nd rfl (Or.inl rfl) (PEd.cast (aKd (ol:=none) (oh:=none) (ok:=some (-1)) (PEd.bor (aC 8 rfl (pv 8))) trivial trivial (aHU bE) (by decide)) (by rw[aFb])) λl8=>jW 8 rfl ?_);have k:=key (s0.2 (t:Int)).reverse (by rw[h];rfl);have er:((s0.2 (t:Int)).reverse).map eD=(lyD s0 (t:Int)).reverse:=by unfold lyD;rw[aKH]
   rw[er] at k;exact k
  rw[hLs] at oT ⊢;clear hLs eR e0;refine bB (gB (ds:=Ls.map eD) (λj sd=>∃kvs ls s,s=(Ls.take j).foldl (S45.one L.length (prK L) (gG p L) (t:Int)) s0/\kvs.length<=1+8*s.1.length/\sd=[.val (cP p),.val (.lst (L.map skD)),.val (.int (b:Int)),.val (.int c),.val (.lst (L.map (mgD P w K p))),oLy K l3 (t:Int) (lyD s) kvs ls,oG (hkN P w) K l4 (ksE s.1) (s.1.map enD),.val (.int (t:Int)),.val (.lst (Ls.map eD)),.un,.un,.un,.un,.un,.un]) (gQ (aC 8 rfl (pv 8))) ⟨_,Le.refl _,kvs,ls',s0,rfl,hkv,rfl⟩ (λj d sdj hd hj=> ?_) λsdn hn=> ?_)
  ·obtain⟨kvs,ls,s,es,hkv,rfl⟩:=hj;obtain⟨x,hx,rfl,ex⟩:=lZ hd
   have o:S45.Ok L.length (prK L) (gG p L) (dH p) (t:Int) (Ls.drop j) s:=by rw[es];exact S45.Ok.take hpr (by omega) j oT
   have bb:S45.Bd L.length s:=by rw[es];exact S45.fold_bd bT
   have xr:x∈Ls.drop j:=by refine aO (i:=0) ?_;rw[aHp];exact hx
   obtain⟨x1,x2,x3,_⟩:=o.ly _ x (o.sub x xr)
   have rl:x.1.length<=40:=by
    have:=S45.len_pr (pr:=prK L) x.1 λk hk=>hpr k (x2 k hk)
    omega
   have tl:x.2.length<=64:=by rw[x3];exact aEA hp S x2
   have ti:∀ws∈x.2,ws∈dH p:=λws hw=>by rw[x3] at hw;exact aGF hp S x2 ws hw
   have sl:s.1.length<=400:=aIM FU (by omega) o
   have eS:(Ls.take (j+1)).foldl (S45.one L.length (prK L) (gG p L) (t:Int)) s0=S45.one L.length (prK L) (gG p L) (t:Int) s x:=by rw[ex,jU,es];rfl
   rw[eS];clear eS ex es xr hx hd o x1 x3;obtain⟨row,tab⟩:=x;have rl:row.length<=40:=rl;have tl:tab.length<=64:=tl;have ti:∀ws∈tab,ws∈dH p:=ti;have kd:∀ {X:Cx}{sd:List Slot}{e:Expr},PEd X sd e (.val (.tup (tab.map bJ)))->PEd X sd e (.val ((hkN P w).dat (tbK tab))):=λh=>PEd.cast h (by rw[show(hkN P w).dat (tbK tab)=D.tup ((tbK tab).map tD) from rfl,aIO])
   have inj:decide (tab∈s.1.map λx=>x.2.2)=true↔tbK tab∈ksE s.1:=by
    rw[decide_eq_true_iff]
    constructor
    ·intro h;obtain⟨e,e1,e2⟩:=aN.mp h;exact aN.mpr ⟨e,e1,by rw[e2]⟩
    ·intro h;obtain⟨e,e1,e2⟩:=aN.mp h;exact aN.mpr ⟨e,e1,mV e2⟩
   refine⟨[.val (cP p),.val (.lst (L.map skD)),.val (.int (b:Int)),.val (.int c),.val (.lst (L.map (mgD P w K p))),oLy K l3 (t:Int) (lyD s) kvs ls,oG (hkN P w) K l4 (ksE s.1) (s.1.map enD),.val (.int (t:Int)),.val (.lst (Ls.map eD)),.val (.tup (bM row)),.val (.tup (tab.map bJ)),.un,.un,.un,.un],jA (ds:=[.tup (bM row),.tup (tab.map bJ)]) (js:=[9,10]) rfl (cN (bR (i:=9) nd rfl (Or.inl rfl)) (cN (bR (i:=10) nd rfl (Or.inl rfl)) iW)) rfl rfl, ?_⟩;refine bB (iP (k:= !decide (tab∈s.1.map λx=>x.2.2)) (aBD (hk:=hkN P w) (k:=tbK tab) inj hu (kd (aC 10 rfl (pv 10))) (aAp 6 rfl (pv 6))) (λh=> ?_) λh=> ?_)
   ·have n1:tab∉s.1.map λx=>x.2.2:=by simpa using h
    have nk:tbK tab∉ksE s.1:=λz=>n1 (of_decide_eq_true (inj.mpr z))
    have e1:S45.one L.length (prK L) (gG p L) (t:Int) s (row,tab)=(s.1++[((t:Int),row,tab)],S45.put (prK L) (gG p L) t row tab L.length s.2):=by unfold S45.one;rw[if_pos ⟨n1,by omega⟩]
    rw[e1];clear e1 inj h;refine aJ (pJ (hk:=hkN P w) (k:=tbK tab) (d:=enD ((t:Int),row,tab)) 6 hu rfl (pv 6) (gF (ds:=[.int (t:Int),.tup (bM row),.tup (tab.map bJ)]) (aD (aC 7 rfl (pv 7)) (aD (aC 9 rfl (pv 9)) (aD (aC 10 rfl (pv 10)) aR))) (aK rfl)) (kd (aC 10 rfl (pv 10))) nk (by rw[aB];omega) ?_)
    have ek:ksE s.1++[tbK tab]=ksE (s.1++[((t:Int),row,tab)]):=by unfold ksE;rw[aW];rfl
    have ev:s.1.map enD++[enD ((t:Int),row,tab)]=(s.1++[((t:Int),row,tab)]).map enD:=by rw[aW];rfl
    rw[ek,ev];refine bB (gB (ds:=iQ 0 L.length) (λm sd=>∃kvs' ls,kvs'.length<=kvs.length+m/\sd=[.val (cP p),.val (.lst (L.map skD)),.val (.int (b:Int)),.val (.int c),.val (.lst (L.map (mgD P w K p))),oLy K l3 (t:Int) (λj=>(S45.put (prK L) (gG p L) t row tab m s.2 j).map eD) kvs' ls,oG (hkN P w) K l4 (ksE (s.1++[((t:Int),row,tab)])) ((s.1++[((t:Int),row,tab)]).map enD),.val (.int (t:Int)),.val (.lst (Ls.map eD)),.val (.tup (bM row)),.val (.tup (tab.map bJ)),.un,.un,.un,.un]) (jX (n:=L.length) rfl zrange (PEd.ic (lV rfl zlen (PEd.bor (aC 1 rfl (pv 1)))) (by rw[aB])) (by omega)) ⟨_,Le.refl _,kvs,ls,aM _,rfl⟩ (λm d sdm hd hm=> ?_) λsdn hn=> ?_)
    ·obtain⟨kvs',ls,hk',rfl⟩:=hm;obtain⟨ml,rfl⟩:=jS hd;rw[uS];have pl1:=S45.put_len (pr:=prK L) (beh:=gG p L) (t:Int) row tab s.2 m;have b1:=bb ((t:Int)+prK L m);have b2:L.length*s.1.length<=8*s.1.length:=rE _ l8;have p1:=pl1 ((t:Int)+prK L m);have gm:=hpr m ml;have sk1:(L.map skD)[m]? =some (skD (L.getD m AN)):=aHH ml
     have mv1:(L.map (mgD P w K p))[m]? =some (mgD P w K p (L.getD m AN)):=by rw[aQ];simp[cA,ml]
     have eB:gG p L m tab=tab.map (onQ p (L.getD m AN).1):=rfl;have eP:prK L m=(L.getD m AN).2:=rfl
     have eU:(λj=>(S45.put (prK L) (gG p L) t row tab (m+1) s.2 j).map eD)=mD (λj=>(S45.put (prK L) (gG p L) t row tab m s.2 j).map eD) ((t:Int)+prK L m) ((S45.put (prK L) (gG p L) t row tab m s.2 ((t:Int)+prK L m)).map eD++[eD (row++[m],gG p L m tab)]):=funext λj=>by
      show(if j=(t:Int)+prK L m then S45.put (prK L) (gG p L) t row tab m s.2 j++[(row++[m],gG p L m tab)] else S45.put (prK L) (gG p L) t row tab m s.2 j).map eD=if j=(t:Int)+prK L m then _ else _
      split
      ·next z=>rw[z,aW];rfl
      ·rfl
     rw[eU];generalize S45.put (prK L) (gG p L) t row tab m s.2=ly at p1;generalize L.getD m AN=sk at sk1 mv1 eB eP;rw[eB];refine⟨[.val (cP p),.val (.lst (L.map skD)),.val (.int (b:Int)),.val (.int c),.val (.lst (L.map (mgD P w K p))),oLy K l3 (t:Int) (λj=>(ly j).map eD) kvs' ls,oG (hkN P w) K l4 (ksE (s.1++[((t:Int),row,tab)])) ((s.1++[((t:Int),row,tab)]).map enD),.val (.int (t:Int)),.val (.lst (Ls.map eD)),.val (.tup (bM row)),.val (.tup (tab.map bJ)),.val (.int (m:Int)),.un,.un,.un],fM 11 (bR (i:=11) nd rfl (Or.inr rfl)), ?_⟩
     have ec:((tab.map bJ).filter λ_=>true).map (λd=>bJ (onQ p sk.1 (qQ d)))=(tab.map (onQ p sk.1)).map bJ:=by
      rw[cQ.mpr (λ_ _=>rfl),bA,bA];refine bZ λws _=> ?_
      show bJ (onQ p sk.1 (qQ (bJ ws)))=_;rw[oF];rfl
     refine aJ (cR (d:=.tup ((tab.map (onQ p sk.1)).map bJ)) 12 nd rfl (Or.inl rfl) (nH rfl ztuple (PEd.bor (PEd.val (PEd.cast (jK (ds:=tab.map bJ) (N:=["_law_filling","_law_moves_here","_law_k"]) (M:=["_law_size_here","_law_kit_here","_law_bound_here","_law_cell","_law_moves_here","_law_layers","_law_known","_law_price","_law_there","_law_row","_law_table","_law_k","_law_behind","_law_found_here","_law_entry"]) (cap:=[none,some 4,some 11]) (sc:=bI aFI) (Tb:=λd=>[.val d,.val (.lst (L.map (mgD P w K p))),.val (.int (m:Int))]) (λ_=>true) (λd=>bJ (onQ p sk.1 (qQ d))) (oN (aC 10 rfl (pv 10))) (by rw[aB];omega) rfl (by decide+kernel) rfl (by decide+kernel) rfl (λcl C fp s H d hd=>fM 0 (bR (i:=0) nd2 rfl (Or.inl rfl))) (λd hd=>⟨.inl rfl,.inr rfl,.inr rfl,trivial⟩) (λcl C fp s H d hd=>.inl ⟨rfl,rfl⟩) λcl C2 fp s H d hd _=> ?_) (by rw[ec]))))) ?_)
     ·obtain⟨ws,hw,rfl⟩:=aBI hd;obtain⟨i,hi⟩:=cW (ti ws hw);rw[oF];exact aAm (hk:=hkT P w) (k:=inK ws) (n:=i) (d:=bJ (onQ p sk.1 ws)) hu (sI (qV (n:=m) (PEd.bor (aC 1 rfl (pv 1))) (aC 2 rfl (pv 2)) mv1 λ_ _=>rfl)) (PEd.cast (aC 0 rfl (pv 0)) (by rw[show(hkT P w).dat (inK ws)=tD (inK ws) from rfl,aIG])) (by rw[aQ,hi];rfl) (by rw[aQ,hi];rfl) λ_ _=>rfl
     refine bB (aEY (k:=(t:Int)+prK L m) (d:=eD (row++[m],tab.map (onQ p sk.1))) 5 rfl (pv 5) (gA gY (aC 7 rfl (pv 7)) (PEd.ic (eX (n:=1) (ds:=[sqD sk.1,.int sk.2]) (d:=.int sk.2) (qV (n:=m) (PEd.bor (aC 1 rfl (pv 1))) (aC 11 rfl (pv 11)) sk1 λ_ _=>rfl) bE rfl λ_ _=>rfl) eP.symm)) (λz=>gF (ds:=[.tup (bM (row++[m])),.tup ((tab.map (onQ p sk.1)).map bJ)]) (aD (PEd.cast (mU (aC 9 rfl (pv 9)) (gF (ds:=[.int (m:Int)]) (aD (aC 11 rfl (pv 11)) aR) (aK rfl)) ?_) (by rw[aAH])) (aD (aC 12 rfl (pv 12)) aR)) (aK rfl)) (by omega) (by omega) ?_ λkvs2 ls2 hk2=> ?_)
     ·unfold bM;rw[aB];show row.length+1<=1000;omega
     ·show((ly ((t:Int)+prK L m)).map eD).length<=100000;rw[aB];omega
     ·exact⟨[.val (cP p),.val (.lst (L.map skD)),.val (.int (b:Int)),.val (.int c),.val (.lst (L.map (mgD P w K p))),oLy K l3 (t:Int) (mD (λj=>(ly j).map eD) ((t:Int)+prK L m) ((ly ((t:Int)+prK L m)).map eD++[eD (row++[m],tab.map (onQ p sk.1))])) kvs2 ls2,oG (hkN P w) K l4 (ksE (s.1++[((t:Int),row,tab)])) ((s.1++[((t:Int),row,tab)]).map enD),.val (.int (t:Int)),.val (.lst (Ls.map eD)),.val (.tup (bM row)),.val (.tup (tab.map bJ)),.un,.un,.un,.un],⟨.inr rfl,.inr rfl,.inr rfl,.inr rfl,.inr rfl,.inr rfl,.inr rfl,.inr rfl,.inr rfl,.inr rfl,.inr rfl,.inl rfl,.inl rfl,.inr rfl,.inr rfl,trivial⟩,kvs2,ls2,by omega,rfl⟩
    ·obtain⟨kvs',ls,hk',rfl⟩:=hn;rw[iJ] at hk' ⊢;exact⟨[.val (cP p),.val (.lst (L.map skD)),.val (.int (b:Int)),.val (.int c),.val (.lst (L.map (mgD P w K p))),oLy K l3 (t:Int) (lyD (s.1++[((t:Int),row,tab)],S45.put (prK L) (gG p L) t row tab L.length s.2)) kvs' ls,oG (hkN P w) K l4 (ksE (s.1++[((t:Int),row,tab)])) ((s.1++[((t:Int),row,tab)]).map enD),.val (.int (t:Int)),.val (.lst (Ls.map eD)),.un,.un,.un,.un,.un,.un],⟨.inr rfl,.inr rfl,.inr rfl,.inr rfl,.inr rfl,.inr rfl,.inr rfl,.inr rfl,.inr rfl,.inl rfl,.inl rfl,.inr rfl,.inr rfl,.inr rfl,.inr rfl,trivial⟩,kvs',ls,_,rfl,by show _<=1+8*(s.1++[_]).length;rw[aP];show _<=1+8*(s.1.length+1);omega,rfl⟩
   ·have e1:S45.one L.length (prK L) (gG p L) (t:Int) s (row,tab)=s:=by
     unfold S45.one;refine if_neg λz=> ?_
     rw[decide_eq_false z.1] at h;cases h
    rw[e1];exact cO ⟨[.val (cP p),.val (.lst (L.map skD)),.val (.int (b:Int)),.val (.int c),.val (.lst (L.map (mgD P w K p))),oLy K l3 (t:Int) (lyD s) kvs ls,oG (hkN P w) K l4 (ksE s.1) (s.1.map enD),.val (.int (t:Int)),.val (.lst (Ls.map eD)),.un,.un,.un,.un,.un,.un],⟨.inr rfl,.inr rfl,.inr rfl,.inr rfl,.inr rfl,.inr rfl,.inr rfl,.inr rfl,.inr rfl,.inl rfl,.inl rfl,.inr rfl,.inr rfl,.inr rfl,.inr rfl,trivial⟩,kvs,ls,s,rfl,hkv,rfl⟩
  ·obtain⟨kvs,ls,s,es,hkv,rfl⟩:=hn;rw[aB,cZ] at es;subst es;exact⟨[.val (cP p),.val (.lst (L.map skD)),.val (.int (b:Int)),.val (.int c),.val (.lst (L.map (mgD P w K p))),oLy K l3 (t:Int) (lyD (Ls.foldl (S45.one L.length (prK L) (gG p L) (t:Int)) s0)) kvs ls,oG (hkN P w) K l4 (ksE (Ls.foldl (S45.one L.length (prK L) (gG p L) (t:Int)) s0).1) ((Ls.foldl (S45.one L.length (prK L) (gG p L) (t:Int)) s0).1.map enD),.un,.un,.un,.un,.un,.un,.un,.un],⟨.inr rfl,.inr rfl,.inr rfl,.inr rfl,.inr rfl,.inr rfl,.inr rfl,.inl rfl,.inl rfl,.inr rfl,.inr rfl,.inr rfl,.inr rfl,.inr rfl,.inr rfl,trivial⟩,(t:Int),kvs,ls,by omega,hkv,rfl⟩
 ·obtain⟨q,kvs,ls,hq,hkv,rfl⟩:=hn;rw[iJ,fQ];have sl:=aIM FU (kY _) (S45.Ok.fold S.pr (iF b) (S45.ok_run43 (beh:=gG p L) (t0:=dH p) S.pr (decide (c%2=1)) b));have sl:(nJ p L (decide (c%2=1)) (b+1)).1.length<=400:=sl;generalize (nJ p L (decide (c%2=1)) (b+1)).1=B at sl;refine rP 6 rfl ?_;refine aJ (gC (ds:=(nR c []).map enD) 13 nd rfl (Or.inl rfl) (iY (ds:=[]) aR (aK rfl)) λl13=> ?_)
  have ei:(((ksE B).zip (B.map enD)).map λp=>D.tup [(hkN P w).dat p.1,p.2])=B.map aIT:=by
   unfold ksE;rw[List.zip_map',bA];refine bZ λe _=> ?_
   show D.tup [(hkN P w).dat (tbK e.2.2),enD e]=D.tup [.tup (e.2.2.map bJ),enD e];rw[show(hkN P w).dat (tbK e.2.2)=D.tup ((tbK e.2.2).map tD) from rfl,aIO]
  refine zW (sd':=[.val (cP p),.val (.lst (L.map skD)),.val (.int (b:Int)),.val (.int c),.val (.lst (L.map (mgD P w K p))),.un,.val (gD (hkN P w) K (ksE B) (B.map enD)),.un,.un,.un,.un,.un,.un,.own l13 ((nR c []).map enD),.un]) ⟨.inr rfl,.inr rfl,.inr rfl,.inr rfl,.inr rfl,.inl rfl,.inr rfl,.inr rfl,.inr rfl,.inr rfl,.inr rfl,.inr rfl,.inr rfl,.inr rfl,.inr rfl,trivial⟩ ?_
  have hit:∀ {elts:List Expr}{kk:Nat}{tp p1 ap cp:Pos},(ap.endLine==cp.line)=true->PId (nO CX0 P w K mg base ["_law_size_here","_law_kit_here","_law_bound_here","_law_cell","_law_moves_here","_law_layers","_law_known","_law_price","_law_there","_law_row","_law_table","_law_k","_law_behind","_law_found_here","_law_entry"] "_law_found" (bI aFI) f cdv A outer s H E).nox [.val (cP p),.val (.lst (L.map skD)),.val (.int (b:Int)),.val (.int c),.val (.lst (L.map (mgD P w K p))),.un,.val (gD (hkN P w) K (ksE B) (B.map enD)),.un,.un,.un,.un,.un,.un,.own l13 ((nR c []).map enD),.un] PT0 (.Tuple elts kk tp) (.Call (.Attribute (.Name "_law_known" p1) "items" ap) [] [] cp) (B.map aIT):=λ{_ _ _ p1 _ _} hl=>by rw[<-ei];have v4:PEd (nO CX0 P w K mg base ["_law_size_here","_law_kit_here","_law_bound_here","_law_cell","_law_moves_here","_law_layers","_law_known","_law_price","_law_there","_law_row","_law_table","_law_k","_law_behind","_law_found_here","_law_entry"] "_law_found" (bI aFI) f cdv A outer s H E).nox [.val (cP p),.val (.lst (L.map skD)),.val (.int (b:Int)),.val (.int c),.val (.lst (L.map (mgD P w K p))),.un,.val (gD (hkN P w) K (ksE B) (B.map enD)),.un,.un,.un,.un,.un,.un,.own l13 ((nR c []).map enD),.un] (.Name "_law_known" p1) (.val (gD (hkN P w) K (ksE B) (B.map enD))):=(aC 6 rfl (pv 6));exact aCj (X:=(nO CX0 P w K mg base ["_law_size_here","_law_kit_here","_law_bound_here","_law_cell","_law_moves_here","_law_layers","_law_known","_law_price","_law_there","_law_row","_law_table","_law_k","_law_behind","_law_found_here","_law_entry"] "_law_found" (bI aFI) f cdv A outer s H E).nox) (hk:=hkN P w) v4 rfl hl
  refine aJ (gB (ds:=B.map aIT) (λt sd=>sd=[.val (cP p),.val (.lst (L.map skD)),.val (.int (b:Int)),.val (.int c),.val (.lst (L.map (mgD P w K p))),.un,.val (gD (hkN P w) K (ksE B) (B.map enD)),.un,.un,.un,.un,.un,.un,.own l13 ((nR c (B.take t)).map enD),.un]) (hit rfl) ⟨_,Le.refl _,rfl⟩ (λt d sdt hd ht=> ?_) λsdn hn=> ?_)
  ·subst ht;obtain⟨e,he,rfl,et⟩:=lZ hd;rw[et,aBX];have ll:(nR c (B.take t)).length<=400:=by rw[(xS c (B.take t)).length_eq,bX];omega
   have eI:∀A:List Bk,vU c A e=A.take (mxS c A.length%((A.length:Int)+1)).toNat++e::A.drop (mxS c A.length%((A.length:Int)+1)).toNat:=λ_=>rfl
   rw[eI];generalize nR c (B.take t)=Bs at ll;have k0:=dG (mxS c Bs.length) (show((Bs.length:Int)+1)≠0 by omega);have k1:=cE (mxS c Bs.length) (show(0:Int)<(Bs.length:Int)+1 by omega);refine⟨[.val (cP p),.val (.lst (L.map skD)),.val (.int (b:Int)),.val (.int c),.val (.lst (L.map (mgD P w K p))),.un,.val (gD (hkN P w) K (ksE B) (B.map enD)),.un,.un,.un,.val (.tup (e.2.2.map bJ)),.un,.un,.own l13 (Bs.map enD),.val (enD e)],jA (ds:=[.tup (e.2.2.map bJ),enD e]) (js:=[10,14]) rfl (cN (bR (i:=10) nd rfl (Or.inl rfl)) (cN (bR (i:=14) nd rfl (Or.inl rfl)) iW)) rfl rfl, ?_⟩;have bl:∀ {sd:List Slot}{p1 p2 p3:Pos},sd[13]? =some (.own l13 (Bs.map enD))->PEd (nO CX0 P w K mg base ["_law_size_here","_law_kit_here","_law_bound_here","_law_cell","_law_moves_here","_law_layers","_law_known","_law_price","_law_there","_law_row","_law_table","_law_k","_law_behind","_law_found_here","_law_entry"] "_law_found" (bI aFI) f cdv A outer s H E).nox sd (.Call (.Name "len" p1) [.Name "_law_found_here" p2] [] p3) (.val (.int (Bs.length:Int))):=λh=>PEd.ic (lV rfl zlen (aEd 13 h (pv 13))) (by rw[aB])
   refine bB (aBB (ds:=Bs.map enD) (d:=enD e) 13 (mxS c Bs.length%((Bs.length:Int)+1)).toNat rfl (PEd.ic (dM gP (bQ (ds:=[.int c,.int ((Bs.length:Nat):Int)]) GX hr1 rfl (aD (aC 3 rfl (pv 3)) (aD (bl rfl) aR)) ⟨c,Bs.length,rfl,by omega,rfl⟩ trivial rfl) (gA gY (bl rfl) bE) (by omega)) (by omega)) (aC 14 rfl (pv 14)) (by rw[aB];omega) (by rw[aB];omega) ⟨[.val (cP p),.val (.lst (L.map skD)),.val (.int (b:Int)),.val (.int c),.val (.lst (L.map (mgD P w K p))),.un,.val (gD (hkN P w) K (ksE B) (B.map enD)),.un,.un,.un,.un,.un,.un,.own l13 ((Bs.take (mxS c Bs.length%((Bs.length:Int)+1)).toNat++e::Bs.drop (mxS c Bs.length%((Bs.length:Int)+1)).toNat).map enD),.un],⟨.inr rfl,.inr rfl,.inr rfl,.inr rfl,.inr rfl,.inr rfl,.inr rfl,.inr rfl,.inr rfl,.inr rfl,.inl rfl,.inr rfl,.inr rfl,.inr ?_,.inl rfl,trivial⟩,rfl⟩);rw[aW,bC,iO,lN]
  ·subst hn;rw[aB,cZ];exact bB (nL 13 rfl (pv 13) rfl)
theorem aKC(F:Fun K "_law_prices" "_law_prices" aNn f fd)(zsorted:mg "sorted"=none)(hm:mg "_law_prices"=some (.ref f)):bL P w K mg base "_law_prices" 1 1 aHY:=by
 have nd:(["_law_book"]:List Str).Nodup:=by decide+kernel
 have nd2:(["_law_price","_law_row","_law_table"]:List Str).Nodup:=by decide+kernel
 refine eQ (N:=["_law_book"]) (ps:=["_law_book"]) (k:=0) F ⟨rfl,rfl,rfl,nd,rfl,by decide+kernel,by decide+kernel⟩ hm (λ_ _ _ _ _ _ us hl=>match us,hl with | [_],_=>rfl) λcdv A outer s H E hr ds r hl c=> ?_
 obtain⟨B,b7,bd,rfl,rfl⟩:=c;have hu:(A.deeper (Ah "_law_prices" (bI aNn) s.heap.objs.size f cdv)).units+8<AO:=by have:=hr.un;omega
 have ec:((B.map enD).filter λ_=>true).map (λd=>.tup [atD d 2,atD d 0])=(tpB B).map (srE hdT snT):=by rw[cQ.mpr (λ_ _=>rfl),bA];unfold tpB;rw[bA];rfl
 refine bB (bU (aGy (ps:=tpB B) (qs:=aFF (tpB B)) (rk:=rkT (tpB B)) rfl zsorted (PEd.bor (PEd.val (PEd.cast (jK (ds:=B.map enD) (N:=["_law_price","_law_row","_law_table"]) (M:=["_law_book"]) (cap:=[none,none,none]) (sc:=bI aNn) (Tb:=λd=>[.val (atD d 0),.val (atD d 1),.val (atD d 2)]) (λ_=>true) (λd=>.tup [atD d 2,atD d 0]) (gQ (aC 0 rfl (pv 0))) (by rw[aB];omega) rfl (by decide+kernel) rfl (by decide+kernel) rfl (λcl C fp s H d hd=> ?_) (λd hd=>⟨.inl rfl,.inl rfl,.inl rfl,trivial⟩) (λcl C fp s H d hd=>.inl ⟨rfl,rfl⟩) λcl C2 fp s H d hd _=> ?_) (by rw[ec])))) (aJo (aBf bd) (by unfold tpB;rw[aB];omega) hu) (nT _) ?_) trivial rfl)
 ·obtain⟨e,he,rfl⟩:=aN.mp hd;exact jA (ds:=[.int e.1,.tup (bM e.2.1),.tup (e.2.2.map bJ)]) (js:=[0,1,2]) rfl (cN (bR (i:=0) nd2 rfl (Or.inl rfl)) (cN (bR (i:=1) nd2 rfl (Or.inl rfl)) (cN (bR (i:=2) nd2 rfl (Or.inl rfl)) iW))) rfl rfl
 ·exact gF (ds:=[atD d 2,atD d 0]) (aD (aC 2 rfl (pv 2)) (aD (aC 0 rfl (pv 0)) aR)) (aK rfl)
 ·rw[dQ];exact List.Pairwise.imp_of_mem (λ{a b} ha _ h=>vM ((nT _).mem_iff.mp ha) h) (aAo (aBf bd))
theorem aMR(F:Fun K "law" "law" uP f fd)(zlen:mg "len"=none)(zrange:mg "range"=none)(GC:bL P w K mg base "_law_cell_at" 1 2 aIP)(GX:bL P w K mg base "_law_mixed" 1 2 CMx)(GZ:bL P w K mg base "_law_size" 2 1 aLo)(GK:bL P w K mg base "_law_kit" 3 3 aHF)(GB:bL P w K mg base "_law_bound" 1 3 aHG)(GF:bL P w K mg base "_law_found" 4 4 aIl)(GO:bL P w K mg base "book_of" 6 3 aLr)(GH:bL P w K mg base "holds" 6 4 aHW)(GP:bL P w K mg base "_law_prices" 1 1 aHY):FnOk P w K mg base CX0 7 f fd ["_law_script"] (spC K 1 aNo):=by
 have nd:(["_law_script","_law_size_here","_law_kit_here","_law_factor","_law_bound_here","_law_own","_law_book","_law_less","_law_turned","_law_k","_law_known","_law_price","_law_row","_law_table"]:List Str).Nodup:=by decide+kernel
 have nd2:(["_law_entry","_law_less"]:List Str).Nodup:=by decide+kernel
 refine aIp (N:=["_law_script","_law_size_here","_law_kit_here","_law_factor","_law_bound_here","_law_own","_law_book","_law_less","_law_turned","_law_k","_law_known","_law_price","_law_row","_law_table"]) (ps:=["_law_script"]) (k:=6) F ⟨rfl,rfl,rfl,nd,rfl,by decide+kernel,by decide+kernel⟩ λcdv A outer s H E hr ds r hl c=> ?_
 obtain⟨ns,rfl,n63,rfl⟩:=c;have hr1:=hr.mono (show 1<=6 by decide);have hr2:=hr.mono (show 2<=6 by decide);have hr3:=hr.mono (show 3<=6 by decide);have hr4:=hr.mono (show 4<=6 by decide);have hu:(A.deeper (Ah "law" (bI uP) s.heap.objs.size f cdv)).units+6<AO:=by have:=hr.un;omega
 have hu2:(A.deeper (Ah "law" (bI uP) s.heap.objs.size f cdv)).units+2<AO:=by omega
 have cell:∀ {sd:List Slot}{p1 p2 p3 p4:Pos}{j1:Nat} (k:Nat),k<=1000->sd[0]? =some (.val (.scr ns))->PEd (nO CX0 P w K mg base ["_law_script","_law_size_here","_law_kit_here","_law_factor","_law_bound_here","_law_own","_law_book","_law_less","_law_turned","_law_k","_law_known","_law_price","_law_row","_law_table"] "law" (bI uP) f cdv A outer s H E).nox sd (.Call (.Name "_law_cell_at" p1) [.Name "_law_script" p2, .Constant (.int (k:Int)) j1 p3] [] p4) (.val (.int (ns.getD k 0))):=λk hk hs=>bQ (ds:=[.scr ns,.int (k:Int)]) GC hr1 rfl (aD (aC 0 hs (pv 0)) (aD bE aR)) ⟨ns,k,rfl,hk,rfl⟩ trivial rfl
 refine aJ (cR (d:=cP (aFM (ns.getD 0 0))) 1 nd rfl (Or.inl rfl) (bQ (ds:=[.int (ns.getD 0 0)]) GZ hr2 rfl (aD (cell 0 (by decide) rfl) aR) ⟨_,rfl,rfl⟩ trivial rfl) ?_);have hp:=aJW (ns.getD 0 0);generalize aFM (ns.getD 0 0)=p at hp;have KO:=aGm hp ns 2;refine aJ (aJY (d:=.tup [.lst ((wU p ns 2).map skD),.int (nG (ns.getD 2 0))]) (sd':=[.val (.scr ns),.val (cP p),.val (.lst ((wU p ns 2).map skD)),.val (.int (nG (ns.getD 2 0))),.un,.un,.un,.un,.un,.un,.un,.un,.un,.un]) (bQ (ds:=[.scr ns,.int ((2:Nat):Int),cP p]) GK hr3 rfl (aD (aC 0 rfl (pv 0)) (aD bE (aD (aC 1 rfl (pv 1)) aR))) ⟨p,ns,2,hp,by decide,rfl,rfl⟩ trivial rfl) (jA (ds:=[.lst ((wU p ns 2).map skD),.int (nG (ns.getD 2 0))]) (js:=[2,3]) rfl (cN (bR (i:=2) nd rfl (Or.inl rfl)) (cN (bR (i:=3) nd rfl (Or.inl rfl)) iW)) rfl rfl) ?_);generalize wU p ns 2=L at KO;generalize nG (ns.getD 2 0)=fc at KO;have S:=KO.stk;have l5:=KO.le;obtain⟨b0,b1⟩:=aFZ (ns.getD 1 0) L.length KO.f13;refine aJ (cR (d:=.int (yP (ns.getD 1 0) L.length fc)) 4 nd rfl (Or.inl rfl) (bQ (ds:=[.int (ns.getD 1 0),.lst (L.map skD),.int fc]) GB hr1 rfl (aD (cell 1 (by decide) rfl) (aD (aC 2 rfl (pv 2)) (aD (aC 3 rfl (pv 3)) aR))) ⟨_,L,fc,KO.pos,l5,KO.f13,rfl,rfl⟩ trivial rfl) ?_);generalize yP (ns.getD 1 0) L.length fc=b9 at b0 b1;obtain⟨b,rfl⟩:=Int.eq_ofNat_of_zero_le b0;have FU:=aIL KO b1
 have b40:b<=40:=by
  have g:∀n,n<6->lI n<=12:=by decide+kernel
  have:=g L.length (by omega)
  rcases KO.f13 with e|e<;>rw[e] at b1<;>omega
 have hpr:=S.pr;obtain⟨OC,HC,_,lC,_⟩:=aGL (c:=ns.getD 8 0) hp S FU;have O:=zR hp S FU;refine aJ (gC (ds:=(nA p L b (ns.getD 8 0)).map enD) 5 nd rfl (Or.inl rfl) (bQ (ds:=[cP p,.lst (L.map skD),.int (b:Int),.int (ns.getD 8 0)]) GF hr4 rfl (aD (aC 1 rfl (pv 1)) (aD (aC 2 rfl (pv 2)) (aD (aC 4 rfl (pv 4)) (aD (cell 8 (by decide) rfl) aR)))) ⟨p,L,_,_,b,hp,S,b40,FU,rfl,rfl⟩ trivial rfl) λl5=>jW 5 rfl ?_);refine aJ (gC (ds:=(bkQ p L b).map enD) 6 nd rfl (Or.inl rfl) (bQ (ds:=[cP p,.lst (L.map skD),.int (b:Int)]) GO hr rfl (aD (aC 1 rfl (pv 1)) (aD (aC 2 rfl (pv 2)) (aD (aC 4 rfl (pv 4)) aR))) ⟨p,L,b,_,hp,S,KO.nd,FU,rfl,rfl⟩ trivial rfl) λl6=>jW 6 rfl ?_);generalize nA p L b (ns.getD 8 0)=C at OC HC lC;generalize bkQ p L b=B at O;have OB:=O.bk;have bl:=O.len;have tC:=aLg hp S OC HC;have tB:=aLg hp S OB (O.hp hpr (iF b));have e1:=aBJ O.nd (aGs hpr O OC HC);obtain⟨pB,dB⟩:=aMF B;have rB:kA (kT B) (kT B)=true:=nI _ pB;have qn:(0:Int)<=(b:Int):=iF b;refine aJ (fR (k:=false) (PWd.pt (pH (k:=false) (j:=false) (PTd.cast (wP (p:=aKQ p L b C) (q:=true) (bQ (ds:=[cP p,.lst (L.map skD),.int (b:Int),.lst (C.map enD)]) (r:=.val (.bl (aKQ p L b C))) GH hr rfl (aD (aC 1 rfl (pv 1)) (aD (aC 2 rfl (pv 2)) (aD (aC 4 rfl (pv 4)) (aD (aC 5 rfl (pv 5)) aR)))) ⟨p,L,b,C,hp,S,KO.nd,OC,qn,rfl,rfl⟩ trivial rfl) vT) (by rw[tC];rfl)) λ_=>pX (PTd.cast (wP (p:=aKQ p L b B) (q:=true) (bQ (ds:=[cP p,.lst (L.map skD),.int (b:Int),.lst (B.map enD)]) (r:=.val (.bl (aKQ p L b B))) GH hr rfl (aD (aC 1 rfl (pv 1)) (aD (aC 2 rfl (pv 2)) (aD (aC 4 rfl (pv 4)) (aD (aC 6 rfl (pv 6)) aR)))) ⟨p,L,b,B,hp,S,KO.nd,OB,qn,rfl,rfl⟩ trivial rfl) vT) (by rw[tB];rfl)))) rfl (cO ?_));refine aJ (fR (k:=false) (PTd.cast (uY (ra:=.val (.lst (kT C))) (rb:=.val (.lst (kT B))) (PEd.val (bQ (ds:=[.lst (C.map enD)]) GP hr1 rfl (aD (aC 5 rfl (pv 5)) aR) ⟨C,by omega,OC.nd,rfl,rfl⟩ trivial rfl)) (PEd.val (bQ (ds:=[.lst (B.map enD)]) GP hr1 rfl (aD (aC 6 rfl (pv 6)) aR) ⟨B,by omega,O.nd,rfl,rfl⟩ trivial rfl)) trivial trivial (.inr ⟨rfl,rfl⟩) (by rw[e1];exact pB) pB (aCG hu (by rw[e1];show jP (kT B)+1+1<=6;omega))) (by rw[e1];show(!kA (kT B) (kT B))=false;rw[rB];rfl)) rfl (cO ?_));have q0:=dG (ns.getD 9 0) (show(b:Int)+1≠0 by omega);have q1:=cE (ns.getD 9 0) (show(0:Int)<(b:Int)+1 by omega);refine aJ (cR (d:=.int (ns.getD 9 0%((b:Int)+1))) 7 nd rfl (Or.inr rfl) (dM gP (cell 9 (by decide) rfl) (gA gY (aC 4 rfl (pv 4)) bE) (by omega)) ?_);generalize ns.getD 9 0%((b:Int)+1)=q at q0 q1;have Oq:=zR (p:=p) hp S (FU.less (show q<=(b:Int) by omega));have e2:=aKe O Oq (by omega);have ec:((B.map enD).filter (aNw q)).map id=(bkQ p L q).map enD:=by rw[e2];exact aKg B q
 obtain⟨pq,dq⟩:=aNa (bkQ p L q);refine aJ (fR (k:=false) (PTd.cast (uY (ra:=.val (.lst ((bkQ p L q).map enD))) (rb:=.val (.lst ((bkQ p L q).map enD))) (PEd.val (bQ (ds:=[cP p,.lst (L.map skD),.int q]) GO hr rfl (aD (aC 1 rfl (pv 1)) (aD (aC 2 rfl (pv 2)) (aD (aC 7 rfl (pv 7)) aR))) ⟨p,L,q,_,hp,S,KO.nd,FU.less (show q<=(b:Int) by omega),rfl,rfl⟩ trivial rfl)) (PEd.val (PEd.cast (jK (ds:=B.map enD) (N:=["_law_entry","_law_less"]) (M:=["_law_script","_law_size_here","_law_kit_here","_law_factor","_law_bound_here","_law_own","_law_book","_law_less","_law_turned","_law_k","_law_known","_law_price","_law_row","_law_table"]) (cap:=[none,some 7]) (sc:=bI uP) (Tb:=λd=>[.val d,.val (.int q)]) (aNw q) id (gQ (aC 6 rfl (pv 6))) (by rw[aB];omega) rfl (by decide+kernel) rfl (by decide+kernel) rfl (λcl C fp s H d _=>fM 0 (bR (i:=0) nd2 rfl (Or.inl rfl))) (λd _=>⟨.inl rfl,.inr rfl,trivial⟩) (λcl C fp s H d hd=>.inr ⟨_,rfl, ?_⟩) λcl C fp s H d hd _=>(aC 0 rfl (pv 0))) (by rw[ec]))) trivial trivial (.inr ⟨rfl,rfl⟩) pq pq (aCG hu (by show jP ((bkQ p L q).map enD)+1+1<=6;omega))) (by show(!kA _ _)=false;rw[nI _ pq];rfl)) rfl (cO ?_))
 ·obtain⟨x,_,rfl⟩:=aN.mp hd;exact oU (g:=λi j=>decide (i<=j)) yI (eX (n:=0) (ds:=[.int x.1,.tup (bM x.2.1),.tup (x.2.2.map bJ)]) (aC 0 rfl (pv 0)) bE rfl λ_ _=>rfl) (aC 1 rfl (pv 1)) (jI _)
 have lp:=KO.pos;refine aJ (gC (ds:=([]:List D)) 8 nd rfl (Or.inl rfl) (iY (ds:=[]) aR (bY _)) λl8=> ?_);refine aJ (gB (ds:=iQ 0 L.length) (λt sd=>sd=[.val (.scr ns),.val (cP p),.val (.lst (L.map skD)),.val (.int fc),.val (.int (b:Int)),.val (.lst (C.map enD)),.val (.lst (B.map enD)),.val (.int q),.own l8 ((lX (ns.getD 8 0) L t).map skD),.un,.un,.un,.un,.un]) (jX (n:=L.length) rfl zrange (PEd.ic (lV rfl zlen (PEd.bor (aC 2 rfl (pv 2)))) (by rw[aB])) (by omega)) ⟨_,Le.refl _,rfl⟩ (λt d sdt hd ht=> ?_) λsdn hn=> ?_)
 ·subst ht;obtain⟨ht,rfl⟩:=jS hd;rw[uS]
  have lT:(lX (ns.getD 8 0) L t).length=t:=by rw[(rA (ns.getD 8 0) L t (by omega)).length_eq,bX];omega
  have m0:=dG (mxS (ns.getD 8 0) (60+t)) (show(t:Int)+1≠0 by omega);have m1:=cE (mxS (ns.getD 8 0) (60+t)) (show(0:Int)<(t:Int)+1 by omega);refine⟨[.val (.scr ns),.val (cP p),.val (.lst (L.map skD)),.val (.int fc),.val (.int (b:Int)),.val (.lst (C.map enD)),.val (.lst (B.map enD)),.val (.int q),.own l8 ((lX (ns.getD 8 0) L t).map skD),.val (.int (t:Int)),.un,.un,.un,.un],fM 9 (bR (i:=9) nd rfl (Or.inl rfl)), ?_⟩;refine bB (aBB (ds:=(lX (ns.getD 8 0) L t).map skD) (d:=skD (L.getD t AN)) 8 (mxS (ns.getD 8 0) (60+t)%((t:Int)+1)).toNat rfl (PEd.ic (dM gP (bQ (ds:=[.int (ns.getD 8 0),.int ((60+t:Nat):Int)]) GX hr1 rfl (aD (cell 8 (by decide) rfl) (aD (PEd.ic (gA gY bE (aC 9 rfl (pv 9))) (by omega)) aR)) ⟨_,60+t,rfl,by omega,rfl⟩ trivial rfl) (gA gY (aC 9 rfl (pv 9)) bE) (by omega)) (by omega)) (qV (n:=t) (PEd.bor (aC 2 rfl (pv 2))) (aC 9 rfl (pv 9)) (by rw[aQ];simp[cA,ht]) λ_ _=>rfl) (by rw[aB,lT];omega) (by rw[aB,lT];omega) ⟨[.val (.scr ns),.val (cP p),.val (.lst (L.map skD)),.val (.int fc),.val (.int (b:Int)),.val (.lst (C.map enD)),.val (.lst (B.map enD)),.val (.int q),.own l8 ((lX (ns.getD 8 0) L (t+1)).map skD),.un,.un,.un,.un,.un],⟨.inr rfl,.inr rfl,.inr rfl,.inr rfl,.inr rfl,.inr rfl,.inr rfl,.inr rfl,.inr ?_,.inl rfl,.inr rfl,.inr rfl,.inr rfl,.inr rfl,trivial⟩,rfl⟩);rw[show lX (ns.getD 8 0) L (t+1)=(lX (ns.getD 8 0) L t).take (mxS (ns.getD 8 0) (60+t)%((t:Int)+1)).toNat++L.getD t AN::(lX (ns.getD 8 0) L t).drop (mxS (ns.getD 8 0) (60+t)%((t:Int)+1)).toNat from rfl,aW,bC,iO,lN]
 subst hn;refine jW 8 rfl ?_;have el:(iQ 0 L.length).length=L.length:=by simp[iQ]
 rw[el];have PT:=aEW (ns.getD 8 0) L;generalize lX (ns.getD 8 0) L L.length=L2 at PT;have K2:=KO.perm PT;have F2:=aIL K2 (b:=(b:Int)) (by rw[PT.length_eq];exact b1);have O2:=zR hp K2.stk F2;have e3:=aBJ O.nd (aJr (λs hs=>PT.mem_iff.mp hs) (λs hs=>PT.mem_iff.mpr hs) O O2);refine aJ (fR (k:=false) (PTd.cast (uY (ra:=.val (.lst (kT (bkQ p L2 b)))) (rb:=.val (.lst (kT B))) (PEd.val (bQ (ds:=[.lst ((bkQ p L2 b).map enD)]) GP hr1 rfl (aD (PEd.val (bQ (ds:=[cP p,.lst (L2.map skD),.int (b:Int)]) GO hr rfl (aD (aC 1 rfl (pv 1)) (aD (aC 8 rfl (pv 8)) (aD (aC 4 rfl (pv 4)) aR))) ⟨p,L2,b,_,hp,K2.stk,K2.nd,F2,rfl,rfl⟩ trivial rfl)) aR) ⟨_,by have:=O2.len;omega,O2.nd,rfl,rfl⟩ trivial rfl)) (PEd.val (bQ (ds:=[.lst (B.map enD)]) GP hr1 rfl (aD (aC 6 rfl (pv 6)) aR) ⟨B,by omega,O.nd,rfl,rfl⟩ trivial rfl)) trivial trivial (.inr ⟨rfl,rfl⟩) (by rw[e3];exact pB) pB (aCG hu (by rw[e3];show jP (kT B)+1+1<=6;omega))) (by rw[e3];show(!kA (kT B) (kT B))=false;rw[rB];rfl)) rfl (cO ?_));refine zW (sd':=[.val (.scr ns),.val (cP p),.val (.lst (L.map skD)),.val (.int fc),.val (.int (b:Int)),.val (.lst (C.map enD)),.val (.lst (B.map enD)),.un,.un,.un,.un,.un,.un,.un]) ⟨.inr rfl,.inr rfl,.inr rfl,.inr rfl,.inr rfl,.inr rfl,.inr rfl,.inl rfl,.inl rfl,.inr rfl,.inr rfl,.inr rfl,.inr rfl,.inr rfl,trivial⟩ ?_;refine aFS (K:=PSd _ [.val (.scr ns),.val (cP p),.val (.lst (L.map skD)),.val (.int fc),.val (.int (b:Int)),.val (.lst (C.map enD)),.val (.lst (B.map enD)),.un,.un,.un,.un,.un,.un,.un] _ _) (λkey=>aJ (iP (k:=decide ((1:Int)<(L.length:Int))) (oU (g:=λi j=>decide (j<i)) aFU (PEd.ic (lV rfl zlen (PEd.bor (aC 2 rfl (pv 2)))) (by rw[aB])) bE (jI _)) (λh=> ?_) λh=>cO key)) (bB (bU vT trivial rfl));have h1:1<L.length:=by have:=of_decide_eq_true h;omega
 obtain⟨K3,sub,cb⟩:=KO.cut h1;have F3:=aIL K3 (cb b b1);have O3:=zR hp K3.stk F3;have kd:∀ (T:List (List Int)) {X:Cx}{sd:List Slot}{g:Expr},PEd X sd g (.val (.tup (T.map bJ)))->PEd X sd g (.val ((hkN P w).dat (tbK T))):=λT {X sd g} h=>PEd.cast h (by rw[show(hkN P w).dat (tbK T)=D.tup ((tbK T).map tD) from rfl,aIO])
 refine aJ (pE (hkN P w) 10 nd rfl (Or.inl rfl) λl10=> ?_);refine aJ (gB (ds:=B.map enD) (λt sd=>sd=[.val (.scr ns),.val (cP p),.val (.lst (L.map skD)),.val (.int fc),.val (.int (b:Int)),.val (.lst (C.map enD)),.val (.lst (B.map enD)),.un,.un,.un,oG (hkN P w) K l10 (ksE (B.take t)) ((B.take t).map λe=>.int e.1),.un,.un,.un]) (gQ (aC 6 rfl (pv 6))) ⟨_,Le.refl _,rfl⟩ (λt d sdt hd ht=> ?_) λsdn hn=> ?_)
 ·subst ht;obtain⟨e,he,rfl,et⟩:=lZ hd;have nk:=aGN O.nd he
  have ek:ksE (B.take (t+1))=ksE (B.take t)++[tbK e.2.2]:=by rw[et];unfold ksE;rw[aW];rfl
  have ev:((B.take (t+1)).map λe=>D.int e.1)=((B.take t).map λe=>D.int e.1)++[D.int e.1]:=by rw[et,aW];rfl
  have tk:((B.take t).map λe=>D.int e.1).length<=1000:=by rw[aB,bX];omega
  rw[ek,ev];generalize ((B.take t).map λe=>D.int e.1)=vs at tk;generalize ksE (B.take t)=ks at nk;clear ek ev et hd;refine⟨[.val (.scr ns),.val (cP p),.val (.lst (L.map skD)),.val (.int fc),.val (.int (b:Int)),.val (.lst (C.map enD)),.val (.lst (B.map enD)),.un,.un,.un,oG (hkN P w) K l10 ks vs,.val (.int e.1),.val (.tup (bM e.2.1)),.val (.tup (e.2.2.map bJ))],jA (ds:=[.int e.1,.tup (bM e.2.1),.tup (e.2.2.map bJ)]) (js:=[11,12,13]) rfl (cN (bR (i:=11) nd rfl (Or.inl rfl)) (cN (bR (i:=12) nd rfl (Or.inl rfl)) (cN (bR (i:=13) nd rfl (Or.inl rfl)) iW))) rfl rfl, ?_⟩;exact bB (pJ (hk:=hkN P w) (k:=tbK e.2.2) (d:=.int e.1) 10 hu2 rfl (pv 10) (aC 11 rfl (pv 11)) (kd _ (aC 13 rfl (pv 13))) nk tk ⟨[.val (.scr ns),.val (cP p),.val (.lst (L.map skD)),.val (.int fc),.val (.int (b:Int)),.val (.lst (C.map enD)),.val (.lst (B.map enD)),.un,.un,.un,oG (hkN P w) K l10 (ks++[tbK e.2.2]) (vs++[.int e.1]),.un,.un,.un],⟨.inr rfl,.inr rfl,.inr rfl,.inr rfl,.inr rfl,.inr rfl,.inr rfl,.inr rfl,.inr rfl,.inr rfl,.inr rfl,.inl rfl,.inl rfl,.inl rfl,trivial⟩,rfl⟩)
 subst hn;rw[aB,cZ];refine rP 10 rfl ?_;refine bB (gB (ds:=(bkQ p (L.take (L.length-1)) b).map enD) (λt sd=>sd=[.val (.scr ns),.val (cP p),.val (.lst (L.map skD)),.val (.int fc),.val (.int (b:Int)),.val (.lst (C.map enD)),.val (.lst (B.map enD)),.un,.un,.un,.val (gD (hkN P w) K (ksE B) (B.map λe=>.int e.1)),.un,.un,.un]) (gQ (PEd.val (bQ (ds:=[cP p,.lst ((L.take (L.length-1)).map skD),.int (b:Int)]) GO hr rfl (aD (aC 1 rfl (pv 1)) (aD (PEd.val (PEd.cast (aMQ (ol:=none) (oh:=some (-1)) (PEd.bor (aC 2 rfl (pv 2))) trivial (aHU bE)) (by rw[aKB,aB,iO]))) (aD (aC 4 rfl (pv 4)) aR))) ⟨p,_,b,_,hp,K3.stk,K3.nd,F3,rfl,rfl⟩ trivial rfl))) ⟨_,Le.refl _,rfl⟩ (λt d sdt hd ht=> ?_) λsdn hn=> ?_)
 ·subst ht;obtain⟨e,he,rfl,_⟩:=lZ hd;obtain⟨y,hy,y1,y2⟩:=aDa sub O O3 (aO he);clear he hd;refine⟨[.val (.scr ns),.val (cP p),.val (.lst (L.map skD)),.val (.int fc),.val (.int (b:Int)),.val (.lst (C.map enD)),.val (.lst (B.map enD)),.un,.un,.un,.val (gD (hkN P w) K (ksE B) (B.map λe=>.int e.1)),.val (.int e.1),.val (.tup (bM e.2.1)),.val (.tup (e.2.2.map bJ))],jA (ds:=[.int e.1,.tup (bM e.2.1),.tup (e.2.2.map bJ)]) (js:=[11,12,13]) rfl (cN (bR (i:=11) nd rfl (Or.inl rfl)) (cN (bR (i:=12) nd rfl (Or.inl rfl)) (cN (bR (i:=13) nd rfl (Or.inl rfl)) iW))) rfl rfl, ?_⟩;refine bB (fR (k:=false) (PTd.cast (oU (g:=λi j=>decide (j<i)) aFU (aJU (hk:=hkN P w) (k:=tbK e.2.2) (ks:=ksE B) (ds:=B.map λe=>.int e.1) (d:=.int y.1) (d0:=.int (e.1+1)) 10 hu2 rfl (kd _ (aC 13 rfl (pv 13))) (gA gY (aC 11 rfl (pv 11)) bE) (λn hn=> ?_) λhn=> ?_) (aC 11 rfl (pv 11)) (jI _)) (decide_eq_false (by omega))) rfl (cO ?_))
  ·exact aMp O.nd hy y1 hn
  ·exact absurd (aN.mpr ⟨y,hy,by rw[y1]⟩) hn
  ·exact⟨[.val (.scr ns),.val (cP p),.val (.lst (L.map skD)),.val (.int fc),.val (.int (b:Int)),.val (.lst (C.map enD)),.val (.lst (B.map enD)),.un,.un,.un,.val (gD (hkN P w) K (ksE B) (B.map λe=>.int e.1)),.un,.un,.un],⟨.inr rfl,.inr rfl,.inr rfl,.inr rfl,.inr rfl,.inr rfl,.inr rfl,.inr rfl,.inr rfl,.inr rfl,.inr rfl,.inl rfl,.inl rfl,.inl rfl,trivial⟩,rfl⟩
 ·subst hn;exact zW (sd':=[.val (.scr ns),.val (cP p),.val (.lst (L.map skD)),.val (.int fc),.val (.int (b:Int)),.val (.lst (C.map enD)),.val (.lst (B.map enD)),.un,.un,.un,.un,.un,.un,.un]) ⟨.inr rfl,.inr rfl,.inr rfl,.inr rfl,.inr rfl,.inr rfl,.inr rfl,.inr rfl,.inr rfl,.inr rfl,.inl rfl,.inr rfl,.inr rfl,.inr rfl,trivial⟩ key
end
theorem aAF{t1 t2 t3:Tok}:Vals [V.str "not",V.str "up",V.str "down"] (#[Value.str "not" t1,Value.str "up" t2,Value.str "down" t3]:Array BJ).toList:=.cons ⟨_,rfl⟩ (.cons ⟨_,rfl⟩ (.cons ⟨_,rfl⟩ .nil))
theorem all_mk{P:AD}{w:AM}{K:aA}{h:BN}{mg:Str->Option BJ}{fa:BL}(X:K.In h)(G:h.Ns AQ mg)(hfa:mg "law"=some (.ref fa))
  {odL anL:Option BL}{slL:Array (Option BJ)}{ocL kVL dcL pmL cdL ctL:BJ}{fL:BL}{fBY:BL}{dB:Option BL}{t1 t2 t3:Tok}{nB:Nat}{sB:Array (Option BJ)}{tmst:Tok}
  (aL:eC K AQ "law"=some (some (.ref fL))) (lL:K.lookup fL=some ⟨ocL,odL,.func (gK "law" "law" (lH uP) (iX uP) (bI uP) .none kVL dcL pmL anL cdL ctL),slL⟩) (cL:kX K cdL "law"=true) (kL:eM K (.ref fL)=true) (nisinstance:eC K AQ "isinstance"=some none) (nint:eC K AQ "int"=some none) (nbool:eC K AQ "bool"=some none) (nrange:eC K AQ "range"=some none) (ntuple:eC K AQ "tuple"=some none) (nenumerate:eC K AQ "enumerate"=some none) (nlen:eC K AQ "len"=some none) (nmin:eC K AQ "min"=some none) (nlist:eC K AQ "list"=some none) (nsorted:eC K AQ "sorted"=some none) (nall:eC K AQ "all"=some none) (nsum:eC K AQ "sum"=some none) (nany:eC K AQ "any"=some none) (aBY:eC K AQ "BY_ITSELF"=some (some (.ref fBY))) (lBY:K.lookup fBY=some ⟨.type "tuple",dB,.seq #[.str "not" t1,.str "up" t2,.str "down" t3] nB,sB⟩) (amst:eC K AQ "MOST_TABLES"=some (some (.int 500 tmst))) (hWl:FI K mg "is_whole" aHI) (hC:FI K mg "word_count" aHO) (hEa:FI K mg "with_each_word" aCI) (hFi:FI K mg "fillings" aLx) (hNu:FI K mg "number_of" aPa) (hI:FI K mg "word_by_itself" aEc) (hA:FI K mg "word_by_another" aBq) (hN:FI K mg "new_word" aBu) (hB:FI K mg "written_box" aBg) (hS:FI K mg "step_on" aDC) (hNo:FI K mg "numbers_of_step" aNP) (hMo:FI K mg "moves_of" aCQ) (hNb:FI K mg "numbers_behind" aIQ) (hPu:FI K mg "put_longer_rows" aNv) (hFo:FI K mg "found_rows" sFd) (hTf:FI K mg "table_from" aCO) (hBk:FI K mg "book_of" aIW) (hNr:FI K mg "numbers_of_row" aLt) (hIr:FI K mg "is_row" aAn) (hP:FI K mg "price_of" aCU) (hIp:FI K mg "is_priced_row" aLc) (hSd:FI K mg "stands_there" aNL) (hSa:FI K mg "has_start" aAY) (hPb:FI K mg "prices_by_numbers" aNF) (hCl:FI K mg "is_closed" aNK) (hHo:FI K mg "holds" aCV) (hCa:FI K mg "_law_cell_at" aDo) (hMi:FI K mg "_law_mixed" aHJ) (hF:FI K mg "_law_fillings" aCL) (hLw:FI K mg "_law_word" aHR) (hAf:FI K mg "_law_after" aOR) (hDr:FI K mg "_law_drawn" aCN) (hLm:FI K mg "_law_moves" aNx) (hZ:FI K mg "_law_size" aLz) (hK:FI K mg "_law_kit" aIF) (hBd:FI K mg "_law_bound" aOX) (hFn:FI K mg "_law_found" aFI) (hPs:FI K mg "_law_prices" aNn):
  ∃fd:AX,(∀ (s:BK) (v:BJ),BindsTo s fd ⟨[v],[]⟩ [("_law_script",v)])/\∀base:BN,K.In base->base.Ns AQ mg->FnOk P w K mg base CX0 7 fa fd ["_law_script"] (spC K 1 aNo):=by
 have e:=hfa.symm.trans (qN X G aL);cases e;have zisinstance:=dE X G nisinstance;have zint:=dE X G nint;have zbool:=dE X G nbool;have zrange:=dE X G nrange;have ztuple:=dE X G ntuple;have zenumerate:=dE X G nenumerate;have zlen:=dE X G nlen;have zmin:=dE X G nmin;have zlist:=dE X G nlist;have zsorted:=dE X G nsorted;have zall:=dE X G nall;have zsum:=dE X G nsum;have zany:=dE X G nany;have byself:∃ad,mg "BY_ITSELF"=some (.ref ad)/\∀H:Hp,SqT K H ad [V.str "not",V.str "up",V.str "down"]:=⟨_,qN X G aBY,λH=>.inr ⟨_,_,_,lBY,rfl,rfl,aK rfl,aAF⟩⟩;have mst:∃t,mg "MOST_TABLES"=some (.int 500 t):=⟨_,qN X G amst⟩;obtain⟨fWl,dWl,mWl,FWl⟩:=hWl;obtain⟨fC,dC,mC,FC⟩:=hC;obtain⟨fEa,dEa,mEa,FEa⟩:=hEa;obtain⟨fFi,dFi,mFi,FFi⟩:=hFi;obtain⟨fNu,dNu,mNu,FNu⟩:=hNu;obtain⟨fI,dI,mI,FI⟩:=hI;obtain⟨fA,dA,mA,FA⟩:=hA;obtain⟨fN,dN,mN,FN⟩:=hN;obtain⟨fB,dB,mB,FB⟩:=hB;obtain⟨fS,dS,mS,FS⟩:=hS;obtain⟨fNo,dNo,mNo,FNo⟩:=hNo;obtain⟨fMo,dMo,mMo,FMo⟩:=hMo;obtain⟨fNb,dNb,mNb,FNb⟩:=hNb;obtain⟨fPu,dPu,mPu,FPu⟩:=hPu;obtain⟨fFo,dFo,mFo,FFo⟩:=hFo;obtain⟨fTf,dTf,mTf,FTf⟩:=hTf;obtain⟨fBk,dBk,mBk,FBk⟩:=hBk;obtain⟨fNr,dNr,mNr,FNr⟩:=hNr;obtain⟨fIr,dIr,mIr,FIr⟩:=hIr;obtain⟨fP,dP,mP,FP⟩:=hP;obtain⟨fIp,dIp,mIp,FIp⟩:=hIp;obtain⟨fSd,dSd,mSd,FSd⟩:=hSd;obtain⟨fSa,dSa,mSa,FSa⟩:=hSa;obtain⟨fPb,dPb,mPb,FPb⟩:=hPb;obtain⟨fCl,dCl,mCl,FCl⟩:=hCl;obtain⟨fHo,dHo,mHo,FHo⟩:=hHo;obtain⟨fCa,dCa,mCa,FCa⟩:=hCa;obtain⟨fMi,dMi,mMi,FMi⟩:=hMi;obtain⟨fF,dF,mF,FF⟩:=hF;obtain⟨fLw,dLw,mLw,FLw⟩:=hLw;obtain⟨fAf,dAf,mAf,FAf⟩:=hAf;obtain⟨fDr,dDr,mDr,FDr⟩:=hDr;obtain⟨fLm,dLm,mLm,FLm⟩:=hLm;obtain⟨fZ,dZ,mZ,FZ⟩:=hZ;obtain⟨fK,dK,mK,FK⟩:=hK;obtain⟨fBd,dBd,mBd,FBd⟩:=hBd;obtain⟨fFn,dFn,mFn,FFn⟩:=hFn;obtain⟨fPs,dPs,mPs,FPs⟩:=hPs;have FL:=aHy (st:=uP) lL cL kL;refine⟨gK "law" "law" (lH uP) (iX uP) (bI uP) .none kVL dcL pmL anL cdL ctL,λs v=>.of_eq rfl,λbase _ _=> ?_⟩;have GWl:=aGI (P:=P) (w:=w) (base:=base) FWl zisinstance zint zbool mWl ;have GC:=aGE (P:=P) (w:=w) (base:=base) FC zrange mC ;have GEa:=aJp (P:=P) (w:=w) (base:=base) FEa zrange mEa ;have GFi:=aJk (P:=P) (w:=w) (base:=base) FFi zrange mFi GC GEa;have GNu:=aMI (P:=P) (w:=w) (base:=base) FNu mNu GC;have GI:=aET (P:=P) (w:=w) (base:=base) FI mI ;have GA:=aCr (P:=P) (w:=w) (base:=base) FA mA ;have GN:=aCp (P:=P) (w:=w) (base:=base) FN byself mN GC GI GA;have GB:=aCf (P:=P) (w:=w) (base:=base) FB mB ;have GS:=aEs (P:=P) (w:=w) (base:=base) FS mS GB GN;have GNo:=aHb (P:=P) (w:=w) (base:=base) FNo ztuple mNo GNu GS GFi;have GMo:=aBT (P:=P) (w:=w) (base:=base) FMo mMo GNo;have GNb:=aFo (P:=P) (w:=w) (base:=base) FNb ztuple mNb ;have GPu:=aGp (P:=P) (w:=w) (base:=base) FPu zenumerate mPu GNb;have GFo:=aCa (P:=P) (w:=w) (base:=base) FFo zlen zmin zlist zsorted mst mFo GPu;have GTf:=aBS (P:=P) (w:=w) (base:=base) FTf ztuple mTf ;have GBk:=aEk (P:=P) (w:=w) (base:=base) FBk zlen zrange ztuple mBk GFi GMo GFo GTf;have GNr:=aEQ (P:=P) (w:=w) (base:=base) FNr mNr GNb;have GIr:=aGO (P:=P) (w:=w) (base:=base) FIr zall zlen mIr GWl;have GP:=aGe (P:=P) (w:=w) (base:=base) FP zsum mP ;have GIp:=aFh (P:=P) (w:=w) (base:=base) FIp mIp GIr GP;have GSd:=aAM (P:=P) (w:=w) (base:=base) FSd mSd ;have GSa:=aCn (P:=P) (w:=w) (base:=base) FSa zany mSa ;have GPb:=aGd (P:=P) (w:=w) (base:=base) FPb zlen zrange ztuple mPb GFi GIp GNr GTf;have GCl:=aAI (P:=P) (w:=w) (base:=base) FCl mCl GNb GSd;have GHo:=aCz (P:=P) (w:=w) (base:=base) FHo mHo GMo GPb GSa GCl;have GCa:=aEv (P:=P) (w:=w) (base:=base) FCa zlen mCa ;have GMi:=aHk (P:=P) (w:=w) (base:=base) FMi mMi ;have GF:=aCA (P:=P) (w:=w) (base:=base) FF zrange mF ;have GLw:=aJQ (P:=P) (w:=w) (base:=base) FLw mLw ;have GAf:=aHc (P:=P) (w:=w) (base:=base) FAf mAf GLw;have GDr:=aKk (P:=P) (w:=w) (base:=base) FDr mDr GMi;have GLm:=aGC (P:=P) (w:=w) (base:=base) FLm mLm GF GAf;have GZ:=aFi (P:=P) (w:=w) (base:=base) FZ mZ GMi;have GK:=aGa (P:=P) (w:=w) (base:=base) FK zrange zint mK GCa GMi GDr;have GBd:=aGX (P:=P) (w:=w) (base:=base) FBd zlen mBd ;have GFn:=aGg (P:=P) (w:=w) (base:=base) FFn zrange zlen ztuple mFn GF GLm GMi;have GPs:=aKC (P:=P) (w:=w) (base:=base) FPs zsorted mPs ;exact aMR FL zlen zrange GCa GMi GZ GK GBd GFn GBk GHo GPs
end K44
open PySem PySem.W PyProof.Rows
theorem PySem.W.Fast.tw1018403657162704206 : True := trivial
theorem PySem.W.Fast.tw10265723199411233281 : True := trivial
theorem PySem.W.Fast.tw10865095484300136537 : True := trivial
theorem PySem.W.Fast.tw11037730403954955371 : True := trivial
theorem PySem.W.Fast.tw11384527371045197989 : True := trivial
theorem PySem.W.Fast.tw12346592459939539287 : True := trivial
theorem PySem.W.Fast.tw12400385938228943099 : True := trivial
theorem PySem.W.Fast.tw12674371362020981855 : True := trivial
theorem PySem.W.Fast.tw13167136699467570336 : True := trivial
theorem PySem.W.Fast.tw13764542235492159872 : True := trivial
theorem PySem.W.Fast.tw14804292588780146542 : True := trivial
theorem PySem.W.Fast.tw1504452944789228936 : True := trivial
theorem PySem.W.Fast.tw15404410765685606952 : True := trivial
theorem PySem.W.Fast.tw15415181530750633562 : True := trivial
theorem PySem.W.Fast.tw15598929604727782487 : True := trivial
theorem PySem.W.Fast.tw1585106572449923470 : True := trivial
theorem PySem.W.Fast.tw15941457688918627885 : True := trivial
theorem PySem.W.Fast.tw16789199753487550475 : True := trivial
theorem PySem.W.Fast.tw1683088565046658578 : True := trivial
theorem PySem.W.Fast.tw17389879496621781694 : True := trivial
theorem PySem.W.Fast.tw17688393211044207039 : True := trivial
theorem PySem.W.Fast.tw1797373644441004984 : True := trivial
theorem PySem.W.Fast.tw18082090114682536804 : True := trivial
theorem PySem.W.Fast.tw2116987134992439597 : True := trivial
theorem PySem.W.Fast.tw2145416309546785731 : True := trivial
theorem PySem.W.Fast.tw2193477832587370224 : True := trivial
theorem PySem.W.Fast.tw2591312329544613764 : True := trivial
theorem PySem.W.Fast.tw2986665105765759305 : True := trivial
theorem PySem.W.Fast.tw385687191198195274 : True := trivial
theorem PySem.W.Fast.tw4274769235456110792 : True := trivial
theorem PySem.W.Fast.tw4849239252584034278 : True := trivial
theorem PySem.W.Fast.tw5545025808296836936 : True := trivial
theorem PySem.W.Fast.tw590151023987057343 : True := trivial
theorem PySem.W.Fast.tw7502928757095181202 : True := trivial
theorem PySem.W.Fast.tw8232467705515358676 : True := trivial
theorem PySem.W.Fast.tw8297458703307193262 : True := trivial
theorem PySem.W.Fast.tw9350083665284295132 : True := trivial
set_option maxRecDepth 100000 in
set_option maxHeartbeats 0 in
theorem PySem.Challenge.cw_leastrow_k44_whole_what_holds_is_the_boo_holds : PySem.Challenge.rw_leastrow_k44_whole_what_holds_is_the_boo.Holds := by
 w_on;o_law;k_head;(case hw=>w_witness2)
 k_fill
 refine DL.walkD (l:=PySem.Challenge.rw_leastrow_k44_whole_what_holds_is_the_boo) (k:=7) (x:="_law_script") rfl rfl ⟨rfl,by decide,by decide,rfl⟩ (λw h Y=>PySem.W.kIn_of Y) ?F
 case F=>
  intro w mg fa h KX G hmg;refine' K44.all_mk KX G hmg ?aL ?lL ?cL ?kL ?nisinstance ?nint ?nbool ?nrange ?ntuple ?nenumerate ?nlen ?nmin ?nlist ?nsorted ?nall ?nsum ?nany ?aBY ?lBY ?amst (DL.FI.mk KX G ?a0 ?l0 ?c0 ?k0) (DL.FI.mk KX G ?a1 ?l1 ?c1 ?k1) (DL.FI.mk KX G ?a2 ?l2 ?c2 ?k2) (DL.FI.mk KX G ?a3 ?l3 ?c3 ?k3) (DL.FI.mk KX G ?a4 ?l4 ?c4 ?k4) (DL.FI.mk KX G ?a5 ?l5 ?c5 ?k5) (DL.FI.mk KX G ?a6 ?l6 ?c6 ?k6) (DL.FI.mk KX G ?a7 ?l7 ?c7 ?k7) (DL.FI.mk KX G ?a8 ?l8 ?c8 ?k8) (DL.FI.mk KX G ?a9 ?l9 ?c9 ?k9) (DL.FI.mk KX G ?a10 ?l10 ?c10 ?k10) (DL.FI.mk KX G ?a11 ?l11 ?c11 ?k11) (DL.FI.mk KX G ?a12 ?l12 ?c12 ?k12) (DL.FI.mk KX G ?a13 ?l13 ?c13 ?k13) (DL.FI.mk KX G ?a14 ?l14 ?c14 ?k14) (DL.FI.mk KX G ?a15 ?l15 ?c15 ?k15) (DL.FI.mk KX G ?a16 ?l16 ?c16 ?k16) (DL.FI.mk KX G ?a17 ?l17 ?c17 ?k17) (DL.FI.mk KX G ?a18 ?l18 ?c18 ?k18) (DL.FI.mk KX G ?a19 ?l19 ?c19 ?k19) (DL.FI.mk KX G ?a20 ?l20 ?c20 ?k20) (DL.FI.mk KX G ?a21 ?l21 ?c21 ?k21) (DL.FI.mk KX G ?a22 ?l22 ?c22 ?k22) (DL.FI.mk KX G ?a23 ?l23 ?c23 ?k23) (DL.FI.mk KX G ?a24 ?l24 ?c24 ?k24) (DL.FI.mk KX G ?a25 ?l25 ?c25 ?k25) (DL.FI.mk KX G ?a26 ?l26 ?c26 ?k26) (DL.FI.mk KX G ?a27 ?l27 ?c27 ?k27) (DL.FI.mk KX G ?a28 ?l28 ?c28 ?k28) (DL.FI.mk KX G ?a29 ?l29 ?c29 ?k29) (DL.FI.mk KX G ?a30 ?l30 ?c30 ?k30) (DL.FI.mk KX G ?a31 ?l31 ?c31 ?k31) (DL.FI.mk KX G ?a32 ?l32 ?c32 ?k32) (DL.FI.mk KX G ?a33 ?l33 ?c33 ?k33) (DL.FI.mk KX G ?a34 ?l34 ?c34 ?k34) (DL.FI.mk KX G ?a35 ?l35 ?c35 ?k35) (DL.FI.mk KX G ?a36 ?l36 ?c36 ?k36) (DL.FI.mk KX G ?a37 ?l37 ?c37 ?k37)
  (case aL=>k_is);(case lL=>k_is);(case cL=>k_is);(case kL=>k_is);(case nisinstance=>k_is);(case nint=>k_is);(case nbool=>k_is);(case nrange=>k_is);(case ntuple=>k_is);(case nenumerate=>k_is);(case nlen=>k_is);(case nmin=>k_is);(case nlist=>k_is);(case nsorted=>k_is);(case nall=>k_is);(case nsum=>k_is);(case nany=>k_is);(case aBY=>k_is);(case lBY=>k_is);(case amst=>k_is);(case a0=>k_is);(case l0=>k_is);(case c0=>k_is);(case k0=>k_is);(case a1=>k_is);(case l1=>k_is);(case c1=>k_is);(case k1=>k_is);(case a2=>k_is);(case l2=>k_is);(case c2=>k_is);(case k2=>k_is);(case a3=>k_is);(case l3=>k_is);(case c3=>k_is);(case k3=>k_is);(case a4=>k_is);(case l4=>k_is);(case c4=>k_is);(case k4=>k_is);(case a5=>k_is);(case l5=>k_is);(case c5=>k_is);(case k5=>k_is);(case a6=>k_is);(case l6=>k_is);(case c6=>k_is);(case k6=>k_is);(case a7=>k_is);(case l7=>k_is);(case c7=>k_is);(case k7=>k_is);(case a8=>k_is);(case l8=>k_is);(case c8=>k_is);(case k8=>k_is);(case a9=>k_is);(case l9=>k_is);(case c9=>k_is);(case k9=>k_is);(case a10=>k_is);(case l10=>k_is);(case c10=>k_is);(case k10=>k_is);(case a11=>k_is);(case l11=>k_is);(case c11=>k_is);(case k11=>k_is);(case a12=>k_is);(case l12=>k_is);(case c12=>k_is);(case k12=>k_is);(case a13=>k_is);(case l13=>k_is);(case c13=>k_is);(case k13=>k_is);(case a14=>k_is);(case l14=>k_is);(case c14=>k_is);(case k14=>k_is);(case a15=>k_is);(case l15=>k_is);(case c15=>k_is);(case k15=>k_is);(case a16=>k_is);(case l16=>k_is);(case c16=>k_is);(case k16=>k_is);(case a17=>k_is);(case l17=>k_is);(case c17=>k_is);(case k17=>k_is);(case a18=>k_is);(case l18=>k_is);(case c18=>k_is);(case k18=>k_is);(case a19=>k_is);(case l19=>k_is);(case c19=>k_is);(case k19=>k_is);(case a20=>k_is);(case l20=>k_is);(case c20=>k_is);(case k20=>k_is);(case a21=>k_is);(case l21=>k_is);(case c21=>k_is);(case k21=>k_is);(case a22=>k_is);(case l22=>k_is);(case c22=>k_is);(case k22=>k_is);(case a23=>k_is);(case l23=>k_is);(case c23=>k_is);(case k23=>k_is);(case a24=>k_is);(case l24=>k_is);(case c24=>k_is);(case k24=>k_is);(case a25=>k_is);(case l25=>k_is);(case c25=>k_is);(case k25=>k_is);(case a26=>k_is);(case l26=>k_is);(case c26=>k_is);(case k26=>k_is);(case a27=>k_is);(case l27=>k_is);(case c27=>k_is);(case k27=>k_is);(case a28=>k_is);(case l28=>k_is);(case c28=>k_is);(case k28=>k_is);(case a29=>k_is);(case l29=>k_is);(case c29=>k_is);(case k29=>k_is);(case a30=>k_is);(case l30=>k_is);(case c30=>k_is);(case k30=>k_is);(case a31=>k_is);(case l31=>k_is);(case c31=>k_is);(case k31=>k_is);(case a32=>k_is);(case l32=>k_is);(case c32=>k_is);(case k32=>k_is);(case a33=>k_is);(case l33=>k_is);(case c33=>k_is);(case k33=>k_is);(case a34=>k_is);(case l34=>k_is);(case c34=>k_is);(case k34=>k_is);(case a35=>k_is);(case l35=>k_is);(case c35=>k_is);(case k35=>k_is);(case a36=>k_is);(case l36=>k_is);(case c36=>k_is);(case k36=>k_is);(case a37=>k_is);(case l37=>k_is);(case c37=>k_is);(case k37=>k_is)
