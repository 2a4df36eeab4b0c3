import PyProof.Rows.All
import Wide.All
import OpenK.AllK
import Wide.FinOn
import Lean
import PyProof.EqAt
import PyProof.EqKinds
import PyProof.TupleCall
import PySem.Challenge.RW_leastrow_k57_whole_by_its_own_search
set_option Elab.async false
set_option linter.all false
set_option compiler.extract_closed false
set_option bootstrap.genMatcherCode false
set_option genSizeOfSpec false
set_option maxRecDepth 100000
set_option autoImplicit true
set_option relaxedAutoImplicit true
open PySem renaming wpAny_bind->AA,wpAny_pure->AB,model->AD,starEach->AE,Program->AF,wpAny->AH,World->AL,sizeLine->AM,wpAny_newObj_type->AO,wpAny_call_entry->AQ,cLine->AR,wpAny_callSpecial?_slot->AS,tupleKind->AT,compareOp->AU,wpAny_holding->AV,wpAny_seqItems->AW,sysModules->AX,behindInMarks->AY,wpAny_setField_rec->AZ,wpAny_field->Aa,wpAny_truthy_bool->Ac,wpAny_dictEntries->Ad,wpAny_setState_of->Ae,swapsWith->Af,argBest->Ah,wpAny_Call_Name_kw->Ai,wpAny_mono->Ak,FuncData->Al,mainGlobals->Am,codeAny_builtin->An,sizeLine_eq->Ao,wpAny_forIn_list->Ap,wpAny_typeNameOfWhole_itemiter->Aq,binaryOp->Ar,sliceBounds->As,wpAny_typeNameOfWhole_keyiter->At,wpAny_pyIter_list->Au,wpAny_rule->Av,bootBuiltins->Aw,wpAny_isInstance->Ax,tupleKind_room_in1->Ay,wpAny_setField->Az,wpAny_notOrdered_dict->BB,wpAny_passesOwn->BC,wpAny_specialOf->BD,wpAny_ite_split->BE,wpAny_letGo->BF,wpAny_attempt->BG,backTo->BH,carriedByValue->BI,rawInt->BJ,codeAny_mono->BK,size_of_entries->BM,wpAny_dictEpoch->BN,plainId_quiet->BO,foldedSetIterable->BP,wpAny_pyIter_slot->BQ,assignEach->BR,call_meetsIn->BZ,wpAny_askSetting->BU,attributeBase->BV
open PyProof.Rows renaming pendingOf->AC,wpS_bind->AG,Keyed->AI,wpS_pure->AJ,arrOf->AK,wpS_forRange->Ab,wpS_mono->Ag,seqObj->Aj,SortKind->BA,wpS_modify->BL,setPending->BS,get?_update_seq->BW
open Inhabited renaming default->AN
open List renaming length_map->aA,getElem?_eq_some_iff->aE,mem_cons_of_mem->aF,mem_cons_self->aG,mem_singleton->aH,mem_map->aJ,map_append->aO,mem_cons->aP,mem_of_getElem?->aQ,mem_append->aS,mem_append_right->aU,length_append->aV,map_map->aW,getElem?_map->aY,size_toArray->bB,nodup_append->bD,nodup_cons->bE,map_cons->bG,range->bI,mem_append_left->bP,map_congr_left->bQ,mem_range->bR,getD->bV,length_cons->bZ,pairwise_map->cA,filter_eq_self->cB,mem_singleton_self->cC,eq_nil_of_length_eq_zero->cI,mem_map_of_mem->cK,getElem?_append_left->cO,getElem_of_mem->cP,length_take->cT,getElem?_eq_none->cV,getElem?_of_mem->cY,all_eq_true->cZ,take_length->dA,append_nil->dD,extract_eq_take_drop->dJ,mem_flatMap->dM,getElem?_eq_getElem->dN,pairwise_cons->dO,eraseIdx_eq_take_drop_succ->dP,getElem?_append_right->dR,nodup_nil->dS,append_assoc->dW,drop_eq_getElem_cons->dX,mem_filter->dZ,length_range->eG,zip_cons_cons->eV,pairwise_append->eW,lookup_cons->eY,take_of_length_le->eZ,getElem_map->fA,length_pos_iff->fC,getElem_inj->fI,getElem_mem->fJ,eraseIdx_sublist->fT,take_append_drop->fU,any_eq_true->fW,replicate->gA,take_add_one->gB,filterMap_cons->gF,map_nil->gH,length_drop->gN,find?_cons->gX,not_mem_nil->iA,getElem?_set_self->iJ,length_nil->iP,dropLast_concat_getLast->iQ,perm_append_comm->iR,foldl_append->iW,mem_of_mem_take->jG,perm_middle->jM,getElem?_zip_eq_some->jO,pairwise_iff_getElem->jP,mem_of_mem_eraseIdx->jY,map_drop->jZ,length_zip->kB,pairwise_singleton->kG,map_id->kH,ext_getElem->lO,any_cons->lQ,getElem?_set_ne->lX,length_eraseIdx->lY,mem_of_mem_drop->lZ,find?_eq_none->mY,ext_getElem?->nY,filter_congr->nZ,map_take->oB,nodup_range->oY,length_filter_lt_length_iff_exists->qJ,length->qO,getElem?_range->rO,filter_sublist->rP,set_eq_take_append_cons_drop->uX,getElem_take->vJ,mem_eraseIdx_iff_getElem?->wR,drop_length->wU,find?_eq_some_iff_append->zN,of_mem_zip->zQ,countP_eq_length_filter->zR,range_succ->zS
open PySem.W renaming Frag->aB,kia_one->fF,fnOf->fV,keepIn->gM,findIn->mN,kitOne->mO,codeIn->mP,mg_of->qQ,nsIn->tY,instObj->vU,lookIn->zP
open PySem.Heap renaming get?_push_of_some->aD,lt_size->aM,get?_push_size->aR,get?_update_other->cJ,get?_update_self->eE,size_push->gQ,size_update->oZ
open Nat renaming le_refl->aK,lt_of_lt_of_le->aZ,ne_of_lt->bC,zero_le->bM,lt_of_le_of_lt->bY,le_trans->cF,le_of_lt->cX,lt_irrefl->dH,lt_or_eq_of_le->dY,ne_of_gt->eJ,le_of_ble_eq_true->iX,le_succ->jK,lt_succ_self->jQ,min_self->kZ,le_add_right->lR,lt_succ_of_lt->oC,lt_trans->pQ,pow_succ->pR,div_div_eq_div_mul->pS,pow_le_pow_right->rM,mul_le_mul_right->rN,mod_lt->uY,succ_pos->vQ,lt_or_ge->vR
open Bool renaming false_ne_true->bJ,false_eq_true->bK,and_eq_true->bL,eq_iff_iff->gY,eq_false_iff->iY,and_false->qP
open Option renaming some->bW,map_eq_some_iff->eX
open PySem.SetTable renaming runEnd->cE,bits->cH,below->fX,turns->gI,probe->hG,insertAt->iM,layClean->kF,leap->mZ,tooFull->tZ
open Array renaming getElem?_toList->cU,toList_append->dF,length_toList->eC,toList_extract->eQ,perm_iff_toList_perm->gP,toList_push->iS,toList_inj->jL,getElem?_eq_getElem->jN,forIn_toList->kC,size_extract->kE,getElem?_eq_none->kM,toList_reverse->lU,mem_toList_iff->qK,toList_map->vT,getElem?_setIfInBounds->zO
open Int renaming emod_lt_of_pos->dE,emod_nonneg->dU,toNat_natCast->eM,natCast_nonneg->kI,le_refl->kJ,ne_of_gt->lA,toNat->rQ,zero_add->vS
open PySem.F renaming plainAttrs_dict->hV,plainAttrs_list->hW,slot_dict_setdefault->iG,args_tuple_add_2->nE,slot_list_append->nF,type_list_append->nG,entry_tuple_add->oA,slot_tuple_add->oV,slot_dict_get->pE,slot_dict_itemiterator_iter->qR,args_dict_setdefault_3->uZ,entry_dict_setdefault->vK,type_dict_setdefault->vV
open List renaming nodup_iff_pairwise_ne->aAJ,perm_ext_iff_of_nodup->aAK,getElem?_eq_none_iff->aAO,getElem?_take_of_lt->aBD,length_eq_zero_iff->aCG,drop_of_length_le->aDD,drop_eq_nil_of_le->aDE,set_getElem_self->aDF,length_filter_le->aDG,reverse_reverse->aGL,reverse_append->aGV,flatMap_append->aGW,mem_filterMap->aIR,filter_append->aIS,getElem?_drop->aIT,append_of_mem->aIU,filter_filter->aIV,getElem_range->aIW,any_eq_false->aKq,zipIdx_cons->aMQ,map_reverse->aMR,forIn_cons->aNb,zip_append->aNc,cons->aNd,foldl_cons->aNe,take_left'->aNf,drop_left'->aNg,filter_map->aNh,drop_drop->aPT,all_cons->aQc,sum_cons->aQd
open PySem.F renaming args_dict_get_3->aAL,slot_dict_items->aAM,plain_list_iadd->aAN,entry_dict_get->aAS,slot_dict_pop->aBE
open Int renaming fdiv_eq_ediv_of_nonneg->aAP,le_of_eq->aGQ,ne_of_lt->aSy,mul_comm->aSz
open Array renaming getElem?_replicate->aAQ,toList->aQh
open PySem.W renaming cellsFrom_some->aAR,specialIn->aGS,kitx_list->aGT,kitx_dict->aGU,plainGet->aGY,isFn->aNk
open Nat renaming not_lt->aCH,le_of_eq->aGM,succ_mul->aGN,sub_self->aGO,zero_add->aGP,div_one->aIX,succ->aKr,lt_of_succ_lt->aMS,le_of_not_lt->aNi,lt_of_not_le->aNj,add_assoc->aRL
open Bool renaming not_true->aCI,beq_eq_decide_eq->aDH,and_eq_true_iff->aGR,false_and->aPU,not_false->aPV,true_and->aQf,and_self->aQg,true_or->aRM
open Option renaming isSome_map->aGX,getD_none->aIY,getD_some->aIZ,none->aQe
open PySem.Heap renaming get?_push_ne->aKs
open PySem.SetTable renaming slot->aKt
open PySem renaming Value->BX,Shared->BY,Addr->BZ,Around->CA,Heap->CB,Obj->CC,Stmt->CD,SetTable->CG
open PyProof.Rows renaming SortSt->CF
noncomputable section
namespace L2
open PySem PySem.Spec PyProof.Rows
abbrev Key:=Sum Int Str
noncomputable def xZ:Key->BX->Bool
 |.inl k,v=>Value.isInt k v
 |.inr x,v=>Value.isStrOf x v
noncomputable def keyH(w:AL):Key->Int
 |.inl k=>hashInt k
 |.inr x=>hashStr w x
def gE:∀ {k:Key}{v:BX},xZ k v=true->(∃i t,k=Sum.inl i/\v=Value.int i t)\/(∃x t,k=Sum.inr x/\v=Value.str x t)
 |.inl i,v,h=>by obtain⟨t,e⟩:=Value.isInt_shape h;exact .inl ⟨i,t,rfl,e⟩
 |.inr x,v,h=>by obtain⟨t,e⟩:=Value.isStrOf_shape h;exact .inr ⟨x,t,rfl,e⟩
def aGq(i:Int)(t:Tok):xZ (.inl i) (.int i t)=true:=by simp[xZ,Value.isInt]
def aFZ(x:Str)(t:Tok):xZ (.inr x) (.str x t)=true:=by simp[xZ,Value.isStrOf]
def aOt(a b:Int):decide ((Sum.inl a:Key)=Sum.inl b)=(a==b):=by
 by_cases e:a=b
 ·subst e;simp
 ·have h:¬ (Sum.inl a:Key)=Sum.inl b:=λq=>e (Sum.inl.inj q)
  rw[decide_eq_false h];exact(beq_eq_false_iff_ne.mpr e).symm
def aPc(a b:Str):decide ((Sum.inr a:Key)=Sum.inr b)=decide (a=b):=by
 by_cases e:a=b
 ·subst e;simp
 ·have h:¬ (Sum.inr a:Key)=Sum.inr b:=λq=>e (Sum.inr.inj q)
  rw[decide_eq_false h,decide_eq_false e]
def aPy(a:Int)(b:Str):decide ((Sum.inl a:Key)=Sum.inr b)=false:=decide_eq_false λq=>nomatch q
def aOy(a:Str)(b:Int):decide ((Sum.inr a:Key)=Sum.inl b)=false:=decide_eq_false λq=>nomatch q
def dQ(prog:AF)(w:AL):PySem.KeyKind prog w Key where
 is:=xZ
 hash:=keyH w
 inj:=λv a b ha hb=>by
  rcases gE ha with⟨i,t,rfl,rfl⟩|⟨x,t,rfl,rfl⟩
  ·rcases gE hb with⟨j,u,rfl,e⟩|⟨y,u,rfl,e⟩
   ·injection e with e1 _;rw[e1]
   ·exact nomatch e
  ·rcases gE hb with⟨j,u,rfl,e⟩|⟨y,u,rfl,e⟩
   ·exact nomatch e
   ·injection e with e1 _;rw[e1]
 byValue:=λk v h=>by rcases gE h with⟨i,t,rfl,rfl⟩|⟨x,t,rfl,rfl⟩<;>rfl
 pyHash:=λhv h=>by
  rcases gE hv with⟨i,t,rfl,rfl⟩|⟨x,t,rfl,rfl⟩
  ·exact wpAny_pyHash_int h
  ·exact wpAny_pyHash_str h
 eqBool:=λhu hv h=>by
  rcases gE hu with⟨i,t,rfl,rfl⟩|⟨x,t,rfl,rfl⟩
  ·rcases gE hv with⟨j,u,rfl,rfl⟩|⟨y,u,rfl,rfl⟩
   ·rw[aOt] at h;exact wpAny_eqBool_int h
   ·rw[aPy] at h;exact SeqAt.EqAt.int_str i t y u _ _ _ _ h
  ·rcases gE hv with⟨j,u,rfl,rfl⟩|⟨y,u,rfl,rfl⟩
   ·rw[aOy] at h;exact SeqAt.EqAt.str_int x t j u _ _ _ _ h
   ·rw[aPc] at h;exact wpAny_eqBool_str h
 «strs»:=λk x t v h=>by
  rcases gE h with⟨i,u,rfl,e⟩|⟨y,u,rfl,e⟩
  ·exact nomatch e
  ·injection e with e1 _
   subst e1;cases v<;>rfl
def aBC(prog:AF)(w:AL)(i:Int)(t:Tok):(dQ prog w).is (.inl i) (.int i t)=true:=aGq i t
def aBw(prog:AF)(w:AL)(x:Str)(t:Tok):(dQ prog w).is (.inr x) (.str x t)=true:=aFZ x t
inductive V where
 |non|bl (b:Bool)|int (i:Int)|str (x:Str)|byt (b:Array UInt8)|flt (b:UInt64)|ref (a:BZ)|ty (n:String)
 deriving DecidableEq
def RelV:V->BX->Prop
 |.non,u=>u=Value.none
 |.bl b,u=>u=Value.bool b
 |.int i,u=>∃t,u=Value.int i t
 |.str x,u=>∃t,u=Value.str x t
 |.byt b,u=>∃t,u=Value.bytes b t
 |.flt b,u=>∃t,u=Value.float b t
 |.ref a,u=>u=Value.ref a
 |.ty n,u=>u=Value.type n
abbrev Vals:List V->List BX->Prop:=Paired RelV
def Vals.length(r:Vals xs us):xs.length=us.length:=Paired.length r
def Vals.get:∀ {xs:List V}{us:List BX}{i:Nat}{x:V},Vals xs us->xs[i]? =some x->∃u,us[i]? =some u/\RelV x u
 |_,_,_,_,.nil,e=>by simp at e
 |_,_,0,_,.cons r _,e=>by simp at e;subst e;exact⟨_,rfl,r⟩
 |_,_,i+1,x,.cons _ t,e=>by obtain⟨u,h1,h2⟩:=Vals.get t (by simpa using e);exact⟨u,by simpa using h1,h2⟩
def Vals.append:∀ {xs ys:List V}{us ws:List BX},Vals xs us->Vals ys ws->Vals (xs++ys) (us++ws)
 |_,_,_,_,.nil,s=>s
 |_,_,_,_,.cons r t,s=>.cons r<|Vals.append t s
def Vals.take:∀ {xs:List V}{us:List BX} (n:Nat),Vals xs us->Vals (xs.take n) (us.take n)
 |_,_,0,_=>.nil
 |_,_,_+1,.nil=>.nil
 |_,_,n+1,.cons r t=>.cons r<|Vals.take n t
def Vals.drop:∀ {xs:List V}{us:List BX} (n:Nat),Vals xs us->Vals (xs.drop n) (us.drop n)
 |_,_,0,r=>r
 |_,_,_+1,.nil=>.nil
 |_,_,n+1,.cons _ t=>Vals.drop n t
def RelO:Option V->Option BX->Prop
 |some v,some u=>RelV v u
 |none,none=>True
 |_,_=>False
def KV:List (κ×V)->List (κ×BX)->Prop:=Paired λ(p:κ×V) (q:κ×BX)=>p.1=q.1/\RelV p.2 q.2
noncomputable def kV:Key->V
 |.inl i=>.int i
 |.inr x=>.str x
inductive HO where
 /-- a list -/
 |lst (xs:List V)
 /-- a tuple (never changes) -/
 |tup (xs:List V)
 /-- a dict whose keys are ints and texts;one whose keys are tuples of ints and texts (the empty one is both) -/
 |dK (kvs:List (Key×V))|dT (kvs:List (List Key×V))
 /-- a set of ints:its members,its size -/
 |set (S:Int->Bool) (n:Nat)
 /-- an instance of the class at C,its dict at dx,its attributes -/
 |ins (C dx:BZ) (fs:List (Str×V))
 /-- the dict of the instance at x -/
 |own (x:BZ)
 /-- the dict of an exception -/
 |xd (fs:List (Str×V))
 /-- a bound method,f of x -/
 |met (f x:BZ)
 /-- a range object lo,lo+1, .. below hi -/
 |rng (lo hi:Int)
 /-- a thing that is known to the object (the script;a dict while a loop walks it):read,never written while it is so -/
 |frz (o:CC) (u:HO)
 /-- a code object's table -/
 |tbl (ps:Array BX)
 /-- any other thing,by what is true of its one object (a def of one's own:SetO a S n:=HO.ext λh=> ..) -/
 |ext (φ:CB->Prop)
abbrev Hp:=BZ->Option HO
noncomputable def upd(H:Hp)(a:BZ)(o:HO):Hp:=λb=>if b=a then some o else H b
def bX:upd H a o a=some o:=by unfold upd;rw[if_pos rfl]
def bH(h:b≠a):upd H a o b=H b:=by unfold upd;rw[if_neg h]
def aRl{H:Hp}(h:H a=some o)(h':H b=some u)(d:o≠u):a≠b:=by intro e;subst e;rw[h] at h';exact d<|bW.inj h'
def cD{H:Hp}(h:H a=some o)(h':H b=none):a≠b:=by intro e;subst e;rw[h] at h';cases h'
def IsTupD(h:CB)(a:BZ)(items:Array BX):Prop:=∃o,h.get? a=some o/\o.cls=.type "tuple"/\(∃n,o.data=.seq items n)/\o.dict=none
def IsTupD.tup(x:IsTupD h a items):IsTup h a items:=let ⟨o,e,c,d,_⟩:=x;⟨o,e,c,d⟩
def IsTupD.new(h:CB)(items:Array BX):IsTupD (h.push {cls:=.type "tuple",data:=.seq items}) h.objs.size items:=⟨_,aR _ rfl,rfl,⟨_,rfl⟩,rfl⟩
variable (P:AF)(w:AL)
def ObjOk(H:Hp)(h:CB)(a:BZ):HO->Prop
 |.lst xs=>xs.length<=AM/\∃ (its:List BX) (n:Nat),Vals xs its/\h.get? a=some {cls:=.type "list",data:=.seq its.toArray n}
 |.tup xs=>xs.length<=AM/\∃its:List BX,Vals xs its/\IsTupD h a its.toArray
 |.dK kvs=>kvs.length<=AM/\(a==AX)=false/\∃vs,KV kvs vs/\h.DictOf (dQ P w) a vs
 |.dT kvs=>kvs.length<=AM/\(a==AX)=false/\∃xs:List (List Key×BZ×BX),
   Paired (λ(p:List Key×V) (q:List Key×BZ×BX)=>p.1=q.1/\H q.2.1=some (.tup<|p.1.map kV)/\RelV p.2 q.2.2) kvs xs/\
   ∃o es ep,h.get? a=some o/\o.ExactDict/\o.data=.dict es ep/\es.toList=xs.map (entryOfKey (AT<|dQ P w))/\(xs.map (·.1)).Nodup
 |.set S n=>h.SetOf (intKind P w) a S n
 |.ins C dx fs=>H dx=some (.own a)/\fs.length<=1000/\dx≠a/\h.get? a=some (vU C dx)/\
   ∃mA,h.Ns1 dx mA/\(∀f,RelO (fs.lookup f)<|mA f)/\PySem.Within mA (fs.map (·.1))
 |.own _=>∃o,h.get? a=some o
 |.xd fs=>∃mA,h.Ns1 a mA/\∀f,RelO (fs.lookup f)<|mA f
 |.rng lo hi=>∃t u v,h.get? a=some {cls:=.type "range",data:=.fields #[.int lo t,.int hi u,.int 1 v]}
 |.frz o u=>h.get? a=some o/\ObjOk H h a u
 |.tbl ps=>h.get? a=some {cls:=.none,data:=.fields ps}
 |.met f x=>h.get? a=some (PySem.W.methodObj (.ref f)<|.ref x)
 |.ext φ=>φ h/\(∃o,h.get? a=some o)/\∀h1 h2:CB,φ h1->(∀o,h1.get? a=some o->h2.get? a=some o)->φ h2
def HOk(H:Hp)(h:CB):Prop:=∀a o,H a=some o->ObjOk P w H h a o
variable {P:AF}{w:AL}{H H':Hp}{h h':CB}{a:BZ}{o:HO}
def ObjOk.lt(x:ObjOk P w H h a o):a<h.objs.size:=by
 cases o with
 |lst xs=>obtain⟨_,_,_,_,e⟩:=x;exact aM e
 |tup xs=>obtain⟨_,_,_,p⟩:=x;exact p.tup.lt
 |dK kvs=>obtain⟨_,_,_,_,o,_,_,e,_⟩:=x;exact aM e
 |dT kvs=>obtain⟨_,_,_,_,o,_,_,e,_⟩:=x;exact aM e
 |set S n=>obtain⟨o,_,_,_,e,_⟩:=x;exact aM e
 |ins C dx fs=>obtain⟨_,_,_,e,_⟩:=x;exact aM e
 |own y=>obtain⟨_,e⟩:=x;exact aM e
 |xd fs=>obtain⟨_,⟨_,_,_,e,_⟩,_⟩:=x;exact aM e
 |rng lo hi=>obtain⟨_,_,_,e⟩:=x;exact aM e
 |frz ob u=>obtain⟨e,_⟩:=x;exact aM e
 |tbl ps=>exact aM<|x
 |met f y=>exact aM<|x
 |ext φ=>obtain⟨_,⟨_,e⟩,_⟩:=x;exact aM e
def Paired.mapP:∀ {l₁:List α}{l₂:List β},Paired F l₁ l₂->(∀a b,F a b->G a b)->Paired G l₁ l₂
 |_,_,.nil,_=>.nil
 |_,_,.cons r t,f=>.cons (f _ _ r)<|Paired.mapP t f
def ObjOk.stay(x:ObjOk P w H h a o)(k:∀b u,(b=a\/H b=some (.own a))->h.get? b=some u->h'.get? b=some u)(ho:∀b,H b=some (.own a)->H' b=some (.own a)) (ht:∀b xs,H b=some (.tup xs)->H' b=some (.tup xs)):ObjOk P w H' h' a o:=by
 induction o with
 |lst xs=>obtain⟨z,its,n,r,e⟩:=x;exact⟨z,its,n,r,k _ _ (.inl rfl) e⟩
 |tup xs=>obtain⟨z,its,r,ob,e,c⟩:=x;exact⟨z,its,r,ob,k _ _ (.inl rfl) e,c⟩
 |dK kvs=>obtain⟨z,y,vs,r,ob,es,ep,e,c⟩:=x;exact⟨z,y,vs,r,ob,es,ep,k _ _ (.inl rfl) e,c⟩
 |dT kvs=>obtain⟨z,y,xs,r,ob,es,ep,e,c⟩:=x;exact⟨z,y,xs,Paired.mapP r λp q z=>⟨z.1,ht _ _ z.2.1,z.2.2⟩,ob,es,ep,k _ _ (.inl rfl) e,c⟩
 |set S n=>obtain⟨ob,es,ep,t,e,c⟩:=x;exact⟨ob,es,ep,t,k _ _ (.inl rfl) e,c⟩
 |ins C dx fs=>obtain⟨d,z,ne,e,mA,⟨od,es,ep,e2,c⟩,r⟩:=x;exact⟨ho _ d,z,ne,k _ _ (.inl rfl) e,mA,⟨od,es,ep,k _ _ (.inr d) e2,c⟩,r⟩
 |own y=>obtain⟨ob,e⟩:=x;exact⟨ob,k _ _ (.inl rfl) e⟩
 |xd fs=>obtain⟨mA,⟨od,es,ep,e,c⟩,r⟩:=x;exact⟨mA,⟨od,es,ep,k _ _ (.inl rfl) e,c⟩,r⟩
 |rng lo hi=>obtain⟨t,u,v,e⟩:=x;exact⟨t,u,v,k _ _ (.inl rfl) e⟩
 |frz ob u ih=>obtain⟨e,q⟩:=x;exact⟨k _ _ (.inl rfl) e,ih q⟩
 |tbl ps=>have e:=x;exact k a _ (.inl rfl) e
 |met f y=>have e:=x;exact k a _ (.inl rfl) e
 |ext φ=>obtain⟨p,⟨o,e⟩,st⟩:=x;exact⟨st _ _ p λo q=>k _ _ (.inl rfl) q,⟨o,k _ _ (.inl rfl) e⟩,st⟩
def HOk.lt(x:HOk P w H h)(e:H a=some o):a<h.objs.size:=(x a o e).lt
def HOk.fresh(x:HOk P w H h)(e:h.objs.size<=a):H a=none:=by
 cases q:H a with
 |none=>rfl
 |some u=>exact absurd (aZ (x.lt q) e)<|dH _
def HOk.kept(x:HOk P w H h)(k:∀b u,h.get? b=some u->h'.get? b=some u):HOk P w H h':=λa o e=>(x a o e).stay (λb u _ q=>k b u q) (λ_ q=>q) λ_ _ q=>q
def HOk.laid(x:HOk P w H h)(k:∀b u,h.get? b=some u->h'.get? b=some u)(hp:h.objs.size<=a)(new:ObjOk P w (upd H a o) h' a o):HOk P w (upd H a o) h':=λb u e=>by
 have hn:=x.fresh hp
 by_cases hb:b=a
 ·subst hb;rw[bX] at e;cases e;exact new
 ·rw[bH hb] at e;exact(x b u e).stay (λc v _ q=>k c v q) (λc q=>by rw[bH<|cD q hn];exact q) λc xs q=>by rw[bH<|cD q hn];exact q
def Rd(H:Hp)(a:BZ)(u:HO):Prop:=H a=some u\/∃o,H a=some (.frz o u)
def Rd.of(h:H a=some u):Rd H a u:=.inl h
def Rd.ok(r:Rd H a u)(x:HOk P w H h):ObjOk P w H h a u:=by
 rcases r with r|⟨o,r⟩
 ·exact x a u r
 ·obtain⟨_,q⟩:=x a _ r;exact q
def Mut:Option HO->Prop
 |some (.lst _)=>True
 |some (.dK _)=>True
 |some (.dT _)=>True
 |some (.set _ _)=>True
 |some (.ins _ _ _)=>True
 |some (.ext _)=>True
 |_=>False
variable {x e:BZ}{o':HO}
def HOk.write(ok:HOk P w H h)(mu:Mut (H x))(he:e=x\/H e=some (.own x))(k:∀b u,b≠e->h.get? b=some u->h'.get? b=some u)(heo:∃u,h'.get? e=some u)(new:ObjOk P w (upd H x o') h' x o'):HOk P w (upd H x o') h':=λb u q=>by
 have nown:∀c y,H c=some (.own y)->c≠x:=λc y r z=>by subst z;rw[r] at mu;exact mu
 have ntup:∀c xs,H c=some (.tup xs)->c≠x:=λc xs r z=>by subst z;rw[r] at mu;exact mu
 by_cases hb:b=x
 ·subst hb;rw[bX] at q;cases q;exact new
 ·rw[bH hb] at q
  by_cases hbe:b=e
  ·have q':H b=some (.own x):=by
    rcases he with z|z
    ·exact absurd (hbe.trans z) hb
    ·rw[hbe];exact z
   rw[q] at q';cases q';obtain⟨v,hv⟩:=heo;exact⟨v,by rw[hbe];exact hv⟩
  ·refine(ok b u q).stay (λc v hc r=>k c v ?_ r) (λc r=>by rw[bH<|nown c b r];exact r) λc xs r=>by rw[bH<|ntup c xs r];exact r
   rcases hc with rfl|hc
   ·exact hbe
   ·rintro rfl
    rcases he with z|z
    ·exact nown c b hc z
    ·rw[hc] at z;cases z;exact hb rfl
structure Un(fs ex:List BZ)(H H':Hp)(h h':CB):Prop where
 keep:∀b o,h.get? b=some o->H b=none->b∉fs->b∉ex->h'.get? b=some o
 slot:∀b o,h.get? b=some o->H b=none->b∈fs->b∉ex->∃sl,h'.get? b=some {o with slots:=sl}
 free:∀b o,h.get? b=some o->H b=none->b∉ex->H' b=none
 there:∀b o,h.get? b=some o->b∉ex->∃o',h'.get? b=some o'
 tups:∀b xs,H b=some (.tup xs)->H' b=some (.tup xs)
 frzs:∀b o u,H b=some (.frz o u)->H' b=some (.frz o u)
 tbls:∀b ps,H b=some (.tbl ps)->∃more,H' b=some (.tbl<|ps++more)
section
variable {fs fs' ex ex':List BZ}{H H1 H2:Hp}{h h1 h2 h':CB}{a x e:BZ}{o:HO}
def Un.any(u:Un fs ex H H1 h h1)(q:h.get? b=some ob)(n:H b=none)(hx:b∉ex):∃sl,h1.get? b=some {ob with slots:=sl}:=by
 by_cases hb:b∈fs
 ·exact u.slot b ob q n hb hx
 ·exact⟨ob.slots,u.keep b ob q n hb hx⟩
def Un.kept(k:∀b u,h.get? b=some u->h'.get? b=some u):Un fs ex H H h h':=
 ⟨λb ob q _ _ _=>k b ob q,λb ob q _ _ _=>⟨ob.slots,k b ob q⟩,λ_ _ _ n _=>n,λb ob q _=>⟨ob,k b ob q⟩,λ_ _ q=>q,λ_ _ _ q=>q,λ_ ps q=>⟨#[],by rw[q];simp⟩⟩
def Un.refl:Un fs ex H H h h:=Un.kept λ_ _ q=>q
def Un.laid(k:∀b u,h.get? b=some u->h'.get? b=some u)(hp:h.objs.size<=a)(hn:H a=none):Un fs ex H (upd H a o) h h' where
 keep:=λb u q _ _ _=>k b u q
 slot:=λb u q _ _ _=>⟨u.slots,k b u q⟩
 free:=λb u q n _=>by rw[bH (bC<|aZ (aM q) hp)];exact n
 there:=λb u q _=>⟨u,k b u q⟩
 tups:=λb xs q=>by rw[bH<|cD q hn];exact q
 frzs:=λb u xs q=>by rw[bH<|cD q hn];exact q
 tbls:=λb ps q=>⟨#[],by rw[bH<|cD q hn,q];simp⟩
theorem Un.write(mu:Mut (H x))(he:e=x\/H e=some (.own x))(k:∀b u,b≠e->h.get? b=some u->h'.get? b=some u)(heo:∃u,h'.get? e=some u):Un fs ex H (upd H x o) h h':=by
 have hx:∀b,H b=none->b≠x:=λb n z=>by subst z;rw[n] at mu;exact mu
 have hb:∀b,H b=none->b≠e:=λb n z=>by
  subst z
  rcases he with r|r
  ·exact hx b n r
  ·rw[n] at r;cases r
 have hm:∀b u,H b=some u->¬ Mut (some u)->b≠x:=λb u q nm z=>by subst z;rw[q] at mu;exact nm mu
 refine ⟨fun b u q n _ _=>k b u (hb b n) q,fun b u q n _ _=>⟨u.slots,k b u (hb b n) q⟩,fun b u q n _=>by rw [bH (hx b n)]; exact n,fun b u q _=>?_,
  λb xs q=>by rw[bH (hm b _ q λz=>z)];exact q,λb u xs q=>by rw[bH (hm b _ q λz=>z)];exact q,λb ps q=>⟨#[],by rw[bH (hm b _ q λz=>z),q];simp⟩⟩
 by_cases hbe:b=e
 ·subst hbe;exact heo
 ·exact⟨u,k b u hbe q⟩
end
noncomputable def trk(h:CB)(H:Hp):List BZ:=(bI h.objs.size).filter λa=>(H a).isSome
def aJa(h:CB)(H:Hp):CB:=PySem.W.hideAll h<|trk h H
def aGo(h:CB)(H:Hp):(aJa h H).objs.size=h.objs.size:=PySem.W.hideAll_size _ _
def aId{o:CC}(e:h.get? b=some o)(n:H b=none):(aJa h H).get? b=some o:=
 PySem.W.hideAll_get _ e λhm=>by have q:=(dZ.mp hm).2;rw[n] at q;simp at q
def aMH{o:CC}(e:(aJa h H).get? b=some o):h.get? b=some o/\H b=none:=by
 have e':=PySem.W.of_hideAll (trk h H) e;refine⟨e',?_⟩;cases q:H b with
 |none=>rfl
 |some x=>have hm:b∈trk h H:=dZ.mpr ⟨bR.mpr<|aM e',by simp[q]⟩;have z:(aJa h H).get? b=none:=PySem.W.hideAll_none (trk h H) hm;rw[z] at e;cases e
noncomputable def aMw(g h:CB)(L:BZ):List (BZ×CC):=(bI h.objs.size).filterMap λa=>if a=L\/(g.get? a).isSome=true then none else(h.get? a).map λo=>(a,o)
def rest(g h:CB)(L d:BZ):List (BZ×CC):=(aMw g h L).filter λp=>decide<|p.1≠d
structure Mod(K:aB)(mg:Str->Option BX)(base:CB):Prop where
 kin:K.In base
 glob:base.Ns Am mg
 blt:∃mb,base.Ns builtinsNs mb/\∀x:Str,x≠"__name__"->mb x=Aw x
 nolimit:base.NoLimit
def aHa:HO->Prop
 |.lst _=>False
 |.dK _=>False
 |.ext _=>False
 |_=>True
structure Cx where
 prog:AF
 w:AL
 K:aB
 mg:Str->Option BX
 base:CB
 A:CA
 N:List Str
 s₀:BY
 H₀:Hp
 env:Env
 outer:List Env
 stack:List Env
 ex:List BZ
 fn:Str->Bool
 calm:Bool
 pn:List (BZ×CC)
 xe:BX->BY->Prop
 B₀:Hp:=H₀
 hB:∀b o,H₀ b=some o->aHa o->B₀ b=some o:=by intro b o e _;exact e
noncomputable def frs(l:List Env):List BZ:=l.filterMap (·.frame)
abbrev Cx.fs(X:Cx):List BZ:=frs X.outer
def Vis(sc:Scope)(x:Str):Prop:=sc.names.lookup x=some .local\/sc.names.lookup x=some .cell\/sc.names.lookup x=some .free
def Loc(sc:Scope)(x:Str):Prop:=sc.names.lookup x=some .local\/sc.names.lookup x=some .cell
def Look(env:Env)(h:CB)(m:Str->Option BX)(x:Str)(u:BX):Prop:=
 (env.kindOf x=some .local/\m x=some u)\/((env.kindOf x=some .cell\/env.kindOf x=some .free)/\∃c,env.cells.lookup x=some c/\h.IsCell c (some u))
structure Cx.Ok(X:Cx):Prop where
 mod:Mod X.K X.mg X.base
 kind:X.env.scope.kind=.function
 glob:X.env.globals=Am
 blt:X.env.builtins=builtinsNs
 above:X.s₀.heap.objs.size<=X.env.locals
 inj:∀x y c,X.env.cells.lookup x=some c->X.env.cells.lookup y=some c->x=y
 has:∀x,(X.env.kindOf x=some .cell\/X.env.kindOf x=some .free)->∃c,X.env.cells.lookup x=some c
 cab:∀x c,X.fn x=true->X.env.cells.lookup x=some c->X.s₀.heap.objs.size<=c
 hd:X.calm=true->X.A.handled=none
 frames:X.A.frames=some X.stack
 stk:X.stack=X.outer\/(X.stack=X.env::X.outer/\X.env.frame=some X.env.locals)
 exf:∀b∈X.ex,b≠X.env.locals/\∀x c,X.env.cells.lookup x=some c->c≠b
 bs:∀b o,X.base.get? b=some o->X.s₀.heap.get? b=some o/\X.H₀ b=none
 bsz:X.base.objs.size<=X.s₀.heap.objs.size
 noex:∀b o,X.base.get? b=some o->b∉X.ex
 exfs:∀b∈X.ex,b∉X.fs
 funs:X.s₀.heap.FunFrames X.base X.outer
 frf:∀b∈X.fs,X.H₀ b=none
structure Inv(X:Cx)(pins:List (BZ×CC))(σ:List (Option V))(H:Hp)(s:BY):Prop where
 ok:X.Ok
 os:s.os=X.s₀.os
 bare:AllBare s.gens
 base:Un X.fs X.ex X.H₀ H X.s₀.heap s.heap
 loc:∃m,s.heap.Ns X.env.locals m/\∀ (i:Nat) (x:Str) (v:V),X.N[i]? =some x->σ[i]? =some (some v)->Vis X.env.scope x->∃u,RelV v u/\Look X.env s.heap m x u
 cell:∀x c,X.env.cells.lookup x=some c->∃v,s.heap.IsCell c v
 free:H X.env.locals=none
 freeC:∀x c,X.env.cells.lookup x=some c->H c=none
 pin:∀p∈X.pn++pins,s.heap.get? p.1=some p.2/\H p.1=none/\p.1≠X.env.locals/\p.1∉X.fs/\∀v,p.2.data≠ .cell v
 hok:HOk X.prog X.w H s.heap
 len:σ.length=X.N.length
variable {X:Cx}{pins:List (BZ×CC)}{σ:List (Option V)}{s:BY}
def Cx.Ok.nofr(ok:X.Ok){o:CC}(e:X.base.get? b=some o):b∉X.fs:=λhb=>by have:=(ok.funs.mem hb).1;rw[e] at this;cases this
def Inv.bs(I:Inv X pins σ H s):∀b o,X.base.get? b=some o->s.heap.get? b=some o/\H b=none:=λb o e=>⟨I.base.keep b o (I.ok.bs b o e).1 (I.ok.bs b o e).2 (I.ok.nofr e)<|I.ok.noex b o e,I.base.free b o (I.ok.bs b o e).1 (I.ok.bs b o e).2<|I.ok.noex b o e⟩
def Inv.bk(I:Inv X pins σ H s):∀b o,X.base.get? b=some o->s.heap.get? b=some o:=λb o e=>(I.bs b o e).1
def Inv.mod(I:Inv X pins σ H s):Mod X.K X.mg X.base:=I.ok.mod
def Inv.kIn(I:Inv X pins σ H s):X.K.In s.heap:=I.ok.mod.kin.keeps I.bk
def Inv.lt(I:Inv X pins σ H s):X.env.locals<s.heap.objs.size:=let ⟨_,hn,_⟩:=I.loc;hn.lt
def Inv.sz(I:Inv X pins σ H s):X.s₀.heap.objs.size<=s.heap.objs.size:=cF I.ok.above<|cX I.lt
def Inv.nofs(I:Inv X pins σ H s)(h:s.heap.objs.size<=a):a∉X.fs:=λhb=>by obtain⟨_,o,ho,_⟩:=I.ok.funs.mem hb;exact absurd (aZ (aM ho)<|cF I.sz h)<|dH _
def Inv.cne(I:Inv X pins σ H s):∀x c,X.env.cells.lookup x=some c->c≠X.env.locals:=λx c e z=>by obtain⟨v,o,ho,hd⟩:=I.cell x c e;obtain⟨m,⟨o',es,ep,ho',hd',_⟩,_⟩:=I.loc;rw[z,ho'] at ho;cases ho;rw[hd'] at hd;cases hd
def Inv.funs(I:Inv X pins σ H s):s.heap.FunFrames X.base X.outer:=by
 have all:∀ (l:List Env),(∀b∈frs l,b∈X.fs)->X.s₀.heap.FunFrames X.base l->s.heap.FunFrames X.base l:=by
  intro l
  induction l with
  |nil=>intro _ _;trivial
  |cons env r ih=>
   intro hs hl;obtain⟨hk,⟨L,o,hf,hn,ho,hd⟩,hr⟩:=hl;have hL:=hs L (by unfold frs;rw[gF,hf];exact aG);obtain⟨sl,e⟩:=I.base.slot L o ho (I.ok.frf L hL) hL λz=>I.ok.exfs L z hL
   exact⟨hk,⟨L,_,hf,hn,e,hd⟩,ih (λb hb=>hs b<|by unfold frs;rw[gF,hf];exact aF _ hb) hr⟩
 exact all X.outer (λ_ hb=>hb) I.ok.funs
def Inv.stack(I:Inv X pins σ H s):s.heap.FunFrames X.base X.stack:=by
 rcases I.ok.stk with e|⟨e,hf⟩
 ·rw[e];exact I.funs
 ·rw[e];obtain⟨m,hn,_⟩:=I.loc;refine .cons (by rw[I.ok.kind];decide) hf hn ?_ I.funs;exact Heap.get?_none_of_le<|cF I.ok.bsz I.ok.above
def Inv.stkSub(I:Inv X pins σ H s):∀b∈frs X.stack,b∈X.env.locals::X.fs:=λb hb=>by
 rcases I.ok.stk with e|⟨e,hf⟩
 ·rw[e] at hb;exact aF _ hb
 ·rw[e] at hb;unfold frs at hb;rw[gF,hf] at hb;exact hb
def Inv.stkFree(I:Inv X pins σ H s):∀b∈frs X.stack,H b=none:=λb hb=>by
 rcases aP.mp (I.stkSub b hb) with e|hb
 ·rw[e];exact I.free
 ·obtain⟨_,o,ho,_⟩:=I.ok.funs.mem hb;exact I.base.free b o ho (I.ok.frf b hb) λz=>I.ok.exfs b z hb
def Inv.step{ch:List BZ}(I:Inv X pins σ H s)(hch:∀b∈ch,(b∈X.ex\/X.s₀.heap.objs.size<=b)/\b≠X.env.locals/\(∀x c,X.env.cells.lookup x=some c->c≠b)/\∀p∈X.pn++pins,p.1≠b)(keep:∀b o,b≠X.env.locals->b∉X.fs->b∉ch->s.heap.get? b=some o->H b=none->h'.get? b=some o)(slot:∀b o,b≠X.env.locals->b∈X.fs->b∉ch->s.heap.get? b=some o->H b=none->∃sl,h'.get? b=some {o with slots:=sl}) (free:∀b o,b∉ch->s.heap.get? b=some o->H b=none->H' b=none)(there:∀b o,b∉ch->s.heap.get? b=some o->∃o',h'.get? b=some o')(tups:∀b xs,H b=some (.tup xs)->H' b=some (.tup xs)) (frzs:∀b o u,H b=some (.frz o u)->H' b=some (.frz o u)) (tbls:∀b ps,H b=some (.tbl ps)->∃more,H' b=some (.tbl<|ps++more))(ns:∀m,s.heap.Ns X.env.locals m->h'.Ns X.env.locals m) (hok:HOk X.prog X.w H' h') (hg:AllBare g'):Inv X pins σ H' {s with heap:=h',gens:=g',drawn:=d',toks:=t'}:=by
 have neL:∀b o,X.s₀.heap.get? b=some o->b≠X.env.locals:=λb o e=>bC<|aZ (aM e) I.ok.above
 have neC:∀b o,X.s₀.heap.get? b=some o->b∉X.ex->b∉ch:=λb o e hx hb=>by
  rcases(hch b hb).1 with z|z
  ·exact hx z
  ·exact absurd (aZ (aM e) z)<|dH _
 have cellK:∀x c,X.env.cells.lookup x=some c->∀v,s.heap.IsCell c v->h'.IsCell c v:=λx c e v ⟨o,ho,hd⟩=>by
  have nch:=λz=>(hch c z).2.2.1 x c e rfl
  by_cases hc:c∈X.fs
  ·obtain⟨sl,q⟩:=slot c o (I.cne x c e) hc nch ho<|I.freeC x c e;exact⟨_,q,hd⟩
  ·exact⟨o,keep c o (I.cne x c e) hc nch ho<|I.freeC x c e,hd⟩
 refine⟨I.ok,I.os,hg,⟨λb o e n hb hx=>?_,λb o e n hb hx=>?_,λb o e n hx=>?_,λb o e hx=>?_,λb xs e=>tups b xs<|I.base.tups b xs e,λb o xs e=>frzs b o xs<|I.base.frzs b o xs e,λb ps e=>?_⟩,?_,λx c e=>?_,?_,λx c e=>?_,λp hp=>?_,hok,I.len⟩
 ·exact keep b o (neL b o e) hb (neC b o e hx) (I.base.keep b o e n hb hx)<|I.base.free b o e n hx
 ·obtain⟨sl,e1⟩:=I.base.slot b o e n hb hx;obtain⟨sl',e2⟩:=slot b _ (neL b o e) hb (neC b o e hx) e1<|I.base.free b o e n hx;exact⟨sl',e2⟩
 ·obtain⟨o',e1⟩:=I.base.there b o e hx;exact free b o' (neC b o e hx) e1<|I.base.free b o e n hx
 ·obtain⟨o',e1⟩:=I.base.there b o e hx;exact there b o' (neC b o e hx) e1
 ·obtain⟨m1,e1⟩:=I.base.tbls b ps e;obtain⟨m2,e2⟩:=tbls b _ e1;exact⟨m1++m2,by rw[e2,Array.append_assoc]⟩
 ·obtain⟨m,hn,hl⟩:=I.loc;refine⟨m,ns m hn,λi x v e1 e2 e3=>?_⟩;obtain⟨u,r,l⟩:=hl i x v e1 e2 e3;refine⟨u,r,?_⟩
  rcases l with l|⟨k,c,e,z⟩
  ·exact .inl l
  ·exact .inr ⟨k,c,e,cellK x c e _ z⟩
 ·obtain⟨v,z⟩:=I.cell x c e;exact⟨v,cellK x c e v z⟩
 ·obtain⟨m,⟨o,_,_,ho,_⟩,_⟩:=I.loc;exact free _ o (λz=>(hch _ z).2.1 rfl) ho I.free
 ·obtain⟨v,o,ho,hd⟩:=I.cell x c e;exact free c o (λz=>(hch c z).2.2.1 x c e rfl) ho<|I.freeC x c e
 ·obtain⟨e,n,ne,nf,d⟩:=I.pin p hp;have nch:=λz=>(hch p.1 z).2.2.2 p hp rfl
  exact⟨keep p.1 p.2 ne nf nch e n,free p.1 p.2 nch e n,ne,nf,d⟩
def Inv.un(I:Inv X pins σ H s)(u:Un X.fs [] H H' s.heap h')(hok:HOk X.prog X.w H' h'):Inv X pins σ H' {s with heap:=h',toks:=t'}:=by
 obtain⟨m,⟨o,es,ep,ho,r⟩,_⟩:=id I.loc;obtain⟨sl,hL⟩:=u.any ho I.free<|by simp
 exact I.step (ch:=[]) (fun _ z=>nomatch z) (fun b o _ hb _ e n=>u.keep b o e n hb (by simp)) (fun b o _ hb _ e n=>u.slot b o e n hb (by simp)) (fun b o _ e n=>u.free b o e n (by simp)) (fun b o _ e=>u.there b o e (by simp)) u.tups u.frzs u.tbls (fun m' hm=>by
  obtain⟨o',es',ep',ho',r'⟩:=hm;rw[ho] at ho';cases ho'
  exact⟨_,es',ep',hL,r'⟩) hok I.bare
def Inv.call(I:Inv X pins σ H s)(u:Un (frs X.stack) ch H H' s.heap h')(hok:HOk X.prog X.w H' h')(hg:AllBare g')(hch:∀b∈ch,(b∈X.ex\/X.s₀.heap.objs.size<=b)/\b≠X.env.locals/\(∀x c,X.env.cells.lookup x=some c->c≠b)/\∀p∈X.pn++pins,p.1≠b):Inv X pins σ H' {s with heap:=h',gens:=g',drawn:=d',toks:=t'}:=by
 obtain⟨m,⟨o,es,ep,ho,r⟩,_⟩:=id I.loc;obtain⟨sl,hL⟩:=u.any ho I.free λz=>(hch _ z).2.1 rfl
 exact I.step hch (fun b o hL hb hc e n=>u.keep b o e n (fun z=>(aP.mp (I.stkSub b z)).elim hL hb) hc) (fun b o _ _ hc e n=>u.any e n hc) (fun b o hc e n=>u.free b o e n hc) (fun b o hc e=>u.there b o e hc) u.tups u.frzs u.tbls (fun m' hm=>by
  obtain⟨o',es',ep',ho',r'⟩:=hm;rw[ho] at ho';cases ho'
  exact⟨_,es',ep',hL,r'⟩) hok hg
def Inv.turned(I:Inv X pins σ H s)(k:∀b o,b≠it->s.heap.get? b=some o->h'.get? b=some o)(hn:H it=none)(hL:it≠X.env.locals)(h1:it∈X.ex\/X.s₀.heap.objs.size<=it) (h2:∀x c,X.env.cells.lookup x=some c->c≠it) (h3:∀p∈X.pn++pins,p.1≠it):Inv X pins σ H {s with heap:=h',toks:=t'}:=by
 have nit:∀b u,H b=some u->b≠it:=λb u e z=>by rw[z,hn] at e;cases e
 refine I.step (ch:=[it]) (λb hb=>?_) (λb o _ _ hc e _=>k b o (λz=>hc<|by simp[z]) e) (λb o _ _ hc e _=>⟨o.slots,k b o (λz=>hc<|by simp[z]) e⟩) (λ_ _ _ _ n=>n)
  (λb o hc e=>⟨o,k b o (λz=>hc<|by simp[z]) e⟩) (λ_ _ e=>e) (λ_ _ _ e=>e) (λb ps e=>⟨#[],by rw[e];simp⟩) (λm hm=>?_) (λb u e=>?_) I.bare
 ·have e:=by simpa using hb
  subst e;exact⟨h1,hL,h2,h3⟩
 ·obtain⟨o,es,ep,ho,r⟩:=hm;exact⟨o,es,ep,k _ o (Ne.symm hL) ho,r⟩
 ·refine(I.hok b u e).stay (λc v hc q=>k c v ?_ q) (λ_ q=>q) λ_ _ q=>q
  rcases hc with z|z
  ·rw[z];exact nit b u e
  ·exact nit c _ z
def Inv.tok(I:Inv X pins σ H s)(t:Nat):Inv X pins σ H {s with toks:=t}:=I.un Un.refl I.hok
def Inv.kept(I:Inv X pins σ H s)(k:∀b u,s.heap.get? b=some u->h'.get? b=some u):Inv X pins σ H {s with heap:=h',toks:=t'}:=I.un (Un.kept k)<|I.hok.kept k
def Inv.laid(I:Inv X pins σ H s)(k:∀b u,s.heap.get? b=some u->h'.get? b=some u)(hp:s.heap.objs.size<=a)(new:ObjOk X.prog X.w (upd H a o) h' a o):Inv X pins σ (upd H a o) {s with heap:=h',toks:=t'}:=I.un (Un.laid k hp<|I.hok.fresh hp)<|I.hok.laid k hp new
def Inv.write(I:Inv X pins σ H s)(mu:Mut (H x))(he:e=x\/H e=some (.own x))(k:∀b u,b≠e->s.heap.get? b=some u->h'.get? b=some u)(heo:∃u,h'.get? e=some u)(new:ObjOk X.prog X.w (upd H x o) h' x o):Inv X pins σ (upd H x o) {s with heap:=h',toks:=t'}:=I.un (Un.write mu he k heo)<|I.hok.write mu he k heo new
def Inv.pins_of(I:Inv X pins σ H s)(h:∀p∈pins',s.heap.get? p.1=some p.2/\H p.1=none/\p.1≠X.env.locals/\p.1∉X.fs/\∀v,p.2.data≠ .cell v):Inv X pins' σ H s:=
 ⟨I.ok,I.os,I.bare,I.base,I.loc,I.cell,I.free,I.freeC,λp hp=>(aS.mp hp).elim (λz=>I.pin p<|bP _ z)<|h p,I.hok,I.len⟩
def aCy{N:List Str}(hN:N.Nodup){i j:Nat}{x:Str}(a:N[i]? =some x)(b:N[j]? =some x):i=j:=by obtain⟨h1,e1⟩:=aE.mp a;obtain⟨h2,e2⟩:=aE.mp b;exact(fI hN).mp<|e1.trans e2.symm
def aGn{x:Str}(I:Inv X pins σ H s)(hN:X.N.Nodup)(hi:X.N[i]? =some x)(hx:Loc X.env.scope x)(r:RelV v u)(h:∀s',Inv X pins (σ.set i (some v)) H s'->(∃a,Heap.SameBut a s.heap s'.heap/\(a=X.env.locals\/X.env.cells.lookup x=some a))->Q () s') (hf:X.fn x=true\/X.env.scope.names.lookup x=some .local:=by first|exact .inl rfl|exact .inr rfl|assumption):AH M A (storeName X.env x u) Q E s:=by
 obtain⟨m,hn,hl⟩:=id I.loc;have hcls:(X.env.scope.kind==.class||(X.env.scope.kind==.module&&X.env.locals !=X.env.globals))=false:=by rw[I.ok.kind];rfl
 have hiσ:i<σ.length:=by rw[I.len];exact(aE.mp hi).1
 have cne:=I.cne
 have tracked:∀ {a:BZ}{h':CB},(∃o,s.heap.get? a=some o/\H a=none)->Heap.SameBut a s.heap h'->HOk X.prog X.w H h':=λ{a h'} ha hs b ob e=>by
  obtain⟨_,_,hfree⟩:=ha;refine(I.hok b ob e).stay (λc w' hc q=>(hs.2 c ?_).trans q) (λ_ q=>q) λ_ _ q=>q
  rintro rfl
  rcases hc with rfl|hc
  ·rw[hfree] at e;cases e
  ·rw[hfree] at hc;cases hc
 rcases hx with hk|hk
 ·refine wpAny_storeName_local hk hn (λh' hn' hs=>?_) hcls;obtain⟨oL,_,_,hoL,_⟩:=id hn;refine h _ ⟨I.ok,I.os,I.bare,⟨λb o e n hb hx=>?_,λb o e n hb hx=>?_,I.base.free,λb o e hx=>?_,I.base.tups,I.base.frzs,I.base.tbls⟩,⟨_,hn',λj y v' e1 e2 e3=>?_⟩,λy c e=>?_,I.free,I.freeC,λp hp=>?_,tracked ⟨oL,hoL,I.free⟩ hs,by simpa using I.len⟩ ⟨_,hs,.inl rfl⟩
  ·exact(hs.2 b (bC<|aZ (aM e) I.ok.above)).trans<|I.base.keep b o e n hb hx
  ·obtain⟨sl,e1⟩:=I.base.slot b o e n hb hx;exact⟨sl,(hs.2 b (bC<|aZ (aM e) I.ok.above)).trans e1⟩
  ·obtain⟨o',e1⟩:=I.base.there b o e hx;exact⟨o',(hs.2 b (bC<|aZ (aM e) I.ok.above)).trans e1⟩
  ·by_cases hj:j=i
   ·subst hj;rw[hi] at e1;cases e1;rw[iJ hiσ] at e2;cases e2;exact⟨u,r,.inl ⟨hk,by simp⟩⟩
   ·rw[lX<|Ne.symm hj] at e2;obtain⟨u',r',q⟩:=hl j y v' e1 e2 e3;refine⟨u',r',?_⟩
    rcases q with⟨k,e⟩|⟨k,c,e,z⟩
    ·refine .inl ⟨k,?_⟩;have:y≠x:=λe=>hj (aCy hN e1<|e▸hi)
     simp[this,e]
    ·exact .inr ⟨k,c,e,z.sameBut hs<|cne y c e⟩
  ·obtain⟨w',z⟩:=I.cell y c e;exact⟨w',z.sameBut hs<|cne y c e⟩
  ·obtain⟨e,n,ne,nf,d⟩:=I.pin p hp;exact⟨(hs.2 p.1 ne).trans e,n,ne,nf,d⟩
 ·have hfn:X.fn x=true:=by
   rcases hf with z|z
   ·exact z
   ·rw[z] at hk;cases hk
  obtain⟨c,hc⟩:=I.ok.has x<|.inl hk;obtain⟨w',z⟩:=I.cell x c hc;refine wpAny_storeName_cell I.ok.kind hk hc z λh' hc' hs=>?_;obtain⟨oc,hoc,hocd⟩:=id z;refine h {s with heap:=h'} ⟨I.ok,I.os,I.bare,⟨λb o e n hb hx=>?_,λb o e n hb hx=>?_,I.base.free,λb o e hx=>?_,I.base.tups,I.base.frzs,I.base.tbls⟩,⟨m,hn.sameBut hs (Ne.symm<|cne x c hc),λj y v' e1 e2 e3=>?_⟩,λy c' e=>?_,I.free,I.freeC,λp hp=>?_,tracked ⟨oc,hoc,I.freeC x c hc⟩ hs,by simpa using I.len⟩ ⟨c,hs,.inr hc⟩
  ·exact(hs.2 b<|bC (aZ (aM e)<|I.ok.cab x c hfn hc)).trans<|I.base.keep b o e n hb hx
  ·obtain⟨sl,e1⟩:=I.base.slot b o e n hb hx;exact⟨sl,(hs.2 b<|bC (aZ (aM e)<|I.ok.cab x c hfn hc)).trans e1⟩
  ·obtain⟨o',e1⟩:=I.base.there b o e hx;exact⟨o',(hs.2 b<|bC (aZ (aM e)<|I.ok.cab x c hfn hc)).trans e1⟩
  ·by_cases hj:j=i
   ·subst hj;rw[hi] at e1;cases e1;rw[iJ hiσ] at e2;cases e2;exact⟨u,r,.inr ⟨.inl hk,c,hc,hc'⟩⟩
   ·rw[lX<|Ne.symm hj] at e2;obtain⟨u',r',q⟩:=hl j y v' e1 e2 e3;refine⟨u',r',?_⟩
    rcases q with q|⟨k,c',e,z'⟩
    ·exact .inl q
    ·refine .inr ⟨k,c',e,z'.sameBut hs ?_⟩;rintro rfl;exact hj (aCy hN e1<|I.ok.inj _ _ _ e hc▸hi)
  ·by_cases hcc:c'=c
   ·subst hcc;exact⟨_,hc'⟩
   ·obtain⟨w2,z2⟩:=I.cell y c' e;exact⟨w2,z2.sameBut hs hcc⟩
  ·obtain⟨e,n,ne,nf,d⟩:=I.pin p hp;refine⟨(hs.2 p.1 ?_).trans e,n,ne,nf,d⟩;intro q;rw[q,hoc] at e;have q':=bW.inj e;exact d w' (by rw[<-q'];exact hocd)
def aCz{x:Str}(I:Inv X pins σ H s)(hN:X.N.Nodup)(hi:X.N[i]? =some x)(hx:Loc X.env.scope x)(r:RelV v u)(h:∀s',Inv X pins (σ.set i (some v)) H s'->Q () s') (hf:X.fn x=true\/X.env.scope.names.lookup x=some .local:=by first|exact .inl rfl|exact .inr rfl|assumption):AH M A (storeName X.env x u) Q E s:=
 aGn I hN hi hx r (λs' I' _=>h s' I') hf
def Inv.call'(I:Inv X pins σ H s)(ho:s'.os=s.os)(u:Un (frs X.stack) ch H H' s.heap s'.heap)(hok:HOk X.prog X.w H' s'.heap)(hg:AllBare s'.gens)(hch:∀b∈ch,(b∈X.ex\/X.s₀.heap.objs.size<=b)/\b≠X.env.locals/\(∀x c,X.env.cells.lookup x=some c->c≠b)/\∀p∈X.pn++pins,p.1≠b):Inv X pins σ H' s':=by
 obtain⟨h',g',d',t',o'⟩:=s';have e:=ho;subst e;exact I.call u hok hg hch
abbrev XK:=BX->Option BZ->Hp->Prop
abbrev St:=List<|Option V
abbrev VK:=V->Hp->Prop
abbrev TE:=St->Hp->VK->Prop
abbrev TT:=St->Hp->(Bool->Hp->Prop)->Prop
abbrev TA:=St->Hp->(List V->Hp->Prop)->Prop
structure vL where
 nx:St->Hp->Prop
 rt:VK
 bk:St->Hp->Prop:=λ_ _=>False
 ct:St->Hp->Prop:=λ_ _=>False
abbrev TS:=vL->St->Hp->Prop
def EP(X:Cx)(pins:List (BZ×CC))(σ:St)(Q:VK)(u:BX)(s':BY):Prop:=∃v H',Inv X pins σ H' s'/\RelV v u/\Q v H'
def TP(X:Cx)(pins:List (BZ×CC))(σ:St)(Q:Bool->Hp->Prop)(b:Bool)(s':BY):Prop:=∃H',Inv X pins σ H' s'/\Q b H'
def AP(X:Cx)(pins:List (BZ×CC))(σ:St)(Q:List V->Hp->Prop)(us:List BX)(s':BY):Prop:=∃vs H',Inv X pins σ H' s'/\Vals vs us/\Q vs H'
def SP(X:Cx)(pins:List (BZ×CC))(D:vL)(f:Flow)(s':BY):Prop:=
 match f with
 |.next=>∃σ' H',Inv X pins σ' H' s'/\D.nx σ' H'
 |.brk=>∃σ' H',Inv X pins σ' H' s'/\D.bk σ' H'
 |.cont=>∃σ' H',Inv X pins σ' H' s'/\D.ct σ' H'
 |.ret u=>∃v σ' H',Inv X pins σ' H' s'/\RelV v u/\D.rt v H'
def PE(X:Cx)(e:Expr)(t:TE):Prop:=
 ∀ (pins:List (BZ×CC)) (s:BY) (σ:St) (H:Hp) (Q:VK),Inv X pins σ H s->t σ H Q->AH (AD X.prog X.w) X.A (eval e X.env) (EP X pins σ Q) X.xe s
def PT(X:Cx)(e:Expr)(t:TT):Prop:=
 ∀ (pins:List (BZ×CC)) (s:BY) (σ:St) (H:Hp) (Q:Bool->Hp->Prop),Inv X pins σ H s->t σ H Q->AH (AD X.prog X.w) X.A (isTrue e X.env<|eval e X.env) (TP X pins σ Q) X.xe s
def PW(X:Cx)(e:Expr)(t:TT):Prop:=
 ∀ (whole:Sem BX) (pins:List (BZ×CC)) (s:BY) (σ:St) (H:Hp) (Q:Bool->Hp->Prop),Inv X pins σ H s->t σ H Q->AH (AD X.prog X.w) X.A (isTrue e X.env whole) (TP X pins σ Q) X.xe s
def PW.pt{e:Expr}(h:PW X e t):PT X e t:=h _
def PA(X:Cx)(es:List Expr)(t:TA):Prop:=
 ∀ (pos:Pos) (pins:List (BZ×CC)) (s:BY) (σ:St) (H:Hp) (Q:List V->Hp->Prop),Inv X pins σ H s->t σ H Q->AH (AD X.prog X.w) X.A (spliced (BH pos<|AE es X.env)) (AP X pins σ Q) X.xe s
def PS(X:Cx)(st:CD)(t:TS):Prop:=
 ∀ (pins:List (BZ×CC)) (s:BY) (σ:St) (H:Hp) (D:vL),Inv X pins σ H s->t D σ H->AH (AD X.prog X.w) X.A (exec st X.env) (SP X pins D) X.xe s
def PSs(X:Cx)(st:List CD)(t:TS):Prop:=
 ∀ (pins:List (BZ×CC)) (s:BY) (σ:St) (H:Hp) (D:vL),Inv X pins σ H s->t D σ H->AH (AD X.prog X.w) X.A (execs st X.env) (SP X pins D) X.xe s
def thn{M:Model}{A:CA}{E:BX->BY->Prop}(h:AH M A t Q E s)(hQ:∀a s,Q a s->Q' a s):AH M A t Q' E s:=Ak h hQ λ_ _ x=>x
def kU(i:Nat):TE:=λσ H Q=>∃v,σ[i]? =some (some v)/\Q v H
def tC(v:V):TE:=λ_ H Q=>Q v H
def aOR{x:Str}{pos:Pos}(hN:X.N[i]? =some x)(hv:Vis X.env.scope x)(hd:(x==("__debug__":Str))=false:=by decide)(hcd:(x==("__classdict__":Str))=false:=by decide):PE X (.Name x pos) (kU i):=by
 intro pins s σ H Q I h;obtain⟨v,e,h⟩:=h;obtain⟨m,hn,hl⟩:=I.loc;obtain⟨u,r,l⟩:=hl i x v hN e hv;have fin:EP X pins σ Q u s:=⟨v,H,I,r,h⟩
 rcases l with⟨hk,hm⟩|⟨hk,c,hc,hcell⟩
 ·exact wpAny_Name (wpAny_loadName_local I.ok.kind hk hn hm fin) hd
 ·rcases hk with hk|hk
  ·exact wpAny_Name (wpAny_loadName_cell I.ok.kind hk hc hcell fin) hd
  ·exact wpAny_Name (wpAny_loadName_free I.ok.kind hk hc hcell fin hcd) hd
def pe_int:PE X (.Constant (.int i) j pos) (tC<|.int i):=λ_ _ _ H _ I h=>wpAny_Constant_int ⟨.int i,H,I.tok _,⟨_,rfl⟩,h⟩
def pe_bl:PE X (.Constant (.bool b) j pos) (tC<|.bl b):=λ_ _ _ H _ I h=>Constant_bool ⟨.bl b,H,I,rfl,h⟩
def pe_non:PE X (.Constant .none j pos) (tC .non):=λ_ _ _ H _ I h=>Constant_none ⟨.non,H,I,rfl,h⟩
def pe_str{x j pos}:PE X (.Constant (.str x) j pos) (tC<|.str x):=λ_ _ _ H _ I h=>Calls.Constant_str ⟨.str x,H,I.tok _,⟨_,rfl⟩,h⟩
def Gl(X:Cx)(x:Str):Prop:=X.env.kindOf x=some .globalImplicit
def aFj{σ:St}{x:Str}(I:Inv X pins σ H s)(hg:Gl X x)(hm:X.mg x=some u)(h:Q u s)(hd:(x==("__debug__":Str))=false:=by decide):AH (AD X.prog X.w) X.A (eval (.Name x pos) X.env) Q E s:=
 Calls.Name_function_global I.ok.kind hg (Calls.loadGlobal_global (by rw[I.ok.glob];exact I.mod.glob.keeps I.bk) hm h) hd
def mM{E:BX->BY->Prop}{σ:St}{x:Str}{pos:Pos}(I:Inv X pins σ H s)(hg:Gl X x)(hm:X.mg x=none)(hv:Aw x=some u)(h:Q u s)(hn:x≠"__name__":=by decide) (hd:(x==("__debug__":Str))=false:=by decide):AH (AD X.prog X.w) X.A (eval (.Name x pos) X.env) Q E s:=by
 obtain⟨mb,h1,h2⟩:=I.mod.blt;exact Calls.Name_function_global I.ok.kind hg (Calls.loadGlobal_builtin (by rw[I.ok.glob];exact I.mod.glob.keeps I.bk) hm (by rw[I.ok.blt];exact h1.keeps I.bk) ((h2 x hn).trans hv) h) hd
def aFu{x:Str}(hg:Gl X x)(hm:X.mg x=some u)(r:RelV v u)(hd:(x==("__debug__":Str))=false:=by decide):PE X (.Name x pos) (tC v):=
 λ_ _ _ H _ I h=>aFj I hg hm ⟨v,H,I,r,h⟩ hd
def aLZ{x:Str}{pos:Pos}(hg:Gl X x)(hm:X.mg x=none)(hv:Aw x=some u)(r:RelV v u)(hn:x≠"__name__":=by decide)(hd:(x==("__debug__":Str))=false:=by decide):PE X (.Name x pos) (tC v):=
 λ_ _ _ H _ I h=>mM I hg hm hv ⟨v,H,I,r,h⟩ hn hd
def t2I(ta tb:TE)(k:Int->Int->Hp->Prop):St->Hp->Prop:=λσ H=>ta σ H λx H1=>tb σ H1 λy H2=>∃i j,x=.int i/\y=.int j/\k i j H2
variable {a b:Expr}{ta tb:TE}{pos:Pos}
def aMW(p:Int->Int->Bool)(ta tb:TE):TE:=λσ H Q=>t2I ta tb (λi j H2=>Q (.bl<|p i j) H2) σ H
abbrev tLt:TE->TE->TE:=aMW λi j=>decide<|i<j
abbrev tLe:TE->TE->TE:=aMW λi j=>decide<|i<=j
abbrev tGt:TE->TE->TE:=aMW λi j=>decide<|j<i
abbrev tGe:TE->TE->TE:=aMW λi j=>decide<|j<=i
abbrev tEqI:TE->TE->TE:=aMW λi j=>decide<|i=j
abbrev tNeI:TE->TE->TE:=aMW λi j=> !decide (i=j)
def tB(t:TE):TT:=λσ H Q=>t σ H λx H1=>∃c,x=.bl c/\Q c H1
theorem aPB{e:Expr}(h:PE X e t)(he:∀whole,isTrue e X.env whole=(do let v <-whole;standAt e.pos;holding [v] (truthy v)):=by intro _;rfl):PT X e (tB t):=by intro pins s σ H Q I hw;refine isTrue_plain (thn (h pins s σ H _ I hw) λv s1 ⟨x,H1,I1,r1,q1⟩=>?_)<|he _;obtain⟨d,rfl,q⟩:=q1;cases r1;exact Ac ⟨H1,I1,q⟩
variable {tA tB':TT}{rest:List Expr}
def tAnd(t u:TT):TT:=λσ H Q=>t σ H λc H1=>if c=true then u σ H1 Q else Q false H1
def tOr(t u:TT):TT:=λσ H Q=>t σ H λc H1=>if c=true then Q true H1 else u σ H1 Q
def tNot(t:TT):TT:=λσ H Q=>t σ H λc H1=>Q (!c) H1
def aMz(ha:PT X a tA):PW X (.BoolOp .And [a] pos) tA:=by
 intro wh pins s σ H Q I h;refine isTrue_and<|thn (ha pins s σ H Q I h) λc s1 e=>?_;cases c with
 |true=>exact isTrue_and_nil e
 |false=>exact e
def aPm(ha:PT X a tA):PW X (.BoolOp .Or [a] pos) tA:=by
 intro wh pins s σ H Q I h;refine isTrue_or<|thn (ha pins s σ H Q I h) λc s1 e=>?_;cases c with
 |false=>exact isTrue_or_nil e
 |true=>exact e
theorem aOs(ha:PT X a tA)(hb:PW X (.BoolOp .And (b::rest) pos) tB'):PW X (.BoolOp .And (a::b::rest) pos) (tAnd tA tB'):=by
 intro wh pins s σ H Q I h;refine isTrue_and<|thn (ha pins s σ H _ I h) λc s1 ⟨H1,I1,q1⟩=>?_;cases c with
 |true=>exact hb wh pins s1 σ H1 Q I1 q1
 |false=>exact⟨H1,I1,q1⟩
theorem aRf(ha:PT X a tA)(hb:PW X (.BoolOp .Or (b::rest) pos) tB'):PW X (.BoolOp .Or (a::b::rest) pos) (tOr tA tB'):=by
 intro wh pins s σ H Q I h;refine isTrue_or<|thn (ha pins s σ H _ I h) λc s1 ⟨H1,I1,q1⟩=>?_;cases c with
 |true=>exact⟨H1,I1,q1⟩
 |false=>exact hb wh pins s1 σ H1 Q I1 q1
theorem aOU(ha:PT X a tA):PT X (.UnaryOp .Not a pos) (tNot tA):=by intro pins s σ H Q I h;exact isTrue_not<|ha pins s σ H (λc H1=>Q (!c) H1) I h
def aRe(ta tb:TE):TE:=λσ H Q=>ta σ H λx H1=>∃c,x=.bl c/\if c=true then tb σ H1 Q else Q (.bl false) H1
def tOrV(ta tb:TE):TE:=λσ H Q=>ta σ H λx H1=>∃c,x=.bl c/\if c=true then Q (.bl true) H1 else tb σ H1 Q
def aRn(ta:TE):TE:=λσ H Q=>ta σ H λx H1=>∃c,x=.bl c/\Q (.bl<|!c) H1
def aPR(h:PE X a t):PE X (.BoolOp op [a] pos) t:=λpins s σ H Q I hw=>BoolOp_one<|h pins s σ H Q I hw
theorem aPa(ha:PE X a ta)(hb:PE X (.BoolOp .And (b::rest) pos) tb):PE X (.BoolOp .And (a::b::rest) pos) (aRe ta tb):=by
 intro pins s σ H Q I h;refine BoolOp_and<|thn (ha pins s σ H _ I h) λv s1 ⟨x,H1,I1,r1,q1⟩=>?_;obtain⟨c,rfl,q1⟩:=q1;cases r1;refine Ac ?_;cases c with
 |true=>exact hb pins s1 σ H1 Q I1 q1
 |false=>exact⟨.bl false,H1,I1,rfl,q1⟩
theorem aRk(ha:PE X a ta)(hb:PE X (.BoolOp .Or (b::rest) pos) tb):PE X (.BoolOp .Or (a::b::rest) pos) (tOrV ta tb):=by
 intro pins s σ H Q I h;refine BoolOp_or<|thn (ha pins s σ H _ I h) λv s1 ⟨x,H1,I1,r1,q1⟩=>?_;obtain⟨c,rfl,q1⟩:=q1;cases r1;refine Ac ?_;cases c with
 |false=>exact hb pins s1 σ H1 Q I1 q1
 |true=>exact⟨.bl true,H1,I1,rfl,q1⟩
theorem aOu(ha:PE X a ta):PE X (.UnaryOp .Not a pos) (aRn ta):=by intro pins s σ H Q I h;refine UnaryOp_<|thn (ha pins s σ H _ I h) λv s1 ⟨x,H1,I1,r1,q1⟩=>?_;obtain⟨c,rfl,q1⟩:=q1;cases r1;exact not_of<|Ac ⟨.bl<|!c,H1,I1,rfl,q1⟩
def SqL(K:aB)(H:Hp)(a:BZ)(xs:List V):Prop:=
 Rd H a (.lst xs)\/
  ∃ (o:CC) (its:Array BX) (n:Nat),K.lookup a=some o/\o.cls=.type "list"/\o.dict=none/\o.data=.seq its n/\its.size<=AM/\Vals xs its.toList
def SqT(K:aB)(H:Hp)(a:BZ)(xs:List V):Prop:=
 Rd H a (.tup xs)\/
  ∃ (o:CC) (its:Array BX) (n:Nat),K.lookup a=some o/\o.cls=.type "tuple"/\o.data=.seq its n/\its.size<=AM/\Vals xs its.toList
noncomputable def absV:BX->Option V
 |.none=>some .non
 |.bool b=>some<|.bl b
 |.int i _=>some<|.int i
 |.str x _=>some<|.str x
 |.bytes b _=>some<|.byt b
 |.float b _=>some<|.flt b
 |.ref a=>some<|.ref a
 |.type n=>some<|.ty n
 |_=>none
def RelV.abs{x:V}(r:RelV x u):absV u=some x:=by
 cases x with
 |non=>cases r;rfl
 |bl _=>cases r;rfl
 |int _=>obtain⟨t,rfl⟩:=r;rfl
 |str _=>obtain⟨t,rfl⟩:=r;rfl
 |byt _=>obtain⟨t,rfl⟩:=r;rfl
 |flt _=>obtain⟨t,rfl⟩:=r;rfl
 |ref _=>cases r;rfl
 |ty _=>cases r;rfl
def RelV.inj{x y:V}(r:RelV x u)(q:RelV y u):x=y:=bW.inj<|r.abs.symm.trans q.abs
def Vals.inj:∀ {xs ys:List V}{us:List BX},Vals xs us->Vals ys us->xs=ys
 |_,_,_,.nil,.nil=>rfl
 |_,_,_,.cons r t,.cons r' t'=>by rw[r.inj r',Vals.inj t t']
variable {σ:St}{a:BZ}{xs ys:List V}
def SqL.of{K:aB}(h:H a=some (.lst xs)):SqL K H a xs:=.inl<|.inl h
def SqT.of{K:aB}(h:H a=some (.tup xs)):SqT K H a xs:=.inl<|.inl h
theorem Inv.list(I:Inv X pins σ H s)(h:SqL X.K H a xs):∃its:List BX,Vals xs its/\PlainL s.heap a its.toArray/\xs.length<=AM:=by
 rcases h with h|⟨o,its,n,hk,hc,hd,hs,hz,r⟩
 ·obtain⟨z,its,n,r,e⟩:=h.ok I.hok;exact⟨its,r,⟨_,n,e,rfl,rfl,rfl⟩,z⟩
 ·refine⟨its.toList,r,⟨o,n,I.kIn a o hk,hc,hd,by simpa using hs⟩,?_⟩;have e:=r.length;simp at e;lia
theorem Inv.tuple(I:Inv X pins σ H s)(h:SqT X.K H a xs):∃its:List BX,Vals xs its/\IsTup s.heap a its.toArray/\xs.length<=AM:=by
 rcases h with h|⟨o,its,n,hk,hc,hs,hz,r⟩
 ·obtain⟨z,its,r,p⟩:=h.ok I.hok;exact⟨its,r,p.tup,z⟩
 ·refine⟨its.toList,r,⟨o,I.kIn a o hk,hc,n,by simpa using hs⟩,?_⟩;have e:=r.length;simp at e;lia
def Inv.list_inj(I:Inv X pins σ H s)(h:SqL X.K H a xs)(h':SqL X.K H a ys):xs=ys:=by
 obtain⟨its,r,⟨o,n,e,_,_,d⟩,_⟩:=I.list h;obtain⟨its',r',⟨o',n',e',_,_,d'⟩,_⟩:=I.list h';rw[e] at e';cases e';rw[d] at d';injection d' with d1 _
 have:=by simpa using congrArg aQh d1
 subst this;exact r.inj r'
def Inv.tuple_inj(I:Inv X pins σ H s)(h:SqT X.K H a xs)(h':SqT X.K H a ys):xs=ys:=by
 obtain⟨its,r,⟨o,e,_,n,d⟩,_⟩:=I.tuple h;obtain⟨its',r',⟨o',e',_,n',d'⟩,_⟩:=I.tuple h';rw[e] at e';cases e';rw[d] at d';injection d' with d1 _
 have:=by simpa using congrArg aQh d1
 subst this;exact r.inj r'
noncomputable abbrev Cx.wish(X:Cx)(E:BX->BY->Prop):Cx:={X with xe:=E}
noncomputable abbrev Cx.nox(X:Cx):Cx:=X.wish λ_ _=>False
def Cx.Ok.wish(ok:X.Ok)(E:BX->BY->Prop):(X.wish E).Ok:=
 ⟨ok.mod,ok.kind,ok.glob,ok.blt,ok.above,ok.inj,ok.has,ok.cab,ok.hd,ok.frames,ok.stk,ok.exf,ok.bs,ok.bsz,ok.noex,ok.exfs,ok.funs,ok.frf⟩
def Cx.Ok.unwish(ok:(X.wish E).Ok):X.Ok:=
 ⟨ok.mod,ok.kind,ok.glob,ok.blt,ok.above,ok.inj,ok.has,ok.cab,ok.hd,ok.frames,ok.stk,ok.exf,ok.bs,ok.bsz,ok.noex,ok.exfs,ok.funs,ok.frf⟩
variable {E:BX->BY->Prop}
def Inv.wish(I:Inv X pins σ H s)(E:BX->BY->Prop):Inv (X.wish E) pins σ H s:=⟨I.ok.wish E,I.os,I.bare,I.base,I.loc,I.cell,I.free,I.freeC,I.pin,I.hok,I.len⟩
def Inv.unwish(I:Inv (X.wish E) pins σ H s):Inv X pins σ H s:=⟨I.ok.unwish,I.os,I.bare,I.base,I.loc,I.cell,I.free,I.freeC,I.pin,I.hok,I.len⟩
def SP.unwish(h:SP (X.wish E) pins D f s'):SP X pins D f s':=by
 cases f with
 |next=>obtain⟨σ',H',I,q⟩:=h;exact⟨σ',H',I.unwish,q⟩
 |brk=>obtain⟨σ',H',I,q⟩:=h;exact⟨σ',H',I.unwish,q⟩
 |cont=>obtain⟨σ',H',I,q⟩:=h;exact⟨σ',H',I.unwish,q⟩
 |ret u=>obtain⟨v,σ',H',I,r,q⟩:=h;exact⟨v,σ',H',I.unwish,r,q⟩
def PSs.nox{st:List CD}(h:PSs X.nox st t):PSs X st t:=λpins s σ H D I hw=>Ak (h pins s σ H D (I.wish _) hw) (λ_ _ q=>q.unwish) λ_ _ z=>False.elim z
variable {st:CD}{rest:List CD}{t u:TS}{e:Expr}{te:TE}
def aRy:TS:=λD σ H=>D.nx σ H
def tSeq(t u:TS):TS:=λD σ H=>t {D with nx:=u D} σ H
def pss_nil:PSs X [] aRy:=λ_ _ σ H _ I h=>wpAny_execs_nil ⟨σ,H,I,h⟩
def aIL(h1:PS X st t)(h2:PSs X rest u):PSs X (st::rest) (tSeq t u):=by
 intro pins s σ H D I h;refine wpAny_execs_cons<|thn (h1 pins s σ H {D with nx:=u D} I h) λf s1 q=>?_;cases f with
 |next=>obtain⟨σ',H',I',q⟩:=q;exact h2 pins s1 σ' H' D I' q
 |ret v=>exact q
 |brk=>exact q
 |cont=>exact q
def aLk(h1:PS X st t):PSs X [st] t:=by
 intro pins s σ H D I h;refine wpAny_execs_cons<|thn (h1 pins s σ H D I h) λf s1 q=>?_;cases f with
 |next=>exact wpAny_execs_nil q
 |ret v=>exact q
 |brk=>exact q
 |cont=>exact q
def Inv.quiet(I:Inv X pins σ H s):interactive X.env=false:=by simp[interactive,I.ok.kind]
def aRq(te:TE):TS:=λD σ H=>te σ H λ_ H1=>D.nx σ H1
theorem qC(he:PE X e te)(hs:Af e none pos.line X.env=pure false:=by rfl):PS X (.Expr e pos) (aRq te):=by intro pins s σ H D I h;exact wpAny_Expr_any (thn (he pins s σ H _ I h) λv s1 ⟨x,H1,I1,r1,q1⟩=>⟨σ,H1,I1,q1⟩) I.quiet hs
def tRet(te:TE):TS:=λD σ H=>te σ H D.rt
theorem aJK(he:PE X e te):PS X (.Return (some e) pos) (tRet te):=by intro pins s σ H D I h;exact wpAny_Return_some<|thn (he pins s σ H _ I h) λv s1 ⟨x,H1,I1,r1,q1⟩=>⟨x,σ,H1,I1,r1,q1⟩
def tIfS(c:TT)(t u:TS):TS:=λD σ H=>c σ H λb H1=>if b=true then t D σ H1 else u D σ H1
theorem aQP{a b:List CD}(hc:PT X c tc)(ha:PSs X a t)(hb:PSs X b u):PS X (.If c a b pos) (tIfS tc t u):=by
 intro pins s σ H D I h;refine wpAny_If<|thn (hc pins s σ H _ I h) λd s1 ⟨H1,I1,q1⟩=>?_;cases d with
 |true=>exact ha pins s1 σ H1 D I1 q1
 |false=>exact hb pins s1 σ H1 D I1 q1
abbrev TG:=V->St->Hp->(St->Hp->Prop)->Prop
abbrev TGs:=List V->St->Hp->(St->Hp->Prop)->Prop
def PG(X:Cx)(target:Expr)(t:TG):Prop:=
 ∀ (pins:List (BZ×CC)) (s:BY) (σ:St) (H:Hp) (v:V) (u:BX) (Q:St->Hp->Prop),Inv X pins σ H s->RelV v u->t v σ H Q->
  AH (AD X.prog X.w) X.A (assign target X.env u) (λ_ s'=>∃σ' H',Inv X pins σ' H' s'/\Q σ' H') X.xe s
def PGs(X:Cx)(ts:List Expr)(t:TGs):Prop:=
 ∀ (pins:List (BZ×CC)) (s:BY) (σ:St) (H:Hp) (vs:List V) (us:List BX) (Q:St->Hp->Prop),Inv X pins σ H s->Vals vs us->t vs σ H Q->
  AH (AD X.prog X.w) X.A (assignInOrder ((BR ts X.env).map (·.2)) us) (λ_ s'=>∃σ' H',Inv X pins σ' H' s'/\Q σ' H') X.xe s
abbrev TSet:=V->V->V->Hp->(Hp->Prop)->Prop
abbrev TIp:=V->V->Hp->VK->Prop
def aDI(i:Nat):TG:=λv σ H Q=>Q (σ.set i (some v)) H
def aEs{x:Str}(hN:X.N.Nodup)(hi:X.N[i]? =some x)(hx:Loc X.env.scope x)(hf:X.fn x=true\/X.env.scope.names.lookup x=some .local:=by first|exact .inl rfl|exact .inr rfl|assumption):PG X (.Name x pos) (aDI i):=by intro pins s σ H v u Q I r h;exact wpAny_assign_Name<|aCz I hN hi hx r (λs' I'=>⟨_,H,I',h⟩) hf
def aSa:TGs:=λvs σ H Q=>vs=[]/\Q σ H
def aOd(t:TG)(u:TGs):TGs:=λvs σ H Q=>∃v r,vs=v::r/\t v σ H λσ' H'=>u r σ' H' Q
def iC:PGs X [] aSa:=by intro pins s σ H vs us Q I r h;obtain⟨e,h⟩:=h;subst e;cases r;exact assignInOrder_nil ⟨σ,H,I,h⟩
theorem cR{t:TG}{u:TGs}(h1:PG X e t)(h2:PGs X es u)(hs:(BR (e::es) X.env).map (·.2)=assign e X.env::(BR es X.env).map (·.2):=by rfl):PGs X (e::es) (aOd t u):=by
 intro pins s σ H vs us Q I r h;obtain⟨v,vr,e1,h⟩:=h;subst e1;cases r with
 |cons r rr=>rw[hs];refine assignInOrder_cons<|thn (h1 pins s σ H _ _ _ I r h) λ_ s1 ⟨σ1,H1,I1,q1⟩=>?_;exact h2 pins s1 σ1 H1 _ _ Q I1 rr q1
def gTup(K:aB)(n:Nat)(t:TGs):TG:=λv σ H Q=>∃a xs,v=.ref a/\SqT K H a xs/\xs.length=n/\t xs σ H Q
def aOT{k:Nat}{t:TGs}(hc:X.calm=true)(h:PGs X es t)(hn:(BR es X.env).length=n:=by rfl) (hst:(BR es X.env).findIdx? (·.1)=none:=by rfl):PG X (.Tuple es k pos) (gTup X.K n t):=by
 intro pins s σ H v u Q I r hw;obtain⟨a,xs,e1,hq,hl,hw⟩:=hw;subst e1;cases r;obtain⟨its,rv,ht,hz⟩:=I.tuple hq;refine assign_Tuple_tuple (I.ok.hd hc) ht (by simp[hn,<-hl,rv.length]) hst λh' hx=>?_
 have I1:Inv X pins σ H {s with heap:=h'}:=I.kept λb o e=>hx b o (bC<|aM e) e
 exact h pins _ σ H xs _ Q I1 (by simpa using rv) hw
def aSn(te:TE)(g:TG):TS:=λD σ H=>te σ H λx H1=>g x σ H1 D.nx
theorem aPg(he:PE X e te)(hg:PG X tg g)(hs:swapsWithSole [tg] e pos.line X.env=pure false:=by rfl)(hw:swappedStores [tg] e X.env=pure none:=by rfl)(h1:(BR [tg] X.env).map (·.2)=[assign tg X.env]:=by rfl):PS X (.Assign [tg] e pos) (aSn te g):=by
 intro pins s σ H D I h;refine wpAny_Assign_stores (thn (he pins s σ H _ I h) λv s1 ⟨x,H1,I1,r1,q1⟩=>?_) hs hw;rw[h1];exact thn (hg pins s1 σ H1 x v _ I1 r1 q1) λ_ s2 q=>q
theorem qZ{x:Str}(hN:X.N.Nodup)(hi:X.N[i]? =some x)(hx:Loc X.env.scope x)(he:PE X e te)(hs:Af e (some<|.Name x pos') pos.line X.env=pure false:=by rfl)(hf:X.fn x=true\/X.env.scope.names.lookup x=some .local:=by first|exact .inl rfl|exact .inr rfl|assumption):PS X (.Assign [.Name x pos'] e pos) (aSn te<|aDI i):=by
 intro pins s σ H D I h;refine wpAny_Assign_Name (thn (he pins s σ H _ I h) λv s1 ⟨y,H1,I1,r1,q1⟩=>?_) hs;exact aCz I1 hN hi hx r1 (λs2 I2=>⟨_,H1,I2,q1⟩) hf
def aPr(c:TT)(tb:TS):TS:=λD σ H=>∃W:Nat->St->Hp->Prop,(∃m,W m σ H)/\∀m σ H,W m σ H->
 c σ H λb H1=>if b=true then ∃N:St->Hp->Prop,(∀σ' H',N σ' H'->∃m',m'<m/\W m' σ' H')/\tb {D with nx:=N,ct:=N,bk:=D.nx} σ H1 else D.nx σ H1
theorem aHA{tb:TS}(hp:PassesOwn (AD X.prog X.w) X.A X.env X.xe)(hc:PT X c tc)(hb:PSs X body tb):PS X (.While c body [] pos) (aPr tc tb):=by
 intro pins s σ H D I h;obtain⟨W,⟨m0,w0⟩,turn⟩:=h;refine wpAny_While<|codeAny_whileLoop (λn s'=>∃σ' H',Inv X pins σ' H' s'/\W n σ' H') ?_ m0 ⟨σ,H,I,w0⟩;rintro n s1 ⟨σ1,H1,I1,w1⟩;refine BC hp<|thn (hc pins s1 σ1 H1 _ I1<|turn n σ1 H1 w1) λb s2 ⟨H2,I2,q2⟩=>?_;cases b with
 |true=>
  obtain⟨N,hN,q2⟩:=q2;refine BC hp<|thn (hb pins s2 σ1 H2 _ I2 q2) λf s3 q3=>?_;cases f with
  |next=>obtain⟨σ3,H3,I3,n3⟩:=q3;obtain⟨m',hm,w3⟩:=hN σ3 H3 n3;exact⟨m',hm,σ3,H3,I3,w3⟩
  |cont=>obtain⟨σ3,H3,I3,n3⟩:=q3;obtain⟨m',hm,w3⟩:=hN σ3 H3 n3;exact⟨m',hm,σ3,H3,I3,w3⟩
  |brk=>exact q3
  |ret v=>exact q3
 |false=>exact wpAny_execs_nil ⟨σ1,H2,I2,q2⟩
structure It where
 go:Nat->Hp->Prop
 yld:Nat->Hp->V->Hp->Prop
 stop:Nat->Hp->Prop
def vO(X:Cx)(pins:List (BZ×CC))(H:Hp)(b:BZ):Prop:=
 H b=none/\b≠X.env.locals/\b∉X.fs/\(b∈X.ex\/X.s₀.heap.objs.size<=b)/\(∀x c,X.env.cells.lookup x=some c->c≠b)/\∀p∈X.pn++pins,p.1≠b
def Inv.fpOk{b:BZ}(I:Inv X pins σ H s)(hb:s.heap.objs.size<=b)(hn:H' b=none):vO X pins H' b:=by
 refine⟨hn,eJ<|aZ I.lt hb,I.nofs hb,.inr<|cF I.sz hb,λx c e z=>?_,λp hp z=>?_⟩
 ·obtain⟨v,q⟩:=I.cell x c e;exact absurd (aZ q.lt<|by rw[z];exact hb)<|dH _
 ·exact absurd (aZ (aM (I.pin p hp).1)<|by rw[z];exact hb)<|dH _
structure zT(P:AF)(w:AL)(K:aB)(tg:Expr)(J:It)(fp:List BZ)(it:BZ)(tn:Nat->CB->Prop):Prop where
 mem:it∈fp
 obj:∀i h,tn i h->∀b∈fp,∃o,h.get? b=some o/\∀v,o.data≠ .cell v
 keep:∀i h h',tn i h->(∀b∈fp,∀o,h.get? b=some o->h'.get? b=some o)->tn i h'
 item:∀ (X:Cx),X.prog=P->X.w=w->X.K=K->X.calm=true->∀ (i:Nat) (pins:List (BZ×CC)) (s:BY) (σ:St) (H:Hp) (E:BX->BY->Prop),Inv X pins σ H s->(∀b∈fp,vO X pins H b)->tn i s.heap->J.go i H->
  AH (AD P w) X.A (pyNext (.ref it)) (fun r s1=>∃u,r=some u∧
   AH (AD P w) X.A (letOwnedTupleGo tg (.ref it) u) (λ_ s2=>∃x H',Inv X pins σ H' s2/\RelV x u/\J.yld i H x H'/\tn (i+1) s2.heap/\∀b∈fp,H' b=none) E s1) E s
 done:∀ (X:Cx),X.prog=P->X.w=w->X.K=K->X.calm=true->∀ (i:Nat) (pins:List (BZ×CC)) (s:BY) (σ:St) (H:Hp) (E:BX->BY->Prop),Inv X pins σ H s->(∀b∈fp,vO X pins H b)->tn i s.heap->J.stop i H->
  AH (AD P w) X.A (pyNext<|.ref it) (λr s1=>r=none/\Inv X pins σ H s1) E s
 self:∀ (A:CA) (i:Nat) (s:BY) (Q:BX->BY->Prop) (E:BX->BY->Prop),tn i s.heap->Q (.ref it) s->AH (AD P w) A (pyIter<|.ref it) Q E s
abbrev TI:=St->Hp->(It->Hp->Prop)->Prop
def PIE(X:Cx)(pins:List (BZ×CC))(σ:St)(tg:Expr)(R:It->Hp->Prop)(itv:BX)(s2:BY):Prop:=
 ∃ (it:BZ) (fp:List BZ) (tn:Nat->CB->Prop) (J:It) (H':Hp),itv=.ref it/\Inv X pins σ H' s2/\zT X.prog X.w X.K tg J fp it tn/\tn 0 s2.heap/\(∀b∈fp,vO X pins H' b)/\R J H'
def PI(X:Cx)(tg iter:Expr)(wi:TI):Prop:=
 ∀ (pins:List (BZ×CC)) (s:BY) (σ:St) (H:Hp) (R:It->Hp->Prop),Inv X pins σ H s->wi σ H R->
  AH (AD X.prog X.w) X.A (eval iter X.env) (λv s1=>AH (AD X.prog X.w) X.A (pyIter v) (PIE X pins σ tg R) X.xe s1) X.xe s
def aHk{u:BX}{o:CC}(ho:s.heap.get? it=some o)(hc:o.cls=.type n)(hd:o.data=.fields vs)(hn:["enumerate","zip","dict_itemiterator","dict_reverseitemiterator","odict_iterator","itertools.zip_longest","itertools.pairwise"].contains n=false) (hQ:Q () s):AH M A (letOwnedTupleGo tg (.ref it) u) Q E s:=by
 cases tg<;>first
  |exact AB hQ
  | (cases u<;>first
    |exact AB hQ
    | (refine AA (wpAny_load ho ?_)
       rw[hc,hd];show AH M A (if(["enumerate","zip","dict_itemiterator","dict_reverseitemiterator","odict_iterator","itertools.zip_longest","itertools.pairwise"].contains n&&vs[0]? ==some (BJ _))=true then _ else _) Q E s;rw[if_neg<|by intro h;rw[hn] at h;cases h]
       exact AB hQ))
def Itl(K:aB)(a:BZ):It:=
 ⟨λi H=>∃xs x,SqL K H a xs/\xs[i]? =some x,λi H x H'=>H'=H/\∀xs,SqL K H a xs->xs[i]? =some x,λi H=>∃xs,SqL K H a xs/\xs.length<=i⟩
def Itt(K:aB)(a:BZ):It:=
 ⟨λi H=>∃xs x,SqT K H a xs/\xs[i]? =some x,λi H x H'=>H'=H/\∀xs,SqT K H a xs->xs[i]? =some x,λi H=>∃xs,SqT K H a xs/\xs.length<=i⟩
def Itr(lo:Int)(n:Nat):It:=⟨λi _=>i<n,λi H x H'=>H'=H/\x=.int (lo+i),λi _=>n<=i⟩
theorem aGy{K:aB}(a it:BZ):zT P w K tg (Itl K a) [it] it (λi h=>h.IsListIter it a i) where
 mem:=by simp
 obj:=λi h st b hb=>by
  have e:=by simpa using hb
  subst e;obtain⟨o,e,c,d⟩:=st;exact⟨o,e,λv z=>by rw[d] at z;cases z⟩
 keep:=λi h h' st k=>st.at λo e=>k it (by simp) o e
 item:=by
  intro X hP hw hK hc i pins s σ H E I hf st hg;subst hP hw hK;obtain⟨xs,x,hq,hx⟩:=hg;obtain⟨its,rv,p,hz⟩:=I.list hq;obtain⟨u,hu,ru⟩:=rv.get hx;obtain⟨f0,f1,f2,f3,f4,f5⟩:=hf it (by simp);refine wpAny_pyNext_list_item st p.isList (by simpa using hu) λh' st' sb=>?_
  have I1:Inv X pins σ H {s with heap:=h'}:=I.turned (λb o hb e=>(sb.2 b hb).trans e) f0 f1 f3 f4 f5;obtain⟨o,e,c,d⟩:=id st';exact⟨u,rfl,aHk e c d (by decide) ⟨x,H,I1,ru,⟨rfl,λys hy=>by rw[I.list_inj hy hq];exact hx⟩,st',λb hb=>(hf b hb).1⟩⟩
 done:=by intro X hP hw hK hc i pins s σ H E I hf st hg;subst hP hw hK;obtain⟨xs,hq,hx⟩:=hg;obtain⟨its,rv,p,hz⟩:=I.list hq;obtain⟨f0,f1,f2,f3,f4,f5⟩:=hf it (by simp);have hl:=rv.length;exact wpAny_pyNext_list_end (I.ok.hd hc) st p.isList (by simp;lia) λh' eb=>⟨rfl,I.turned (λb o hb e=>eb b o hb e) f0 f1 f3 f4 f5⟩
 self:=λ_ _ _ _ _ st h=>wpAny_pyIter_listiter st h
theorem aDm{K:aB}(a it:BZ):zT P w K tg (Itt K a) [it] it (λi h=>h.IsTupleIter it a i) where
 mem:=by simp
 obj:=λi h st b hb=>by
  have e:=by simpa using hb
  subst e;obtain⟨o,e,c,d⟩:=st;exact⟨o,e,λv z=>by rw[d] at z;cases z⟩
 keep:=λi h h' st k=>st.at λo e=>k it (by simp) o e
 item:=by
  intro X hP hw hK hc i pins s σ H E I hf st hg;subst hP hw hK;obtain⟨xs,x,hq,hx⟩:=hg;obtain⟨its,rv,p,hz⟩:=I.tuple hq;obtain⟨u,hu,ru⟩:=rv.get hx;obtain⟨f0,f1,f2,f3,f4,f5⟩:=hf it (by simp);refine wpAny_pyNext_tuple_item st (p) (by simpa using hu) λh' st' sb=>?_
  have I1:Inv X pins σ H {s with heap:=h'}:=I.turned (λb o hb e=>(sb.2 b hb).trans e) f0 f1 f3 f4 f5;obtain⟨o,e,c,d⟩:=id st';exact⟨u,rfl,aHk e c d (by decide) ⟨x,H,I1,ru,⟨rfl,λys hy=>by rw[I.tuple_inj hy hq];exact hx⟩,st',λb hb=>(hf b hb).1⟩⟩
 done:=by intro X hP hw hK hc i pins s σ H E I hf st hg;subst hP hw hK;obtain⟨xs,hq,hx⟩:=hg;obtain⟨its,rv,p,hz⟩:=I.tuple hq;obtain⟨f0,f1,f2,f3,f4,f5⟩:=hf it (by simp);have hl:=rv.length;exact wpAny_pyNext_tuple_end (I.ok.hd hc) st (p) (by simp;lia) λh' eb=>⟨rfl,I.turned (λb o hb e=>eb b o hb e) f0 f1 f3 f4 f5⟩
 self:=λ_ _ _ _ _ st h=>wpAny_pyIter_tupleiter st h
theorem aDB{K:aB}(it:BZ)(lo:Int)(n:Nat):zT P w K tg (Itr lo n) [it] it (λi h=>IsRangeIter h it (lo+(i:Nat)*1) ((n:Int)-(i:Nat)) 1) where
 mem:=by simp
 obj:=λi h st b hb=>by
  have e:=by simpa using hb
  subst e
  exact ⟨_,st,fun v z=>by
   have z':=z
   cases z'⟩
 keep:=λi h h' st k=>k it (by simp) _ st
 item:=by
  intro X hP hw hK hc i pins s σ H E I hf st hg;subst hP hw hK;obtain⟨f0,f1,f2,f3,f4,f5⟩:=hf it (by simp);have W:=Walks.range (prog:=X.prog) (w:=X.w) (I.ok.hd hc) it lo 1 n;refine W.item i s _ _ hg st λv h' tk hv st' kk=>?_
  obtain⟨t,rfl⟩:=hv;have I1:Inv X pins σ H {s with heap:=h',toks:=tk}:=I.turned (λb o hb e=>kk b o (by simpa using hb) e) f0 f1 f3 f4 f5;refine⟨_,rfl,aHk st' rfl rfl (by decide) ⟨.int<|lo+i,H,I1,⟨t,?_⟩,⟨rfl,rfl⟩,st',λb hb=>(hf b hb).1⟩⟩;rw[Int.mul_one]
 done:=by intro X hP hw hK hc i pins s σ H E I hf st hg;subst hP hw hK;obtain⟨f0,f1,f2,f3,f4,f5⟩:=hf it (by simp);exact wpAny_pyNext_range_end (I.ok.hd hc) st (by have:n<=i:=hg;lia) λh' eb=>⟨rfl,I.turned (λb o hb e=>eb b o hb e) f0 f1 f3 f4 f5⟩
 self:=λ_ _ _ _ _ st h=>wpAny_pyIter_rangeiter st h
variable {tg:Expr}
def aRB(K:aB)(tl:TE):TI:=λσ H R=>tl σ H λx H1=>∃a,x=.ref a/\(∃xs,SqL K H1 a xs)/\R (Itl K a) H1
def iTup(K:aB)(tl:TE):TI:=λσ H R=>tl σ H λx H1=>∃a,x=.ref a/\(∃xs,SqT K H1 a xs)/\R (Itt K a) H1
theorem aLn(hl:PE X l tl):PI X tg l (aRB X.K tl):=by
 intro pins s σ H R I h;refine thn (hl pins s σ H _ I h) λv s1 ⟨x,H1,I1,r1,q1⟩=>?_
 obtain⟨a,e,⟨xs,hq⟩,q⟩:=q1;subst e;cases r1;obtain⟨its,rv,p,hz⟩:=I1.list hq;refine Au p.isList ?_;refine⟨s1.heap.objs.size,[s1.heap.objs.size],_,_,H1,rfl,I1.kept λb o e=>aD _ e,aGy a _,⟨_,aR _ rfl,rfl,rfl⟩,λb hb=>?_,q⟩;have e:=by simpa using hb
 subst e;exact I1.fpOk (aK _) (I1.hok.fresh<|aK _)
theorem aOZ(hl:PE X l tl):PI X tg l (iTup X.K tl):=by
 intro pins s σ H R I h;refine thn (hl pins s σ H _ I h) λv s1 ⟨x,H1,I1,r1,q1⟩=>?_
 obtain⟨a,e,⟨xs,hq⟩,q⟩:=q1;subst e;cases r1;obtain⟨its,rv,p,hz⟩:=I1.tuple hq;refine wpAny_pyIter_tuple (p) ?_;refine⟨s1.heap.objs.size,[s1.heap.objs.size],_,_,H1,rfl,I1.kept λb o e=>aD _ e,aDm a _,⟨_,aR _ rfl,rfl,rfl⟩,λb hb=>?_,q⟩;have e:=by simpa using hb
 subst e;exact I1.fpOk (aK _) (I1.hok.fresh<|aK _)
theorem aHW{lo hi:Int}{t u v:Tok}(I:Inv X pins σ H s)(h1: -(2^62)<=lo)(h2:lo<2^62)(h3: -(2^62)<=hi)(h4:hi<2^62)(q:R (Itr lo (hi-lo).toNat) H):AH (AD X.prog X.w) X.A (pyIter<|.ref s.heap.objs.size) (PIE X pins σ tg R) E {s with heap:=s.heap.push {cls:=.type "range",data:=.fields #[.int lo t,.int hi u,.int 1 v]},toks:=tk}:=by
 refine wpAny_pyIter_range (IsRange.new ..) (small_one h1 h2 h3 h4) ?_;have I1:Inv X pins σ H {s with heap:=s.heap.push {cls:=.type "range",data:=.fields #[.int lo t,.int hi u,.int 1 v]},toks:=tk}:=I.kept λb o e=>aD _ e
 refine ⟨(s.heap.push {cls:= .type "range",data:= .fields #[.int lo t, .int hi u, .int 1 v]}).objs.size,[(s.heap.push {cls:= .type "range",data:= .fields #[.int lo t, .int hi u, .int 1 v]}).objs.size],_,_,H,rfl,
  I1.kept λb o e=>aD _ e,aDB _ lo (hi-lo).toNat,?_,λb hb=>?_,q⟩
 ·have e1:lo+((0:Nat))*1=lo:=by simp
  have e2:(((hi-lo).toNat))-((0:Nat))=Builtin.Range.rangeSize lo hi 1:=by rw[rangeSize_one];split<;>lia
  rw[e1,e2];exact aR _ rfl
 ·have e:b=(s.heap.push {cls:=.type "range",data:=.fields #[.int lo t,.int hi u,.int 1 v]}).objs.size:=by simpa using hb
  subst e;exact I1.fpOk (aK _) (I1.hok.fresh<|aK _)
def aRm(ta:TA):TI:=λσ H R=>ta σ H λvs H1=>∃j:Int,vs=[.int j]/\ -(2^62)<=j/\j<2^62/\R (Itr 0 j.toNat) H1
theorem aGK{a:Expr}{ta:TA}(hg:Gl X "range")(hm:X.mg "range"=none)(ha:PA X [a] ta)(hs:AE [a] X.env=[(false,eval a X.env)]:=by rfl):PI X tg (.Call (.Name "range" p) [a] [] pos) (aRm ta):=by
 intro pins s σ H R I h;refine Call_ (mM I hg hm boot_range<|PyProof.Rows.callWith_type1 (thn (ha pos pins s σ H _ I h) λus s1 ⟨vs,H1,I1,r1,q1⟩=>?_) hs rfl);obtain⟨j,e,q1,q2,q⟩:=q1;subst e;cases r1 with
 |cons r rr=>cases rr;obtain⟨t,rfl⟩:=r;exact call_range_1 (aHW I1 (by lia) (by lia) q1 q2<|by simpa using q)
def tFor(wi:TI)(g:TG)(tb:TS):TS:=λD σ H=>wi σ H λJ H1=>∃W:Nat->Nat->St->Hp->Prop,(∃m,W 0 m σ H1)/\∀i m σ H,W i m σ H->
 (J.stop i H/\D.nx σ H)\/(J.go i H/\∃N:St->Hp->Prop,(∀σ' H',N σ' H'->∃m',m'<m/\W (i+1) m' σ' H')/\∀x H',J.yld i H x H'->g x σ H' λσ2 H2=>tb {D with nx:=N,ct:=N,bk:=D.nx} σ2 H2)
noncomputable def pM(fp:List BZ)(h:CB):List (BZ×CC):=fp.filterMap λb=>(h.get? b).map λo=>(b,o)
def jU{b:BZ}{o:CC}(hb:b∈fp)(e:h.get? b=some o):(b,o)∈pM fp h:=aIR.mpr ⟨b,hb,by rw[e];rfl⟩
def uH(hp:p∈pM fp h):p.1∈fp/\h.get? p.1=some p.2:=by
 obtain⟨b,hb,e⟩:=aIR.mp hp;cases q:h.get? b with
 |none=>rw[q] at e;cases e
 |some o=>rw[q] at e;have e':=bW.inj e;subst e';exact⟨hb,q⟩
def Inv.pinned(I:Inv X pins σ H s)(hf:∀b∈fp,vO X pins H b)(ho:∀b∈fp,∃o,s.heap.get? b=some o/\∀v,o.data≠ .cell v):Inv X (pins++pM fp s.heap) σ H s:=
 I.pins_of λp hp=>(aS.mp hp).elim (λz=>I.pin p<|aU _ z) λz=>by obtain⟨hb,e⟩:=uH z;obtain⟨f0,f1,f2,_⟩:=hf p.1 hb;obtain⟨o,e',d⟩:=ho p.1 hb;rw[e] at e';cases e';exact⟨e,f0,f1,f2,d⟩
def Inv.unpinned(I:Inv X (pins++pl) σ H s):Inv X pins σ H s:=I.pins_of λp hp=>I.pin p (aU _<|bP _ hp)
theorem aJC{tb:TS}(hp:PassesOwn (AD X.prog X.w) X.A X.env X.xe)(hc:X.calm=true)(hi:PI X tg iter wi)(hg:PG X tg g)(hb:PSs X body tb)(hs:∀x,BP iter X.env x=pure x:=by intro _;rfl):PS X (.For tg iter body [] pos) (tFor wi g tb):=by
 intro pins s σ H D I h;refine wpAny_For (thn (hi pins s σ H _ I h) λv s1 h1=>thn h1 λitv s2 h2=>?_) hs;obtain⟨it,fp,tn,J,H2,e,I2,T,st2,f2,W,⟨m0,w0⟩,turn⟩:=h2;subst e
 have stat:∀ {H':Hp},(∀b∈fp,H' b=none)->∀b∈fp,vO X pins H' b:=λhn b hb=>⟨hn b hb,(f2 b hb).2⟩
 refine codeAny_forLoop_any (λn s'=>∃i σ' H',Inv X pins σ' H' s'/\tn i s'.heap/\(∀b∈fp,H' b=none)/\W i n σ' H') ?_ m0 ⟨0,σ,H2,I2,st2,λb hb=>(f2 b hb).1,w0⟩;rintro n s3 ⟨i,σ3,H3,I3,st3,fr3,w3⟩
 rcases turn i n σ3 H3 w3 with⟨stop,qn⟩|⟨go,N,hN,step⟩
 ·refine BC hp<|thn (T.done X rfl rfl rfl hc i pins s3 σ3 H3 X.xe I3 (stat fr3) st3 stop) λr s4 ⟨hr,I4⟩=>?_;subst hr;exact wpAny_execs_nil ⟨σ3,H3,I4,qn⟩
 ·refine BC hp<|thn (T.item X rfl rfl rfl hc i pins s3 σ3 H3 X.xe I3 (stat fr3) st3 go) λr s4 ⟨u,hr,h4⟩=>?_;subst hr;refine BC hp<|thn h4 λ_ s5 ⟨x,H5,I5,r5,y5,st5,fr5⟩=>?_;have I5':=I5.pinned (stat fr5)<|T.obj _ _ st5;refine BC hp<|thn (hg _ s5 σ3 H5 x u _ I5' r5<|step x H5 y5) λ_ s6 ⟨σ6,H6,I6,q6⟩=>?_;refine BC hp (thn (hb _ s6 σ6 H6 _ I6 q6) λf s7 q7=>?_)
  have again:∀ {σ7:St}{H7:Hp},Inv X (pins++pM fp s5.heap) σ7 H7 s7->N σ7 H7->∃m,m<n/\∃i σ' H',Inv X pins σ' H' s7/\tn i s7.heap/\(∀b∈fp,H' b=none)/\W i m σ' H':=λ{σ7 H7} I7 n7=>by obtain⟨m',hm,w7⟩:=hN σ7 H7 n7;refine⟨m',hm,i+1,σ7,H7,I7.unpinned,T.keep _ _ _ st5 λb hb o e=>(I7.pin (b,o)<|aU _ (aU _<|jU hb e)).1,λb hb=>?_,w7⟩;obtain⟨o,e,d⟩:=T.obj _ _ st5 b hb;exact(I7.pin (b,o)<|aU _ (aU _<|jU hb e)).2.1
  cases f with
  |next=>obtain⟨σ7,H7,I7,n7⟩:=q7;exact again I7 n7
  |cont=>obtain⟨σ7,H7,I7,n7⟩:=q7;exact again I7 n7
  |brk=>obtain⟨σ7,H7,I7,q7⟩:=q7;exact⟨σ7,H7,I7.unpinned,q7⟩
  |ret v=>obtain⟨x7,σ7,H7,I7,r7,q7⟩:=q7;exact⟨x7,σ7,H7,I7.unpinned,r7,q7⟩
abbrev R2:=V->V->Hp->VK->Prop
def OpR(X:Cx)(f:BX->BX->Sem BX)(r:R2):Prop:=
 ∀ (pins:List (BZ×CC)) (s:BY) (σ:St) (H:Hp) (x y:V) (v u:BX) (Q:VK),Inv X pins σ H s->RelV x v->RelV y u->r x y H Q->
  AH (AD X.prog X.w) X.A (f v u) (EP X pins σ Q) X.xe s
def UnR(X:Cx)(f:BX->Sem BX)(r:V->Hp->VK->Prop):Prop:=
 ∀ (pins:List (BZ×CC)) (s:BY) (σ:St) (H:Hp) (x:V) (v:BX) (Q:VK),Inv X pins σ H s->RelV x v->r x H Q->
  AH (AD X.prog X.w) X.A (f v) (EP X pins σ Q) X.xe s
def mG(X:Cx)(f:BX)(r:List V->Hp->VK->Prop):Prop:=
 ∀ (pins:List (BZ×CC)) (s:BY) (σ:St) (H:Hp) (xs:List V) (us:List BX) (Q:VK),Inv X pins σ H s->Vals xs us->r xs H Q->
  AH (AD X.prog X.w) X.A (call f us) (EP X pins σ Q) X.xe s
def tOp(r:R2)(ta tb:TE):TE:=λσ H Q=>ta σ H λx H1=>tb σ H1 λy H2=>r x y H2 Q
def tUn(r:V->Hp->VK->Prop)(ta:TE):TE:=λσ H Q=>ta σ H λx H1=>r x H1 Q
def rI(C:Int->Int->Prop)(g:Int->Int->V):R2:=λx y H Q=>∃i j,x=.int i/\y=.int j/\C i j/\Q (g i j) H
def rI0(g:Int->Int->V):R2:=λx y H Q=>∃i j,x=.int i/\y=.int j/\Q (g i j) H
def rU(g:Int->V):V->Hp->VK->Prop:=λx H Q=>∃i,x=.int i/\Q (g i) H
variable {a c:Expr}{tc:TE}
def aQo(ha:PE X a ta)(hb:PE X b tb){R:V->V->Hp->Prop}(I:Inv X pins σ H s)(h:ta σ H λx H1=>tb σ H1 λy H2=>R x y H2) {f:BX->BX->Sem BX}(hf:∀v u s2 x y H2,Inv X pins σ H2 s2->RelV x v->RelV y u->R x y H2->AH (AD X.prog X.w) X.A (f v u) Q X.xe s2):AH (AD X.prog X.w) X.A (eval a X.env) (λv s₁=>AH (AD X.prog X.w) X.A (eval b X.env) (λu s₂=>AH (AD X.prog X.w) X.A (f v u) Q X.xe s₂) X.xe s₁) X.xe s:=by
 refine thn (ha pins s σ H _ I h) λv s1 ⟨x,H1,I1,r1,q1⟩=>?_
 refine thn (hb pins s1 σ H1 _ I1 q1) λu s2 ⟨y,H2,I2,r2,q2⟩=>?_
 exact hf v u s2 x y H2 I2 r1 r2 q2
theorem aRc(ho:OpR X (Ar op) r)(ha:PE X a ta)(hb:PE X b tb):PE X (.BinOp a op b pos) (tOp r ta tb):=by intro pins s σ H Q I h;exact wpAny_BinOp<|aQo ha hb I h λv u s2 x y H2 I2 rx ry q=>ho pins s2 σ H2 x y v u Q I2 rx ry q
theorem aQT(ho:UnR X (unaryOp op) r)(ha:PE X a ta):PE X (.UnaryOp op a pos) (tUn r ta):=by intro pins s σ H Q I h;exact UnaryOp_<|thn (ha pins s σ H _ I h) λv s1 ⟨x,H1,I1,r1,q1⟩=>ho pins s1 σ H1 x v Q I1 r1 q1
def opI{g:Int->Int->Int}(rule:∀ (i j:Int) (t u:Tok) (s:BY) (Q:BX->BY->Prop) (E:BX->BY->Prop),C i j->Q (.int (g i j) s.toks) {s with toks:=s.toks+1}->AH (AD X.prog X.w) X.A (f (.int i t)<|.int j u) Q E s):OpR X f (rI C λi j=>.int<|g i j):=by
 intro pins s σ H x y v u Q I rx ry h;obtain⟨i,j,rfl,rfl,hc,q⟩:=h;obtain⟨t,rfl⟩:=rx;obtain⟨t',rfl⟩:=ry;exact rule i j t t' s _ _ hc ⟨.int<|g i j,H,I.tok _,⟨_,rfl⟩,q⟩
def aNm{g:Int->Int->Int}(rule:∀ (i j:Int) (t u:Tok) (s:BY) (Q:BX->BY->Prop) (E:BX->BY->Prop),Q (.int (g i j) s.toks) {s with toks:=s.toks+1}->AH (AD X.prog X.w) X.A (f (.int i t)<|.int j u) Q E s):OpR X f (rI0 λi j=>.int<|g i j):=by
 intro pins s σ H x y v u Q I rx ry h;obtain⟨i,j,rfl,rfl,q⟩:=h;obtain⟨t,rfl⟩:=rx;obtain⟨t',rfl⟩:=ry;exact rule i j t t' s _ _ ⟨.int<|g i j,H,I.tok _,⟨_,rfl⟩,q⟩
def aQa{g:Int->Int->Bool}(rule:∀ (i j:Int) (t u:Tok) (s:BY) (Q:BX->BY->Prop) (E:BX->BY->Prop),Q (.bool<|g i j) s->AH (AD X.prog X.w) X.A (f (.int i t)<|.int j u) Q E s):OpR X f (rI0 λi j=>.bl<|g i j):=by
 intro pins s σ H x y v u Q I rx ry h;obtain⟨i,j,rfl,rfl,q⟩:=h;obtain⟨t,rfl⟩:=rx;obtain⟨t',rfl⟩:=ry;exact rule i j t t' s _ _ ⟨.bl<|g i j,H,I,rfl,q⟩
def CDiv(i j:Int):Prop:=0<j/\j<1073741824
def CPow(i j:Int):Prop:=0<=j/\j<=1000000/\i.natAbs<2^64
def CMul(i j:Int):Prop:=(-(2^64)<i/\i<2^64)\/(-(2^64)<j/\j<2^64)
def CMul.ok(h:CMul i j):IntMulOk i j:=by
 rcases h with⟨h1,h2⟩|⟨h1,h2⟩
 ·exact .of_left<|intBits_le_64 h1 h2
 ·exact .of_right<|intBits_le_64 h1 h2
def gK:OpR X (Ar .Add) (rI0 λi j=>.int<|i+j):=aNm λ_ _ _ _ _ _ _ q=>add_int q
def pG:OpR X (Ar .Sub) (rI0 λi j=>.int<|i-j):=aNm λ_ _ _ _ _ _ _ q=>sub_int q
def aPt:OpR X (Ar .Mult) (rI CMul λi j=>.int<|i*j):=opI λ_ _ _ _ _ _ _ hc q=>mul_int q hc.ok
theorem aMc:OpR X (Ar .FloorDiv) (rI CDiv λi j=>.int<|i / j):=opI λi j _ _ _ _ _ hc q=>by have h1:=hc.1;have h2:=hc.2;exact floordiv_int (by lia) (by rw[aAP i<|by lia];exact q)<|.inl (PyProof.noPylong_small<|by lia)
theorem fB:OpR X (Ar .Mod) (rI (λ_ j=>0<j) λi j=>.int<|i%j):=opI λi j _ _ _ _ _ hc q=>by exact mod_int' (by lia) (by rw[Int.fmod_eq_emod_of_nonneg i<|by lia];exact q)
def aKo:OpR X (Ar .LShift) (rI CPow λi j=>.int<|i*2^j.toNat):=opI λ_ _ _ _ _ _ _ hc q=>lshift_int_small hc.1 hc.2.1 hc.2.2 q
def aJW:OpR X (Ar .BitAnd) (rI0 λi j=>.int<|Builtin.bitAnd i j):=aNm λ_ _ _ _ _ _ _ q=>and_int q
def aNv:OpR X (Ar .BitOr) (rI0 λi j=>.int<|Builtin.bitOr i j):=aNm λ_ _ _ _ _ _ _ q=>or_int q
def aJD:OpR X (Ar .BitXor) (rI0 λi j=>.int<|Builtin.bitXor i j):=aNm λ_ _ _ _ _ _ _ q=>xor_int q
def unI{g:Int->Int}(rule:∀ (i:Int) (t:Tok) (s:BY) (Q:BX->BY->Prop) (E:BX->BY->Prop),Q (.int (g i) s.toks) {s with toks:=s.toks+1}->AH (AD X.prog X.w) X.A (f<|.int i t) Q E s):UnR X f (rU λi=>.int<|g i):=by
 intro pins s σ H x v Q I rx h;obtain⟨i,rfl,q⟩:=h;obtain⟨t,rfl⟩:=rx;exact rule i t s _ _ ⟨.int<|g i,H,I.tok _,⟨_,rfl⟩,q⟩
def aPw:UnR X (unaryOp .USub) (rU λi=>.int (-i)):=unI λ_ _ _ _ _ q=>neg_int q
noncomputable def aQb:V->V->Bool
 |.non,.non=>true | .non,.int _=>true | .int _,.non=>true | .non,.bl _=>true | .bl _,.non=>true | .non,.str _=>true | .str _,.non=>true
 |.int _,.int _=>true | .bl _,.bl _=>true | .str _,.str _=>true | .byt _,.byt _=>true
 |.int _,.str _=>true | .str _,.int _=>true | .bl _,.str _=>true | .str _,.bl _=>true
 |_,_=>false
def rEq:R2:=λx y H Q=>aQb x y=true/\Q (.bl (decide<|x=y)) H
def rNe:R2:=λx y H Q=>aQb x y=true/\Q (.bl<|!decide (x=y)) H
def wJ:decide (V.int i=V.int j)=(i==j):=by rw[gY];simp
def aJi:decide (V.bl i=V.bl j)=(i==j):=by rw[gY];simp
def aFn:decide (V.str i=V.str j)=(i==j):=by rw[gY];simp
def aEy:decide (V.byt i=V.byt j)=(i.toList==j.toList):=by rw[gY];cases i;cases j;simp
def fD(I:Inv X pins σ H s)(q:Q (.bl k) H)(e:k=k'):EP X pins σ Q (.bool k') s:=by subst e;exact⟨.bl k,H,I,rfl,q⟩
def aNw:OpR X (AU .Eq) rEq:=by
 intro pins s σ H x y v u Q I rx ry h;obtain⟨hs,q⟩:=h;cases x with
 |non=>
  cases rx;cases y with
  |non=>cases ry;exact PySem.EqNone.eq_none_none (fD I q<|by simp)
  |bl j=>cases ry;exact PySem.EqNone.eq_none_bool (fD I q<|by simp)
  |int j=>obtain⟨t',rfl⟩:=ry;exact PySem.EqNone.eq_none_int (fD I q<|by simp)
  |str j=>obtain⟨t',rfl⟩:=ry;exact PySem.EqNone.eq_none_str (fD I q<|by simp)
  |_=>exact absurd (hs) bJ
 |bl i=>
  cases rx;cases y with
  |non=>cases ry;exact PySem.EqNone.eq_bool_none (fD I q<|by simp)
  |bl j=>cases ry;exact eq_bool<|fD I q aJi
  |str j=>obtain⟨t',rfl⟩:=ry;exact PySem.EqMixed.eq_bool_str (fD I q<|by simp)
  |_=>exact absurd (hs) bJ
 |int i=>
  obtain⟨t,rfl⟩:=rx;cases y with
  |non=>cases ry;exact PySem.EqNone.eq_int_none (fD I q<|by simp)
  |int j=>obtain⟨t',rfl⟩:=ry;exact eq_int<|fD I q wJ
  |str j=>obtain⟨t',rfl⟩:=ry;exact PySem.EqMixed.eq_int_str (fD I q<|by simp)
  |_=>exact absurd (hs) bJ
 |str i=>
  obtain⟨t,rfl⟩:=rx;cases y with
  |non=>cases ry;exact PySem.EqNone.eq_str_none (fD I q<|by simp)
  |bl j=>cases ry;exact PySem.EqMixed.eq_str_bool (fD I q<|by simp)
  |int j=>obtain⟨t',rfl⟩:=ry;exact PySem.EqMixed.eq_str_int (fD I q<|by simp)
  |str j=>obtain⟨t',rfl⟩:=ry;exact eq_str<|fD I q aFn
  |_=>exact absurd (hs) bJ
 |byt i=>
  obtain⟨t,rfl⟩:=rx;cases y with
  |byt j=>obtain⟨t',rfl⟩:=ry;exact PySem.W.eq_bytes<|fD I q aEy
  |_=>exact absurd (hs) bJ
 |_=>cases y<;>exact absurd (hs) bJ
def aRr:OpR X (AU .NotEq) rNe:=by
 intro pins s σ H x y v u Q I rx ry h;obtain⟨hs,q⟩:=h;cases x with
 |non=>
  cases rx;cases y with
  |non=>cases ry;exact PySem.EqNone.ne_none_none (fD I q<|by simp)
  |bl j=>cases ry;exact PySem.EqNone.ne_none_bool (fD I q<|by simp)
  |int j=>obtain⟨t',rfl⟩:=ry;exact PySem.EqNone.ne_none_int (fD I q<|by simp)
  |str j=>obtain⟨t',rfl⟩:=ry;exact PySem.EqNone.ne_none_str (fD I q<|by simp)
  |_=>exact absurd (hs) bJ
 |bl i=>
  cases rx;cases y with
  |non=>cases ry;exact PySem.EqNone.ne_bool_none (fD I q<|by simp)
  |bl j=>cases ry;exact ne_bool (fD I q<|congrArg not aJi)
  |str j=>obtain⟨t',rfl⟩:=ry;exact PySem.EqMixed.ne_bool_str (fD I q<|by simp)
  |_=>exact absurd (hs) bJ
 |int i=>
  obtain⟨t,rfl⟩:=rx;cases y with
  |non=>cases ry;exact PySem.EqNone.ne_int_none (fD I q<|by simp)
  |int j=>obtain⟨t',rfl⟩:=ry;exact ne_int (fD I q<|congrArg not wJ)
  |str j=>obtain⟨t',rfl⟩:=ry;exact PySem.EqMixed.ne_int_str (fD I q<|by simp)
  |_=>exact absurd (hs) bJ
 |str i=>
  obtain⟨t,rfl⟩:=rx;cases y with
  |non=>cases ry;exact PySem.EqNone.ne_str_none (fD I q<|by simp)
  |bl j=>cases ry;exact PySem.EqMixed.ne_str_bool (fD I q<|by simp)
  |int j=>obtain⟨t',rfl⟩:=ry;exact PySem.EqMixed.ne_str_int (fD I q<|by simp)
  |str j=>obtain⟨t',rfl⟩:=ry;exact ne_str (fD I q<|congrArg not aFn)
  |_=>exact absurd (hs) bJ
 |byt i=>
  obtain⟨t,rfl⟩:=rx;cases y with
  |byt j=>obtain⟨t',rfl⟩:=ry;exact PySem.W.ne_bytes (fD I q<|congrArg not aEy)
  |_=>exact absurd (hs) bJ
 |_=>cases y<;>exact absurd (hs) bJ
def aDL:OpR X (AU .Lt) (rI0 λi j=>.bl (decide<|i<j)):=aQa λ_ _ _ _ _ _ _ q=>lt_int q
def aDJ:OpR X (AU .LtE) (rI0 λi j=>.bl (decide<|i<=j)):=aQa λ_ _ _ _ _ _ _ q=>le_int q
def aKT:OpR X (AU .Gt) (rI0 λi j=>.bl (decide<|j<i)):=aQa λ_ _ _ _ _ _ _ q=>gt_int q
def aNW:OpR X (AU .GtE) (rI0 λi j=>.bl (decide<|j<=i)):=aQa λ_ _ _ _ _ _ _ q=>ge_int q
def aJH:OpR X (AU .Is) (λx y H Q=>y=.non/\Q (.bl (decide<|x=.non)) H):=by
 intro pins s σ H x y v u Q I rx ry h;obtain⟨rfl,q⟩:=h;cases ry;refine is_none_gen<|fD I q ?_
 cases x<;>first
  |(cases rx;rfl)
  |(obtain⟨t,rfl⟩:=rx;rfl)
def aMD:OpR X (AU .IsNot) (λx y H Q=>y=.non/\Q (.bl<|!decide (x=.non)) H):=by
 intro pins s σ H x y v u Q I rx ry h;obtain⟨rfl,q⟩:=h;cases ry;refine isnot_none_gen<|fD I q ?_
 cases x<;>first
  |(cases rx;rfl)
  |(obtain⟨t,rfl⟩:=rx;rfl)
def OpR.or(h:OpR X f r)(h':OpR X f r'):OpR X f (λx y H Q=>r x y H Q\/r' x y H Q):=by
 intro pins s σ H x y v u Q I rx ry q
 rcases q with q|q
 ·exact h pins s σ H x y v u Q I rx ry q
 ·exact h' pins s σ H x y v u Q I rx ry q
def gR(b:Expr)(h:op≠ .In:=by decide)(h2:op≠ .NotIn:=by decide):AY op b=false:=by
 have e1:(op==CmpOp.In)=false:=by cases op<;>first|rfl|exact absurd rfl h
 have e2:(op==CmpOp.NotIn)=false:=by cases op<;>first|rfl|exact absurd rfl h2
 cases b<;>simp[AY,e1,e2]
theorem aFt(ho:OpR X (AU op) r)(ha:PE X a ta)(hb:PE X b tb)(hm:AY op b=false):PE X (.Compare a [op] [b] pos) (tOp r ta tb):=by intro pins s σ H Q I h;exact wpAny_Compare1 (aQo ha hb I h λv u s2 x y H2 I2 rx ry q=>ho pins s2 σ H2 x y v u Q I2 rx ry q) hm
def aQY(t:TE):TT:=λσ H Q=>t σ H λx H'=>∃k,x=.bl k/\Q k H'
theorem wM(ho:OpR X (AU op) r)(ha:PE X a ta)(hb:PE X b tb)(hm:AY op b=false):PT X (.Compare a [op] [b] pos) (aQY<|tOp r ta tb):=by
 intro pins s σ H Q I h
 refine wpAny_isTrue_Compare1 (thn (ha pins s σ H _ I h) λv s1 ⟨x,H1,I1,r1,q1⟩=>thn (hb pins s1 σ H1 _ I1 q1) λu s2 ⟨y,H2,I2,r2,q2⟩=>thn (ho pins s2 σ H2 x y v u _ I2 r1 r2 q2) λc s3 ⟨z,H3,I3,r3,k,e,q3⟩=>?_) hm
 subst e;cases r3;exact Ac ⟨H3,I3,q3⟩
def aPA(r r':R2)(ta tb tc:TE):TE:=λσ H Q=>ta σ H λx H1=>tb σ H1 λy H2=>r x y H2 λz H3=>∃k,z=.bl k/\
 (if k=true then tc σ H3 λw' H4=>r' y w' H4 Q else Q (.bl false) H3)
theorem aHO(ho:OpR X (AU op) r)(ho':OpR X (AU op') r')(ha:PE X a ta)(hb:PE X b tb)(hc:PE X c tc)(hm:lastMarks [op,op'] [b,c]=false:=by with_unfolding_all rfl):PE X (.Compare a [op,op'] [b,c] pos) (aPA r r' ta tb tc):=by
 intro pins s σ H Q I h
 refine Compare_chain (thn (ha pins s σ H _ I h) λv s1 ⟨x,H1,I1,r1,q1⟩=>chain_link<|thn (hb pins s1 σ H1 _ I1 q1) λu s2 ⟨y,H2,I2,r2,q2⟩=>thn (ho pins s2 σ H2 x y v u _ I2 r1 r2 q2) λd s3 ⟨z,H3,I3,r3,k,e,q3⟩=>?_) hm
 subst e;cases r3;refine Ac ?_;cases k with
 |false=>exact ite_ff ⟨.bl false,H3,I3,rfl,q3⟩
 |true=>exact ite_tt (chain_last<|thn (hc pins s3 σ H3 _ I3 q3) λw' s4 ⟨z',H4,I4,r4,q4⟩=>ho' pins s4 σ H4 y z' u w' Q I4 r2 r4 q4)
def aDQ:(AM:Nat)<2^63:=by decide
def oX{x:V}(r:Vals [x] us):∃u,us=[u]/\RelV x u:=by
 cases r with
 |cons r1 r2=>cases r2;exact⟨_,rfl,r1⟩
def aRp{x y:V}(r:Vals [x,y] us):∃u w',us=[u,w']/\RelV x u/\RelV y w':=by
 cases r with
 |cons r1 r2=>
  cases r2 with
  |cons r3 r4=>cases r4;exact⟨_,_,rfl,r1,r3⟩
structure ObjM(h:CB)(x dx C:BZ)(mA:Str->Option BX):Prop where
 obj:h.get? x=some (vU C dx)
 ns:h.Ns1 dx mA
 ne:dx≠x
def aFJ(n:h.Ns1 dx mA):∃od,h.get? dx=some od/\∀name,zP name od=some (mA name):=by
 obtain⟨o,es,ep,ho,hd,hk,_,hm⟩:=n;refine⟨o,ho,λname=>?_⟩;have e:=hm name;unfold nsFind findBy at e;rw[<-Array.find?_toList] at e;unfold zP;rw[hd];dsimp only
 split
 ·rename_i y q;rw[q] at e;exact congrArg some e
 ·rename_i q;rw[q] at e
  have a:es.toList.any (·.refKey)=false:=by rw[aKq];intro y hy;obtain⟨z,t,hkey⟩:=hk y<|qK.mp hy;simp[DictEntry.refKey,hkey]
  have a':¬ es.toList.any (·.refKey)=true:=by rw[a];exact bJ
  rw[if_neg a'];exact congrArg some e
def ObjM.look(I:ObjM h x dx C mA):∃od,PySem.W.InstAt h x (vU C dx) C (some od)/\∀name,zP name od=some (mA name):=
 let ⟨od,ho,hl⟩:=aFJ I.ns
 ⟨od,⟨I.obj,rfl,rfl,ho⟩,hl⟩
def RelO.some_of{o:Option BX}(r:RelO (some v) o):∃u,o=some u/\RelV v u:=by
 cases o with
 |none=>exact(r).elim
 |some u=>exact⟨u,rfl,r⟩
variable {a C dx:BZ}{fs fs':List (Str×V)}
def aMr(hok:HOk P w H h)(e:H a=some (.ins C dx fs)):∃mA,ObjM h a dx C mA/\(∀f,RelO (fs.lookup f)<|mA f)/\PySem.Within mA (fs.map (·.1))/\fs.length<=1000/\H dx=some (.own a):=by obtain⟨d,z,ne,ob,mA,n,r,q⟩:=(hok a _ e);exact⟨mA,⟨ob,n,ne⟩,r,q,z,d⟩
structure Cls(K:aB)(C:BZ):Prop where
 pg:aGY K C Str.empty=true
 hd:PySem.W.hasDictIn K C=true
 po:PySem.W.plainOver K C=true
 sa:mN K (.ref C) "__setattr__"=some (some<|.builtin "object.__setattr__")
def Cls.get{K:aB}(c:Cls K C)(f:Str):aGY K C f=true:=c.pg
structure Con(K:aB)(C:BZ)(f:Str)(v:V)(u:BX):Prop where
 at_:mN K (.ref C) f=some (some u)
 rel:RelV v u
 get:aGS K u "__get__"=some none
 cp:PySem.W.copiedNames.contains f=false
structure Meth(K:aB)(C:BZ)(m:Str)(f:BZ):Prop where
 at_:mN K (.ref C) m=some (some<|.ref f)
 fn:aNk K (.ref f)=true
 kp:gM K (.ref f)=true
variable {A:CA}{Q:BX->BY->Prop}{c:BX}{b:Bool}
inductive sC(K:aB)(H:Hp):V->BX->Prop where
 |non:sC K H .non (.type "NoneType")
 |bl (x:Bool):sC K H (.bl x) (.type "bool")
 |int (i:Int):sC K H (.int i) (.type "int")
 |str (x:Str):sC K H (.str x) (.type "str")
 |flt (x:UInt64):sC K H (.flt x) (.type "float")
 |lst {a:BZ}{xs:List V} (e:H a=some (.lst xs)):sC K H (.ref a) (.type "list")
 |frz {a:BZ}{o:CC}{xs:List V} (e:H a=some (.frz o<|.lst xs)):sC K H (.ref a) (.type "list")
 |tup {a:BZ}{xs:List V} (e:H a=some (.tup xs)):sC K H (.ref a) (.type "tuple")
 |dK {a:BZ}{kvs:List (Key×V)} (e:Rd H a (.dK kvs)):sC K H (.ref a) (.type "dict")
 |dT {a:BZ}{kvs:List (List Key×V)} (e:H a=some (.dT kvs)):sC K H (.ref a) (.type "dict")
 |ins {a C dx:BZ}{fs:List (Str×V)} (e:H a=some (.ins C dx fs)) (cl:Cls K C) (ha:mN K (.ref C) "__class__"=some (some<|.builtin "object.__class__"))
   (hn:aGS K (.builtin "object.__class__") "__get__"=some (some<|.builtin "getset_descriptor.__get__")) (htk:PySem.W.takesIn K (.builtin "object.__class__")=some true)
   (hm:PySem.W.mroIn K C (.type "object")=some true):sC K H (.ref a) (.ref C)
def aGD{x:V}{u t:BX}(I:Inv X pins σ H s)(rx:RelV x u)(ty:sC X.K H x t)(e:mO X.K t c=some b)(h:∀tk,Q (.bool b) {s with toks:=tk}):AH (AD X.prog X.w) A (call (.builtin "isinstance") [u,c]) Q E s:=by
 cases ty with
 |non=>cases(rx);exact fF PySem.W.kitx_none I.kIn True.intro e (λz=>nomatch z) h
 |bl y=>cases(rx);exact fF PySem.W.kitx_bool I.kIn True.intro e (λz=>nomatch z) h
 |int i=>obtain⟨t,q⟩:=(rx);cases q;exact fF PySem.W.kitx_int I.kIn True.intro e (λz=>nomatch z) h
 |str y=>obtain⟨t,q⟩:=(rx);cases q;exact fF PySem.W.kitx_str I.kIn True.intro e (λz=>nomatch z) h
 |flt y=>obtain⟨t,q⟩:=(rx);cases q;exact fF PySem.W.kitx_float I.kIn True.intro e (λz=>nomatch z) h
 |@lst a xs ea=>cases(rx);obtain⟨_,_,n,_,h1⟩:=(I.hok a _ ea);exact fF aGT I.kIn ⟨_,h1,rfl⟩ e (λz=>nomatch z) h
 |@frz a ob xs ea=>cases(rx);obtain⟨_,_,_,n,_,h1⟩:=(I.hok a _ ea);exact fF aGT I.kIn ⟨_,h1,rfl⟩ e (λz=>nomatch z) h
 |@tup a xs ea=>cases(rx);obtain⟨_,_,_,p⟩:=(I.hok a _ ea);obtain⟨o,h1,h2,_⟩:=p;exact fF PySem.W.kitx_tuple I.kIn ⟨o,h1,h2⟩ e (λz=>nomatch z) h
 |@dK a kvs ea=>cases(rx);obtain⟨_,_,vs,_,p⟩:=(ea.ok I.hok);obtain⟨o,es,ep,h1,h2,_⟩:=p;exact fF aGU I.kIn ⟨o,h1,h2.1⟩ e (λz=>nomatch z) h
 |@dT a kvs ea=>cases(rx);obtain⟨_,_,xs,_,o,es,ep,h1,h2,_⟩:=(I.hok a _ ea);exact fF aGU I.kIn ⟨o,h1,h2.1⟩ e (λz=>nomatch z) h
 |@ins a C dx fs ea cl ha hn htk hm=>cases(rx);obtain⟨mA,O,_⟩:=aMr I.hok ea;obtain⟨od,J,_⟩:=O.look;exact fF (PySem.W.kitx_own (cl.get _) cl.hd ha hn htk hm) I.kIn J e (λz=>nomatch z) h
structure Room(k:Nat)(A:CA):Prop where
 hd:A.handled=none
 dp:A.depth+3*k+5<recursionLimit
 un:A.units+16*k+200<AR
 gd:A.guards=some []
theorem Room.mono(r:Room k A)(h:j<=k):Room j A:=⟨r.hd,by have:=r.dp;lia,by have:=r.un;lia,r.gd⟩
theorem Room.deeper(r:Room (k+1) A)(env:Env):Room k (A.deeper env):=
 ⟨r.hd,by have:=r.dp;show A.depth+1+3*k+5<_;lia,by have:=r.un;show A.units+3+16*k+200<_;lia,r.gd⟩
theorem Room.depth(r:Room k A):A.depth<recursionLimit:=by have:=r.dp;lia
def vM:TA:=λ_ H Q=>Q [] H
def lV(ta:TE)(tr:TA):TA:=λσ H Q=>ta σ H λx H1=>tr σ H1 λxs H2=>Q (x::xs) H2
variable {es:List Expr}{t:TA}
def pa_nil:PA X [] vM:=λ_ _ _ _ H Q I h=>Calls.spliced_nil ⟨[],H,I,.nil,h⟩
theorem fN(ha:PE X e te)(hr:PA X es t)(hs:AE (e::es) X.env=(false,eval e X.env)::AE es X.env:=by rfl):PA X (e::es) (lV te t):=by intro pos pins s σ H Q I h;rw[hs];refine Calls.spliced_cons<|thn (ha pins s σ H _ I h) λu s1 ⟨x,H1,I1,r1,q1⟩=>?_;exact thn (hr pos pins s1 σ H1 _ I1 q1) λus s2 ⟨xs,H2,I2,r2,q2⟩=>⟨x::xs,H2,I2,.cons r1 r2,q2⟩
def aSo(t:TA):TE:=λσ H Q=>t σ H λxs H1=>xs.length<=AM/\∀p,H1 p=none->Q (.ref p) (upd H1 p<|.tup xs)
def tLst(t:TA):TE:=λσ H Q=>t σ H λxs H1=>xs.length<=AM/\∀p,H1 p=none->Q (.ref p) (upd H1 p<|.lst xs)
theorem aJP(h:PA X es t):PE X (.Tuple es x1 pos) (aSo t):=by intro pins s σ H Q I hq;refine wpAny_Tuple_spliced<|thn (h pos pins s σ H _ I hq) λus s1 ⟨xs,H1,I1,r,z,q⟩=>⟨by rw[<-r.length];exact z,?_⟩;have hf:=I1.hok.fresh<|aK _;refine⟨.ref s1.heap.objs.size,upd H1 s1.heap.objs.size<|.tup xs,I1.laid (λb u e=>aD _ e) (aK _) ?_,rfl,q _ hf⟩;exact⟨z,us,r,IsTupD.new _ _⟩
theorem aPv(h:PA X es t):PE X (.List es pos) (tLst t):=by intro pins s σ H Q I hq;refine wpAny_List_spliced<|thn (h pos pins s σ H _ I hq) λus s1 ⟨xs,H1,I1,r,z,q⟩=>⟨by rw[<-r.length];exact z,?_⟩;have hf:=I1.hok.fresh<|aK _;refine⟨.ref s1.heap.objs.size,upd H1 s1.heap.objs.size<|.lst xs,I1.laid (λb u e=>aD _ e) (aK _) ?_,rfl,q _ hf⟩;exact⟨z,us,0,r,aR _ rfl⟩
abbrev Sp:=List V->Hp->VK->XK->Prop
abbrev CXT:=List Env->Hp->BY->XK->BX->BY->Prop
structure aMV(P:AF)(w:AL)(K:aB)(mg:Str->Option BX)(base:CB)(A:CA)(outer:List Env)(s:BY)(H:Hp):Prop where
 frames:A.frames=some outer
 mod:Mod K mg base
 bs:∀b o,base.get? b=some o->s.heap.get? b=some o/\H b=none
 bsz:base.objs.size<=s.heap.objs.size
 funs:s.heap.FunFrames base outer
 frf:∀b∈frs outer,H b=none
 hok:HOk P w H s.heap
 bare:AllBare s.gens
def CE(outer:List Env)(P:AF)(w:AL)(H:Hp)(s:BY)(Q:VK)(u:BX)(s':BY):Prop:=
 ∃v H',s'.os=s.os/\AllBare s'.gens/\Un (frs outer) [] H H' s.heap s'.heap/\HOk P w H' s'.heap/\RelV v u/\Q v H'
def CR(CX:CXT)(outer:List Env)(P:AF)(w:AL)(H:Hp)(s:BY)(Q:VK)(E:XK)(r:Result)(s':BY):Prop:=
 match r with
 |.ok (.ret u)=>CE outer P w H s Q u s'
 |.ok _=>False
 |.error e=>CX outer H s E e s'
structure FnOk(P:AF)(w:AL)(K:aB)(mg:Str->Option BX)(base:CB)(CX:CXT)(k:Nat)(f:BZ)(fd:Al)(ps:List Str)(sp:Sp):Prop where
 len:∀vs H Q E,sp vs H Q E->vs.length=ps.length
 run:∀ (A:CA) (outer:List Env) (s:BY) (H:Hp) (args:Args) (us:List BX) (vs:List V) (Q:VK) (E:XK),Room k A->aMV P w K mg base A outer s H->BindsTo s fd args (ps.zip us)->Vals vs us->sp vs H Q E->
  codeAny (AD P w) A (.call (.ref f) args) (CR CX outer P w H s Q E) s
variable {s':BY}
def Inv.env0(I:Inv X pins σ H s):aMV X.prog X.w X.K X.mg X.base X.A X.stack s H:=
 ⟨I.ok.frames,I.ok.mod,I.bs,cF I.ok.bsz I.sz,I.stack,I.stkFree,I.hok,I.bare⟩
def Inv.after{Q:VK}{u:BX}(I:Inv X pins σ H s)(h:CE X.stack X.prog X.w H s Q u s'):EP X pins σ Q u s':=by obtain⟨v,H',os,bare,un,hok,r,q⟩:=h;obtain⟨hh,g,d,t,os'⟩:=s';obtain rfl:os'=s.os:=os;exact⟨v,H',I.call un hok bare (λb z=>absurd z<|by simp),r,q⟩
def aRv(sp:Sp)(dvs:List V)(E:XK)(t:TA):TE:=λσ H Q=>t σ H λvs H1=>sp (vs++dvs) H1 Q E
def Binds(K:aB)(fd:Al)(ps:List Str)(ds:List BX):Prop:=
 ∀ (s:BY) (us:List BX),K.In s.heap->(us++ds).length=ps.length->BindsTo s fd ⟨us,[]⟩ (ps.zip<|us++ds)
def Binds.all{K:aB}(h:∀us:List BX,us.length=ps.length->bindArgs fd ⟨us,[]⟩=pure (ps.zip us)):Binds K fd ps []:=λs us _ hl=>by rw[dD] at hl ⊢;exact .of_eq<|h us hl
def aDZ(CX:CXT)(X:Cx)(E:XK):Prop:=∀ (pins:List (BZ×CC)) (σ:St) (H:Hp) (s:BY) (e:BX) (s':BY),Inv X pins σ H s->CX X.stack H s E e s'->X.xe e s'
variable {CX:CXT}{k:Nat}{f:BZ}{fd:Al}{ps:List Str}{sp:Sp}{dvs:List V}{ds:List BX}{E:XK}{x m:Str}{p apos:Pos}{o:Expr}
def aPO{Q:VK}(F:FnOk X.prog X.w X.K X.mg X.base CX k f fd ps sp)(hr:Room k X.A)(hb:Binds X.K fd ps ds)(hd:Vals dvs ds)(hx:aDZ CX X E)(I:Inv X pins σ H s) (r:Vals vs us) (h:sp (vs++dvs) H Q E):AH (AD X.prog X.w) X.A (call (.ref f) us) (EP X pins σ Q) X.xe s:=by
 have r2:=r.append hd;have hl:(us++ds).length=ps.length:=by rw[<-r2.length];exact F.len _ _ _ _ h
 refine wpAny_call<|BK (F.run X.A X.stack s H ⟨us,[]⟩ (us++ds) (vs++dvs) Q E hr I.env0 (hb s us I.kIn hl) r2 h) λr s' hq=>?_;cases r with
 |error e=>exact hx pins σ H s e s' I hq
 |ok fl=>
  cases fl with
  |ret u=>exact I.after hq
  |next=>exact False.elim hq
  |brk=>exact False.elim hq
  |cont=>exact False.elim hq
theorem aFc(F:FnOk X.prog X.w X.K X.mg X.base CX k f fd ps sp)(hr:Room k X.A)(hg:Gl X x)(hm:X.mg x=some (.ref f))(hk:gM X.K (.ref f)=true)(hb:Binds X.K fd ps ds)(hd:Vals dvs ds)(hx:aDZ CX X E)(ha:PA X (e::es) t) (hdb:(x==("__debug__":Str))=false:=by decide) (he:AE (e::es) X.env=(false,eval e X.env)::AE es X.env:=by rfl) (hpl:(BH pos<|AE es X.env).any (·.1)=false:=by rfl):PE X (.Call (.Name x p) (e::es) [] pos) (aRv sp dvs E t):=by
 intro pins s σ H Q I h;refine Ai<|aFj I hg hm ?_ hdb;refine PySem.W.callWith_K I.ok.mod.kin hk (thn (ha pos pins s σ H _ I h) λus s1 ⟨vs,H1,I1,r,q⟩=>⟨I1.kIn,?_⟩) he hpl;exact aPO F hr hb hd hx I1 r q
structure Mk(K:aB)(C f:BZ):Prop where
 makes:PySem.W.makesIn K C=true
 init:mN K (.ref C) "__init__"=some (some<|.ref f)
 fn:aNk K (.ref f)=true
 kp:gM K (.ref C)=true
section
variable {X:Cx}{CX:CXT}{k:Nat}{f C:BZ}{fd:Al}{ps ks:List Str}{sp:Sp}{E:XK}{x m:Str}{p pos apos kpos:Pos}{e o:Expr}{es:List Expr}{kws:List Keyword}{te ta:TE}{t tk:TA}{nm:Option Str}
structure aSx(K:aB)(fd:Al)(ps ks:List Str)(g:List BX->List BX->List BX)(gV:List V->List V->List V):Prop where
 to:∀ (s:BY) (us ws:List BX),K.In s.heap->(g us ws).length=ps.length->BindsTo s fd ⟨us,ks.zip ws⟩ (ps.zip<|g us ws)
 rel:∀ {vs:List V}{us:List BX}{zs:List V}{ws:List BX},Vals vs us->Vals zs ws->Vals (gV vs zs) (g us ws)
variable {g:List BX->List BX->List BX}{gV:List V->List V->List V}
end
structure oN(N P:List Str)(sc:Scope):Prop where
 kind:sc.kind=.function
 co:sc.isCoroutine=false
 gen:sc.isGenerator=false
 nd:N.Nodup
 pre:N.take P.length=P
 par:∀x∈P,sc.names.lookup x=some .local\/sc.names.lookup x=some .cell
 nofree:∀y∈sc.names,y.2≠ .free
theorem aAc{kindOf:Str->Option NameKind}:∀ {binds:List (Str×BX)}{m:Str->Option BX},(∀v,(x,v)∉binds)->bindL kindOf binds m x=m x
 |[],_,_=>rfl
 |(n,v)::r,m,h=>by
  unfold bindL;rw[aAc λw hw=>h w<|aF _ hw]
  split
  ·have:x≠n:=by rintro rfl;exact h v aG
   simp[this]
  ·rfl
theorem aAr{kindOf:Str->Option NameKind}:∀ {binds:List (Str×BX)}{m:Str->Option BX},(∀v,(x,v)∉binds)->bindC kindOf binds m x=m x
 |[],_,_=>rfl
 |(n,v)::r,m,h=>by
  unfold bindC;rw[aAr λw hw=>h w<|aF _ hw]
  split
  ·rfl
  ·have:x≠n:=by rintro rfl;exact h v aG
   simp[this]
theorem aAA{kindOf:Str->Option NameKind}:∀ {P:List Str}{vs:List BX}{i:Nat}{m:Str->Option BX},P.Nodup->P[i]? =some x->vs[i]? =some v->kindOf x=some .local->bindL kindOf (P.zip vs) m x=some v
 |[],_,_,_,_,h,_,_=>by simp at h
 |_::_,[],_,_,_,_,h,_=>by simp at h
 |p::P,w::vs,0,m,nd,h1,h2,hk=>by simp at h1 h2;subst h1;subst h2;show bindL kindOf ((p,w)::P.zip vs) m p=_;unfold bindL;rw[aAc λv hv=>(bE.mp nd).1 (zQ hv).1,if_pos hk];simp
 |p::P,w::vs,i+1,m,nd,h1,h2,hk=>by unfold bindL;exact aAA (bE.mp nd).2 (by simpa using h1) (by simpa using h2) hk
theorem aAp{kindOf:Str->Option NameKind}:∀ {P:List Str}{vs:List BX}{i:Nat}{m:Str->Option BX},P.Nodup->P[i]? =some x->vs[i]? =some v->kindOf x≠some .local->bindC kindOf (P.zip vs) m x=some v
 |[],_,_,_,_,h,_,_=>by simp at h
 |_::_,[],_,_,_,_,h,_=>by simp at h
 |p::P,w::vs,0,m,nd,h1,h2,hk=>by simp at h1 h2;subst h1;subst h2;show bindC kindOf ((p,w)::P.zip vs) m p=_;unfold bindC;rw[aAr λv hv=>(bE.mp nd).1 (zQ hv).1,if_neg hk];simp
 |p::P,w::vs,i+1,m,nd,h1,h2,hk=>by unfold bindC;exact aAp (bE.mp nd).2 (by simpa using h1) (by simpa using h2) hk
noncomputable def start(N:List Str)(vs:List V):St:=vs.map some++gA (N.length-vs.length) none
noncomputable def mJ(CX:CXT)(P:AF)(w:AL)(K:aB)(mg:Str->Option BX)(base:CB)(N:List Str)(qual:Str)(scope:Scope)(f:BZ)(cd:BX)(A:CA)(outer:List Env)(s:BY)(H:Hp)(E:XK):Cx where
 prog:=P
 w:=w
 K:=K
 mg:=mg
 base:=base
 A:=A.deeper<|envOfC qual scope s.heap.objs.size f cd
 N:=N
 s₀:=s
 H₀:=H
 env:=envOfC qual scope s.heap.objs.size f cd
 outer:=outer
 stack:=envOfC qual scope s.heap.objs.size f cd::outer
 ex:=[]
 calm:=true
 fn:=λ_=>true
 pn:=[]
 xe:=λe s'=>AH (AD P w) (A.deeper<|envOfC qual scope s.heap.objs.size f cd) (leaving (envOfC qual scope s.heap.objs.size f cd) e) (λ_ s''=>CX outer H s E e s'') (λe' s''=>CX outer H s E e' s'') s'
def aBZ{sc:Scope}(h:sc.names.lookup x=some .cell):∃c,(cellsFrom n sc.names []).lookup x=some c:=by have q:=aAR sc.names n []<|.inl h;exact Option.isSome_iff_exists.mp q
theorem aFQ{K:aB}(S:oN N ps scope) (hd:A.handled=none) (e0:aMV P w K mg base A outer s H) (hl:vs.length=ps.length) (r:Vals vs us)(x:InCallC s s.heap.objs.size (bindL (envOfC qual scope s.heap.objs.size f cd).kindOf (ps.zip us) λ_=>none) (cellsFrom (s.heap.objs.size+1) scope.names []) (bindC (envOfC qual scope s.heap.objs.size f cd).kindOf (ps.zip us) λ_=>none) s1):Inv (mJ CX P w K mg base N qual scope f cd A outer s H E) [] (start N vs) H s1:=by
 have hpl:=by have:=congrArg qO S.pre;rw[cT] at this;omega
 obtain⟨h1,tk,rfl,hk⟩:=x.done;have noA:∀b,b∉(mJ CX P w K mg base N qual scope f cd A outer s H E).ex:=λb z=>absurd (show b∈([]) from z)<|by simp
 refine ⟨⟨e0.mod,S.kind,rfl,rfl,aK _,fun y z c h1 h2=>?_,fun y hy=>?_,fun y c _ h=>?_,fun _=>hd,Around.frames_deeper e0.frames, .inr ⟨rfl,rfl⟩,fun b z=>absurd z (noA b),e0.bs,e0.bsz,fun b _ _=>noA b,fun b z=>absurd z (noA b),e0.funs,e0.frf⟩,
  rfl,e0.bare,Un.kept hk,⟨_,x.toInCall.ns,λi y v h1 h2 h3=>?_⟩,λy c h=>⟨_,x.cell y c h⟩,e0.hok.fresh (aK _),λy c h=>?_,λp hp=>absurd (show p∈([]) from hp) (by simp),e0.hok.kept hk,?_⟩
 ·exact name_of_addr x.apart (PySem.mem_of_lookup h1)<|PySem.mem_of_lookup h2
 ·rcases hy with hy|hy
  ·exact aBZ hy
  ·exact absurd rfl (S.nofree _<|PySem.mem_of_lookup hy)
 ·exact cX (x.above y c<|PySem.mem_of_lookup h)
 ·have hi:i<vs.length:=by
   unfold start at h2
   by_cases hi:i<vs.length
   ·exact hi
   ·rw[dR<|by simpa using hi] at h2;rw[List.getElem?_replicate] at h2
    split at h2<;>cases h2
  have ha:vs[i]? =some v:=by
   unfold start at h2;rw[cO (by simpa using hi),aY] at h2;cases e:vs[i]? with
   |none=>rw[e] at h2;cases h2
   |some a=>rw[e] at h2;cases h2;rfl
  obtain⟨u,hu,rv⟩:=r.get ha
  have hp:ps[i]? =some y:=by rw[<-S.pre,aBD<|by lia];exact h1
  have ndP:ps.Nodup:=by rw[<-S.pre];exact S.nd.sublist<|List.take_sublist _ _
  refine⟨u,rv,?_⟩
  rcases S.par y (aQ hp) with k|k
  ·exact .inl ⟨k,aAA ndP hp hu k⟩
  ·obtain⟨c,e⟩:=aBZ k;refine .inr ⟨.inl k,c,e,?_⟩;have q:=x.cell y c e;rw[aAp ndP hp hu<|by show scope.names.lookup y≠_;rw[k];decide] at q;exact q
 ·exact e0.hok.fresh<|cX (x.above y c<|PySem.mem_of_lookup h)
 ·unfold start;show _=N.length;rw[aV,aA,List.length_replicate];lia
theorem aRG{K:aB}{dV kV doc pm cdv ct oc:BX} (lk:K.lookup f=some ⟨oc,od,.func<|fV name qual params body scope dV kV doc pm an cdv ct,osl⟩) (hcd:mP K cdv qual=true) (S:oN N ps scope)(len:∀vs H Q E,sp vs H Q E->vs.length=ps.length)(hbody:∀ (A:CA) (outer:List Env) (s:BY) (H:Hp) (vs:List V) (Q:VK) (E:XK),Room k (A.deeper (envOfC qual scope s.heap.objs.size f cdv))→sp vs H Q E→∃t,PSs (mJ CX P w K mg base N qual scope f cdv A outer s H E) body t/\t {nx:=λ_ H'=>Q .non H',rt:=Q} (start N vs) H):FnOk P w K mg base CX (k+1) f (fV name qual params body scope dV kV doc pm an cdv ct) ps sp:=by
 refine⟨len,λA outer s H args us vs Q E hr e0 hb r hsp=>?_⟩;have hl:=len _ _ _ _ hsp;have KX:=e0.mod.kin.keeps λb o e=>(e0.bs b o e).1
 have lim:=e0.mod.nolimit.keeps λb o e=>(e0.bs b o e).1
 have hkind:∀y∈ps.zip us,scope.names.lookup y.1=some .local\/(scope.names.lookup y.1=some .cell/\((cellsFrom (s.heap.objs.size+1) scope.names []).lookup y.1).isSome=true):=λ⟨n,v⟩ hy=>by
  rcases S.par n (zQ hy).1 with q|q
  ·exact .inl q
  ·exact .inr ⟨q,aAR _ _ _<|.inl q⟩
 refine codeAny_call_function hr.depth (KX _ _ lk) rfl S.co S.gen rfl (PySem.W.codeRec_of KX hcd)<|hb _ _ _ _ ?_;refine wpAny_newFunctionEnv_cells S.kind hkind λenv he s1 x=>?_
 subst he;refine⟨lim.keeps x.toInCall.keep,codeAny_func ?_⟩;obtain⟨t,ht,hq⟩:=hbody A outer s H vs Q E (hr.deeper _) hsp;have I:Inv (mJ CX P w K mg base N qual scope f cdv A outer s H E) [] (start N vs) H s1:=aFQ S hr.hd e0 hl r x;refine Ak (ht [] s1 (start N vs) H _ I hq) (λfl s' hs=>?_) λe s' hs=>hs
 have fin:∀ {σ':St}{H':Hp}{v:V}{u:BX},Inv (mJ CX P w K mg base N qual scope f cdv A outer s H E) [] σ' H' s'->RelV v u->Q v H'->CE outer P w H s Q u s':=
  λ{σ' H' v u} J rv q=>⟨v,H',J.os,J.bare,J.base,J.hok,rv,q⟩
 cases fl with
 |ret u=>obtain⟨v,σ',H',J,rv,q⟩:=hs;exact fin J rv q
 |next=>obtain⟨σ',H',J,q⟩:=hs;exact fin (v:=V.non) J rfl q
 |brk=>obtain⟨_,_,_,q⟩:=hs;exact False.elim q
 |cont=>obtain⟨_,_,_,q⟩:=hs;exact False.elim q
section
variable {X:Cx}{x:Str}{p pos:Pos}{e:Expr}{es:List Expr}{t:TA}{id T:String}{r:List V->Hp->VK->Prop}
def tCB(r:List V->Hp->VK->Prop)(t:TA):TE:=λσ H Q=>t σ H λvs H1=>r vs H1 Q
theorem sV(hc:mG X (.builtin id) r)(hg:Gl X x)(hm:X.mg x=none)(hv:Aw x=some (.builtin id))(ha:PA X (e::es) t)(hn:x≠"__name__":=by decide)(hdb:(x==("__debug__":Str))=false:=by decide)(he:AE (e::es) X.env=(false,eval e X.env)::AE es X.env:=by rfl) (hpl:(BH pos<|AE es X.env).any (·.1)=false:=by rfl):PE X (.Call (.Name x p) (e::es) [] pos) (tCB r t):=by
 intro pins s σ H Q I h;refine Ai<|mM I hg hm hv ?_ hn hdb;exact PyProof.Rows.callWith_builtin1 (thn (ha pos pins s σ H _ I h) λus s1 ⟨vs,H1,I1,r1,q1⟩=>hc pins s1 σ H1 vs us Q I1 r1 q1) he hpl
theorem aGJ(hc:mG X (.type T) r)(hg:Gl X x)(hm:X.mg x=none)(hv:Aw x=some (.type T))(ha:PA X (e::es) t)(hn:x≠"__name__":=by decide)(hdb:(x==("__debug__":Str))=false:=by decide)(he:AE (e::es) X.env=(false,eval e X.env)::AE es X.env:=by rfl) (hpl:(BH pos<|AE es X.env).any (·.1)=false:=by rfl):PE X (.Call (.Name x p) (e::es) [] pos) (tCB r t):=by
 intro pins s σ H Q I h;refine Ai<|mM I hg hm hv ?_ hn hdb;exact PyProof.Rows.callWith_type1 (thn (ha pos pins s σ H _ I h) λus s1 ⟨vs,H1,I1,r1,q1⟩=>hc pins s1 σ H1 vs us Q I1 r1 q1) he hpl
end
end L2
namespace HT
open PySem PyProof.Rows
noncomputable def lexLt:List Int->List Int->Bool
 |[],[]=>false
 |[],_::_=>true
 |_::_,[]=>false
 |x::xs,y::ys=>if x=y then lexLt xs ys else decide (x<y)
section
open PySem.SeqAt
open PySem.AutoSeq1 (wpAny_loadPart')
open PySem.MeetsSeq PySem.MeetsSeq2 PySem.MeetsSeq3
end
variable {prog:AF}{w:AL}{A:CA}{E:BX->BY->Prop}{s:BY}
def cat_tup(ht:IsTup s.heap t vs.toArray)(hb:IsTup s.heap b ws.toArray)(hv:vs≠[])(h1:ws=[]->Q (.ref t) s) (h2:ws≠[]->Q (.ref s.heap.objs.size) {s with heap:=s.heap.push {cls:=.type "tuple",data:=.seq (vs++ws).toArray}})(hsz:vs.length+ws.length<=AM):AH (AD prog w) A (Ar .Add (.ref t)<|.ref b) Q E s:=by
 obtain⟨⟨cls,dd,data,sl⟩,ho,hc,n,hd⟩:=id ht;obtain⟨⟨cls2,dd2,data2,sl2⟩,ho2,hc2,n2,hd2⟩:=id hb;subst hc hd hc2 hd2;have e:vs.toArray++ws.toArray=(vs++ws).toArray:=by simp
 by_cases hw:ws=[]
 ·exact concat_meets ⟨_,ho,rfl⟩ ⟨_,ho2,rfl⟩ noFill_tuple_add seq_tuple_add oV oA (nE _ _)
   (tuple_addW1 t b vs.toArray ws.toArray n n2 dd dd2 sl sl2 (by simpa using hv)<|by simp[hw]) ⟨ho,ho2,h1 hw⟩
 ·refine concat_meets ⟨_,ho,rfl⟩ ⟨_,ho2,rfl⟩ noFill_tuple_add seq_tuple_add oV oA (nE _ _)
   (tuple_addW2 t b vs.toArray ws.toArray n n2 dd dd2 sl sl2 (by simpa using hv) (by simpa using hw)<|by exact hsz) ⟨ho,ho2,?_⟩
  rw[e];exact h2 hw
noncomputable def sIx(n d:Nat):Option Int->Nat
 |none=>d
 |some v=>if v<0 then(v+(n:Int)).toNat else min v.toNat n
def sIx_none(n d:Nat):sIx n d none=d:=rfl
theorem sIx_nat(n d k:Nat):sIx n d (some (k:Int))=min k n:=by show(if(k)<0 then((k)+(n:Int)).toNat else min (k:Int).toNat n)=min k n;rw[if_neg<|by lia,eM]
theorem aEU(v:Int)(n d:Nat):(if v<0 then max (v+(n:Int)) 0 else min v (n:Int))=((sIx n d (some v):Nat):Int):=by
 show(if v<0 then max (v+(n)) 0 else min v (n))=(((if v<0 then(v+(n)).toNat else min v.toNat n)))
 by_cases hv:v<0
 ·simp only[if_pos hv];lia
 ·simp only[if_neg hv];lia
theorem aDj(lo hi:Option Int)(n:Nat):Builtin.Slice.sliceAdjust lo hi 1 (n:Int)=(((sIx n 0 lo:Nat):Int),((sIx n n hi:Nat):Int)):=by
 have h1:¬ ((1)<0):=by lia
 unfold Builtin.Slice.sliceAdjust;refine Prod.ext ?_ ?_
 ·cases lo with
  |none=>rfl
  |some v=>exact aEU v n 0
 ·cases hi with
  |none=>rfl
  |some v=>exact aEU v n n
theorem aDd(i j:Nat):Builtin.Slice.slicePlaces (i:Int) (j:Int) 1=j-i:=by
 unfold Builtin.Slice.slicePlaces;have h1:(1)>0:=by omega
 split<;>lia
def yK(p:IsPart v o)(h:Q o s):AH (AD prog w) A (Builtin.Slice.slicePartIndex v) Q E s:=by
 cases p with
 |none=>exact slicePart_none h
 |int i t=>exact slicePart_int h
def uT{lo hi:Option Int}{Q:Int×Int×Nat->BY->Prop}(hs:s.heap.IsSliceOf sl vl vu .none)(pl:IsPart vl lo)(pu:IsPart vu hi)(h:Q (((sIx n 0 lo:Nat):Int),1,sIx n n hi-sIx n 0 lo) s):AH (AD prog w) A (Builtin.Slice.sliceApplied (.ref sl)<|pure (n:Int)) Q E s:=by
 obtain⟨os,hos,hcs,hds⟩:=id hs;refine AA<|AA (Aa hos hds rfl<|AA (Aa hos hds rfl<|AA (Aa hos hds rfl<|AB ?_)));refine AA<|slicePart_none ?_;refine AA<|yK pl (AA<|yK pu (AA<|AB ?_));show AH _ _ (match Builtin.Slice.sliceAdjust lo hi 1 (n) with|(lo,hi)=>pure (lo,(1:Int),Builtin.Slice.slicePlaces lo hi 1)) _ _ s;rw[aDj lo hi n];show AH _ _ (pure (((sIx n 0 lo):Int),(1),Builtin.Slice.slicePlaces ((sIx n 0 lo)) ((sIx n n hi)) 1)) _ _ s;rw[aDd];exact AB h
theorem aIG(xs:Array BX)(i k:Nat):((bI k).filterMap λ(m:Nat)=>xs[((i:Int)+(m:Int)*1).toNat]?).toArray=((xs.toList.drop i).take k).toArray:=by
 have e:(λ(m:Nat)=>xs[((i)+(m:Int)*1).toNat]?)=λm=>xs[i+m]? :=by
  funext m;have:((i)+(m:Int)*1).toNat=i+m:=by lia
  rw[this]
 rw[e];have:=pick_run xs i k;rw[List.filterMap_map] at this;have e2:((λx=>xs[x]?) ∘ λx=>i+x)=λm=>xs[i+m]? :=rfl
 rw[e2] at this;rw[this]
theorem getItem_tuple_cut{lo hi:Option Int}(ht:IsTup s.heap t items)(hs:s.heap.IsSliceOf sl vl vu .none)(pl:IsPart vl lo)(pu:IsPart vu hi)(hw:¬ (sIx items.size 0 lo=0/\sIx items.size items.size hi=items.size))(h:Q (.ref s.heap.objs.size) {s with heap:=s.heap.push {cls:=.type "tuple",data:=.seq ((items.toList.drop<|sIx items.size 0 lo).take<|sIx items.size items.size hi-sIx items.size 0 lo).toArray}})(hsz:items.size<=AM):AH (AD prog w) A (getItem (.ref t)<|.ref sl) Q E s:=by
 have htake:=by show((items.toList.drop<|sIx items.size 0 lo).take<|sIx items.size items.size hi-sIx items.size 0 lo).toArray.size<=AM;rw[bB,cT,gN,eC];lia
 obtain⟨os,hos,hcs,hds⟩:=id hs;have hTs:s.TypeIs (.ref sl) "slice":=⟨os,hos,hcs⟩;unfold getItem
 try with_reducible refine AV ?_
 first|refine AA (AB ?_)|skip
 refine AA<|wpAny_sequenceKey ht.typeIs (by decide) ?_
 refine AA (AS ht.typeIs PyProof.Rows.slot_tuple_getitem
  (AQ PyProof.Rows.slot_tuple_getitem ht.typeIs entry_tuple_getitem ?_ (args_tuple_getitem _ _)))
 show AH _ _ (Builtin.Tuple.tupleItemsOf (.ref t)>>=_) _ _ s;refine AA<|tupleItemsOf_ ht ?_;refine AA<|wpAny_typeOf hTs ?_;refine AA<|uT hs pl pu ?_
 have hno:¬ ((((sIx items.size 0 lo):Int)==0&&(1:Int)==1&&(sIx items.size items.size hi-sIx items.size 0 lo)==items.size)=true):=by intro q;rw[bL,bL] at q;have q1:=eq_of_beq q.1.1;have q2:=eq_of_beq q.2;exact hw ⟨by lia,by lia⟩
 show AH _ _ (if(((sIx items.size 0 lo):Int)==0&&(1)==1&&(sIx items.size items.size hi-sIx items.size 0 lo)==items.size)=true then _ else _) _ _ s;rw[if_neg hno,aIG]
 first
  |exact AA (AO (AB ⟨_,rfl,AB h⟩) htake)
  |exact AA (AO (AA (AB<|AB ⟨_,rfl,AB h⟩)) htake)
  |exact AA (AA<|AO (AB<|AB ⟨_,rfl,AB h⟩) htake)
  |exact AA (AA<|AO (AB ⟨_,rfl,AB h⟩) htake)
end HT
namespace L2
open PySem PySem.Spec PyProof.Rows
abbrev TO:=St->Hp->(Option Int->Hp->Prop)->Prop
def PO(X:Cx)(e:Option Expr)(t:TO):Prop:=
 ∀ (pins:List (BZ×CC)) (s:BY) (σ:St) (H:Hp) (Q:Option Int->Hp->Prop),Inv X pins σ H s->t σ H Q->
  AH (AD X.prog X.w) X.A (evalPart e X.env) (λu s'=>∃o H',Inv X pins σ H' s'/\IsPart u o/\Q o H') X.xe s
def aLH:TO:=λ_ H Q=>Q none H
def aRK(t:TE):TO:=λσ H Q=>t σ H λx H1=>∃i,x=.int i/\Q (some i) H1
variable {X:Cx}{e:Expr}{te:TE}{lo hi:Option Expr}{tl th:TO}{pos p2:Pos}
def aMy:PO X none aLH:=by intro pins s σ H Q I h;exact AB ⟨none,H,I,.none,h⟩
theorem aLV(h:PE X e te):PO X (some e) (aRK te):=by
 intro pins s σ H Q I hw;refine thn (h pins s σ H _ I hw) λu s1 ⟨x,H1,I1,r1,q1⟩=>?_
 obtain⟨i,rfl,q⟩:=q1;obtain⟨t,rfl⟩:=r1;exact⟨some i,H1,I1,.int i t,q⟩
def SlR(X:Cx)(r:V->Option Int->Option Int->Hp->VK->Prop):Prop:=
 ∀ (pins:List (BZ×CC)) (s:BY) (σ:St) (H:Hp) (x:V) (v vl vu:BX) (lo hi:Option Int) (sl:BZ) (Q:VK),Inv X pins σ H s->RelV x v->s.heap.IsSliceOf sl vl vu .none->IsPart vl lo->IsPart vu hi->r x lo hi H Q->
  ∃T id,typeLookup (.type T) "__getitem__"=pure (some<|.builtin id)/\s.TypeIs v T/\AH (AD X.prog X.w) X.A (getItem v<|.ref sl) (EP X pins σ Q) X.xe s
def tSl(r:V->Option Int->Option Int->Hp->VK->Prop)(te:TE)(tl th:TO):TE:=λσ H Q=>te σ H λx H1=>tl σ H1 λl H2=>th σ H2 λu H3=>r x l u H3 Q
theorem aCb(hr:SlR X r)(he:PE X e te)(hl:PO X lo tl)(hu:PO X hi th):PE X (.Subscript e (.Slice lo hi none p2) pos) (tSl r te tl th):=by
 intro pins s σ H Q I h;refine Subscript_<|thn (he pins s σ H _ I h) λv s1 ⟨x,H1,I1,r1,q1⟩=>?_;refine wpAny_Slice<|thn (hl pins s1 σ H1 _ I1 q1) λvl s2 ⟨l,H2,I2,pl,q2⟩=>thn (hu pins s2 σ H2 _ I2 q2) λvu s3 ⟨u,H3,I3,pu,q3⟩=>?_;refine AB ?_;have I4:Inv X pins σ H3 {s3 with heap:=s3.heap.push {cls:=.type "slice",data:=.fields #[vl,vu,.none]}}:=I3.kept λb ob q=>aD _ q
 obtain⟨T,id,hT,ht,hg⟩:=hr pins {s3 with heap:=s3.heap.push {cls:=.type "slice",data:=.fields #[vl,vu,.none]}} σ H3 x v vl vu l u s3.heap.objs.size Q I4 r1 (Heap.IsSliceOf.new ..) pl pu q3;exact tail_any ht hT hg (by with_unfolding_all rfl)
def aKA(xs:List V)(lo hi:Option Int):List V:=(xs.drop<|HT.sIx xs.length 0 lo).take<|HT.sIx xs.length xs.length hi-HT.sIx xs.length 0 lo
theorem vD(xs:List V)(lo hi:Option Int):(aKA xs lo hi).length<=xs.length:=by unfold aKA;rw[cT,gN];lia
def rSlT(K:aB):V->Option Int->Option Int->Hp->VK->Prop:=λx lo hi H Q=>∃a xs,x=.ref a/\SqT K H a xs/\
 ¬ (HT.sIx xs.length 0 lo=0/\HT.sIx xs.length xs.length hi=xs.length)/\∀p,H p=none->Q (.ref p) (upd H p (.tup<|aKA xs lo hi))
def aPP:SlR X (rSlT X.K):=by
 intro pins s σ H x v vl vu lo hi sl Q I rx hs pl pu h;obtain⟨a,xs,rfl,hx,hw,q⟩:=h;cases rx;obtain⟨its,r,ht,hz⟩:=I.tuple hx;have hlen:its.toArray.size=xs.length:=by exact r.length.symm
 refine⟨"tuple",_,PyProof.Rows.slot_tuple_getitem.lookup,ht.typeIs,?_⟩;refine HT.getItem_tuple_cut ht hs pl pu (by rw[hlen];exact hw) ?_ (by rw[hlen];exact hz);rw[hlen];refine⟨.ref s.heap.objs.size,_,I.laid (λb ob q=>aD _ q) (aK _) ?_,rfl,q _ (I.hok.fresh<|aK _)⟩;exact⟨cF (vD xs lo hi) hz,_,(r.drop<|HT.sIx xs.length 0 lo).take<|HT.sIx xs.length xs.length hi-HT.sIx xs.length 0 lo,IsTupD.new _ _⟩
def aRC(K:aB):R2:=λx y H Q=>∃a b xs ys,x=.ref a/\y=.ref b/\SqT K H a xs/\SqT K H b ys/\xs≠[]/\xs.length+ys.length<=AM/\
 (ys=[]->Q (.ref a) H)/\(ys≠[]->∀p,H p=none->Q (.ref p) (upd H p (.tup<|xs++ys)))
def Vals.nil_iff(r:Vals xs us):us=[]↔xs=[]:=by
 cases r with
 |nil=>simp
 |cons _ _=>simp
def aML:OpR X (Ar .Add) (aRC X.K):=by intro pins s σ H x y v u Q I rx ry h;obtain⟨a,b,xs,ys,rfl,rfl,ha,hb,hx,hz,q1,q2⟩:=h;cases rx;cases ry;obtain⟨its,r1,p1,_⟩:=I.tuple ha;obtain⟨its2,r2,p2,_⟩:=I.tuple hb;refine HT.cat_tup p1 p2 (λz=>hx<|r1.nil_iff.mp z) (λz=>⟨.ref a,H,I,rfl,q1<|r2.nil_iff.mp z⟩) (λz=>?_) (by rw[<-r1.length,<-r2.length];exact hz);refine⟨.ref s.heap.objs.size,_,I.laid (λb ob q=>aD _ q) (aK _) ?_,rfl,q2 (λw=>z<|r2.nil_iff.mpr w) _ (I.hok.fresh<|aK _)⟩;exact⟨by rw[aV];exact hz,_,r1.append r2,IsTupD.new _ _⟩
noncomputable def ixN(n:Nat)(i:Int):Option Nat:=if 0<=i then(if i<n then some i.toNat else none) else if -(n:Int)<=i then some (i+n).toNat else none
def atI{α:Type}(xs:List α)(i:Int):Option α:=(ixN xs.length i).bind λj=>xs[j]?
theorem aMj(h:ixN n i=some j):seqIndex? i n=some j/\j<n/\ -(n:Int)<=i/\i<n:=by
 unfold ixN at h
 by_cases h0:0<=i
 ·rw[if_pos h0] at h
  by_cases h1:i<n
  ·rw[if_pos h1] at h;have e:=bW.inj h;exact⟨by rw[seqIndex_of h0 h1,e],by lia,by lia,h1⟩
  ·rw[if_neg h1] at h;cases h
 ·rw[if_neg h0] at h
  by_cases h1: -(n)<=i
  ·rw[if_pos h1] at h;have e:=bW.inj h;exact⟨by rw[seqIndex_neg (by lia) h1,e],by lia,h1,by lia⟩
  ·rw[if_neg h1] at h;cases h
def aEJ(h:atI xs i=some v):∃j,seqIndex? i xs.length=some j/\xs[j]? =some v/\j<xs.length/\ -(xs.length:Int)<=i/\i<xs.length:=by
 unfold atI at h;cases e:ixN xs.length i with
 |none=>rw[e] at h;cases h
 |some j=>rw[e] at h;obtain⟨h1,h2,h3,h4⟩:=aMj e;exact⟨j,h1,h,h2,h3,h4⟩
theorem aAX{j:Nat}{v:α}(h:xs[j]? =some v):atI xs (j:Int)=some v:=by
 have hj:=(aE.mp h).1
 have e:ixN xs.length (j)=some j:=by unfold ixN;rw[if_pos<|by lia,if_pos<|by lia];simp
 unfold atI;rw[e];exact h
theorem atI_last(xs:List α)(v:α):atI (xs++[v]) (-1)=some v:=by
 have hl:(xs++[v]).length=xs.length+1:=by simp
 have e:ixN (xs++[v]).length (-1)=some xs.length:=by unfold ixN;rw[if_neg<|by decide,if_pos<|by lia];congr 1;lia
 unfold atI;rw[e];simp
def oK(b:Expr):Prop:=∀o i,subscripted b false o i=operate [o,i] (getItem o i)
def IxR(X:Cx)(r:R2):Prop:=
 ∀ (value slice:Expr) (pins:List (BZ×CC)) (s:BY) (σ:St) (H:Hp) (x y:V) (v u:BX) (Q:VK),Inv X pins σ H s->RelV x v->RelV y u->r x y H Q->
  subscripted slice false v u=operate [v,u] (getItem v u)->AH (AD X.prog X.w) X.A (subscriptTail value slice v u) (EP X pins σ Q) X.xe s
def MtR(X:Cx)(id:String)(r:V->List V->Hp->VK->Prop):Prop:=
 ∀ (pins:List (BZ×CC)) (s:BY) (σ:St) (H:Hp) (x:V) (xs:List V) (v:BX) (us:List BX) (Q:VK),Inv X pins σ H s->RelV x v->Vals xs us->r x xs H Q->
  AH (AD X.prog X.w) X.A (call (.builtin id) (v::us)) (EP X pins σ Q) X.xe s
section
variable {X:Cx}{a b:Expr}{ta tb:TE}{pos:Pos}
theorem aHe(hr:IxR X r)(ha:PE X a ta)(hb:PE X b tb)(hs:oK b):PE X (.Subscript a b pos) (tOp r ta tb):=by intro pins s σ H Q I h;exact Subscript_ (aQo ha hb I h λv u s2 x y H2 I2 rx ry q=>hr a b pins s2 σ H2 x y v u Q I2 rx ry q<|hs _ _)
def rIxL(K:aB):R2:=λx y H Q=>∃p xs i v,x=.ref p/\y=.int i/\SqL K H p xs/\atI xs i=some v/\Q v H
def rIxT(K:aB):R2:=λx y H Q=>∃p xs i v,x=.ref p/\y=.int i/\SqT K H p xs/\atI xs i=some v/\Q v H
theorem aFe:IxR X (rIxL X.K):=by
 intro value slice pins s σ H x y v u Q I rx ry h hs;obtain⟨p,xs,i,z,rfl,rfl,hq,he,q⟩:=h;cases rx;obtain⟨t,rfl⟩:=ry;obtain⟨its,r,pl,hz⟩:=I.list hq;obtain⟨j,h1,h2,h3,h4,h5⟩:=aEJ he;obtain⟨w,ew,rw'⟩:=r.get h2;have hl:=r.length;have hn:=aDQ;have fin:EP X pins σ Q w s:=⟨z,H,I,rw',q⟩
 by_cases h0:0<=i
 ·have hj:=by rw[seqIndex_of h0 h5] at h1;exact bW.inj h1
  exact item_listR pl.isList h0 (by lia) (by rw[hj];simpa using ew) fin hs
 ·have hj:(i+(its.toArray.size)).toNat=j:=by rw[seqIndex_neg (by lia) h4] at h1;rw[bB,<-hl];exact bW.inj h1
  exact subscriptTail_builtinR pl.isList.typeIs slot_list_getitem.lookup
   (wpAny_getItem_list_neg pl.isList (by lia) (by rw[bB]<;>lia) (by lia) (by rw[hj];simpa using ew) ⟨rfl,fin⟩) hs
theorem aKc:IxR X (rIxT X.K):=by
 intro value slice pins s σ H x y v u Q I rx ry h hs;obtain⟨p,xs,i,z,rfl,rfl,hq,he,q⟩:=h;cases rx;obtain⟨t,rfl⟩:=ry;obtain⟨its,r,pl,hz⟩:=I.tuple hq;obtain⟨j,h1,h2,h3,h4,h5⟩:=aEJ he;obtain⟨w,ew,rw'⟩:=r.get h2;have hl:=r.length;have hn:=aDQ;have fin:EP X pins σ Q w s:=⟨z,H,I,rw',q⟩
 exact subscriptTail_builtinR pl.typeIs slot_tuple_getitem.lookup
  (getItem_tuple pl (by lia) (by lia) (by rw[bB,<-hl];exact h1) (by simpa using ew) ⟨rfl,fin⟩) hs
theorem aAC(lo hi:Option Int)(n:Nat):(As lo hi none n).1=((HT.sIx n 0 lo:Nat):Int)/\(As lo hi none n).2.1=((HT.sIx n n hi:Nat):Int)/\(As lo hi none n).2.2=1:=by
 refine⟨?_,?_,rfl⟩
 ·cases lo with
  |none=>simp[As,HT.sIx]
  |some i=>
   simp only[As,HT.sIx,aIY,show(1:Int)>0 by decide,if_true]
   by_cases h:i<0
   ·simp only[h,if_true]<;>lia
   ·simp only[h,if_false]<;>lia
 ·cases hi with
  |none=>simp[As,HT.sIx]
  |some i=>
   simp only[As,HT.sIx,aIY,show(1:Int)>0 by decide,if_true]
   by_cases h:i<0
   ·simp only[h,if_true]<;>lia
   ·simp only[h,if_false]<;>lia
def zW(its:List BX)(lo hi:Option Int):slicePick its.toArray lo hi none=((its.drop<|HT.sIx its.length 0 lo).take<|HT.sIx its.length its.length hi-HT.sIx its.length 0 lo).toArray:=by obtain⟨h1,h2,h3⟩:=aAC lo hi its.toArray.size;unfold slicePick;rw[h1,h2,h3];simp only[sliceRange_one,pick_run,bB]<;>rfl
def rSlL(K:aB):V->Option Int->Option Int->Hp->VK->Prop:=λx lo hi H Q=>∃a xs,x=.ref a/\SqL K H a xs/\∀p,H p=none->Q (.ref p) (upd H p (.lst<|aKA xs lo hi))
theorem aMa:SlR X (rSlL X.K):=by intro pins s σ H x v vl vu lo hi sl Q I rx hs pl pu h;obtain⟨a,xs,rfl,hx,q⟩:=h;cases rx;obtain⟨its,r,ht,hz⟩:=I.list hx;have hlen:=r.length;refine⟨"list",_,slot_list_getitem.lookup,ht.isList.typeIs,?_⟩;refine wpAny_getItem_list_slice ht.isList hs pl pu .none (by simp) ?_ (by rw[bB]<;>lia);rw[zW,<-hlen];refine⟨.ref s.heap.objs.size,_,I.laid (λb ob q=>aD _ q) (aK _) ?_,rfl,q _ (I.hok.fresh<|aK _)⟩;exact⟨cF (vD xs lo hi) hz,_,0,(r.drop<|HT.sIx xs.length 0 lo).take<|HT.sIx xs.length xs.length hi-HT.sIx xs.length 0 lo,aR _ rfl⟩
noncomputable def oW:V->Bool
 |.non=>true
 |.bl _=>true
 |.int _=>true
 |.str _=>true
 |_=>false
noncomputable def eqV:V->V->Bool
 |.non,.non=>true
 |.bl a,.bl b=>a==b
 |.bl a,.int b=>(if a then 1 else 0)==b
 |.int a,.bl b=>a==(if b then 1 else 0)
 |.int a,.int b=>a==b
 |.str a,.str b=>a==b
 |_,_=>false
def xX(ry:RelV y u)(rx:RelV x v)(fy:oW y=true)(fx:oW x=true):SeqAt.EqAt A s u v (eqV y x):=by
 cases y with
 |non=>
  cases ry;cases x with
  |non=>cases rx;exact SeqAt.EqAt.same _
  |bl b=>cases rx;exact SeqAt.EqAt.none_bool b
  |int b=>obtain⟨t,rfl⟩:=rx;exact SeqAt.EqAt.none_int b t
  |str b=>obtain⟨t,rfl⟩:=rx;exact SeqAt.EqAt.none_str b t
  |_=>exact absurd (fx) bJ
 |bl a=>
  cases ry;cases x with
  |non=>cases rx;exact SeqAt.EqAt.bool_none a
  |bl b=>cases rx;exact SeqAt.EqAt.bool_bool a b
  |int b=>obtain⟨t,rfl⟩:=rx;exact SeqAt.EqAt.bool_int a b t
  |str b=>obtain⟨t,rfl⟩:=rx;exact SeqAt.EqAt.bool_str a b t
  |_=>exact absurd (fx) bJ
 |int a=>
  obtain⟨t',rfl⟩:=ry;cases x with
  |non=>cases rx;exact SeqAt.EqAt.int_none a t'
  |bl b=>cases rx;exact SeqAt.EqAt.int_bool a t' b
  |int b=>obtain⟨t,rfl⟩:=rx;exact SeqAt.EqAt.int_int a t' b t
  |str b=>obtain⟨t,rfl⟩:=rx;exact SeqAt.EqAt.int_str a t' b t
  |_=>exact absurd (fx) bJ
 |str a=>
  obtain⟨t',rfl⟩:=ry;cases x with
  |non=>cases rx;exact SeqAt.EqAt.str_none a t'
  |bl b=>cases rx;exact SeqAt.EqAt.str_bool a t' b
  |int b=>obtain⟨t,rfl⟩:=rx;exact SeqAt.EqAt.str_int a t' b t
  |str b=>obtain⟨t,rfl⟩:=rx;exact SeqAt.EqAt.str_str a t' b t
  |_=>exact absurd (fx) bJ
 |_=>exact absurd (fy) bJ
def eqU(x:V)(u:BX):Bool:=match u with
 |.none=>eqV .non x
 |.bool b=>eqV (.bl b) x
 |.int i _=>eqV (.int i) x
 |.str z _=>eqV (.str z) x
 |_=>false
def aJx(r:RelV y u)(f:oW y=true):eqU x u=eqV y x:=by
 cases y with
 |non=>cases r;rfl
 |bl b=>cases r;rfl
 |int i=>obtain⟨t,rfl⟩:=r;rfl
 |str z=>obtain⟨t,rfl⟩:=r;rfl
 |_=>exact absurd (f) bJ
theorem aBh:∀ {xs:List V}{us:List BX},Vals xs us->xs.all oW=true->us.any (eqU x)=xs.any λy=>eqV y x
 |_,_,.nil,_=>rfl
 |y::xs,u::us,.cons r t,f=>by rw[aQc,bL] at f;rw[lQ,lQ,aJx r f.1,aBh t f.2]
theorem yV(rx:RelV x v)(fx:oW x=true):∀ {xs:List V}{us:List BX},Vals xs us->xs.all oW=true->∀u∈us,SeqAt.EqAt A s u v (eqU x u)
 |_,_,.nil,_=>λu hu=>by cases hu
 |y::xs,u::us,.cons r t,f=>λu' hu=>by
  rw[aQc,bL] at f
  rcases aP.mp hu with rfl|hu
  ·rw[aJx r f.1];exact xX r rx f.1 fx
  ·exact yV rx fx t f.2 u' hu
def inV(x:V)(xs:List V):Bool:=xs.any λy=>eqV y x
def rIn(K:aB)(neg:Bool):R2:=λx y H Q=>∃p xs,y=.ref p/\(SqL K H p xs\/SqT K H p xs)/\oW x=true/\xs.all oW=true/\Q (.bl (if neg then !inV x xs else inV x xs)) H
def aFP:OpR X (AU .In) (rIn X.K false):=by
 intro pins s σ H x y v u Q I rx ry h;obtain⟨p,xs,rfl,hq,fx,fs,q⟩:=h;cases ry
 rcases hq with hq|hq
 ·obtain⟨its,r,pl,hz⟩:=I.list hq;refine SeqAt.in_listAt (eqU x) pl.isList (λw hw=>yV rx fx r fs w<|by simpa using hw) ⟨.bl _,H,I,rfl,?_⟩;rw[show its.toArray.any (eqU x)=its.any (eqU x) by simp,aBh r fs];exact q
 ·obtain⟨its,r,pl,hz⟩:=I.tuple hq;refine SeqAt.in_tupleAt (eqU x) pl (λw hw=>yV rx fx r fs w<|by simpa using hw) ⟨.bl _,H,I,rfl,?_⟩;rw[show its.toArray.any (eqU x)=its.any (eqU x) by simp,aBh r fs];exact q
theorem oH:mG X (.builtin "len") (λxs H Q=>∃p ys,xs=[.ref p]/\(SqL X.K H p ys\/SqT X.K H p ys)/\Q (.int ys.length) H):=by
 intro pins s σ H xs us Q I r h;obtain⟨p,ys,rfl,hq,q⟩:=h;obtain⟨u,rfl,rx⟩:=oX r;cases rx;have hn:=aDQ
 rcases hq with hq|hq
 ·obtain⟨its,r',pl,hz⟩:=I.list hq;have hlen:=r'.length;exact Calls.call_len_list pl.isList (by simp <;>lia) ⟨.int ys.length,H,I.tok _,⟨s.toks+1,by rw[bB,hlen]⟩,q⟩
 ·obtain⟨its,r',pl,hz⟩:=I.tuple hq;have hlen:=r'.length;exact len_tuple pl (by simp <;>lia) ⟨.int ys.length,H,I.tok _,⟨s.toks+1,by rw[bB,hlen]⟩,q⟩
theorem zX:mG X (.type "tuple") (λxs H Q=>∃p ys,xs=[.ref p]/\((SqL X.K H p ys/\∀l,H l=none->Q (.ref l) (upd H l<|.tup ys))\/(SqT X.K H p ys/\Q (.ref p) H))):=by
 intro pins s σ H xs us Q I r h;obtain⟨p,ys,rfl,h⟩:=h;obtain⟨u,rfl,rx⟩:=oX r;cases rx
 rcases h with⟨hq,q⟩|⟨hq,q⟩
 ·obtain⟨its,r',pl,hz⟩:=I.list hq;have hlen:=r'.length;refine call_tuple_list pl.isList (λh' kp=>?_) (by simp <;>lia);have I1:Inv X pins σ H {s with heap:=h'}:=I.kept kp
  have I2:Inv X pins σ (upd H h'.objs.size<|.tup ys) {s with heap:=h'.push {cls:=.type "tuple",data:=.seq its.toArray}}:=
   I1.laid (λb o e=>aD _ e) (aK _) (⟨hz,its,r',IsTupD.new _ _⟩)
  exact⟨.ref h'.objs.size,_,I2,rfl,q _ (I1.hok.fresh<|aK _)⟩
 ·obtain⟨its,r',pl,hz⟩:=I.tuple hq;exact call_tuple_same pl ⟨.ref p,H,I,rfl,q⟩
def tyV(K:aB)(T:String)(x:V)(H:Hp):Prop:=match x with
 |.str _=>T="str"
 |.int _=>T="int"
 |.ref p=>(T="list"/\∃xs,SqL K H p xs)\/(T="tuple"/\∃o,K.lookup p=some o/\o.cls=.type "tuple"/\o.dict=none)\/
   (T="dict"/\((∃kvs,H p=some (.dK kvs))\/∃kvs,H p=some (.dT kvs)))\/(T="set"/\∃S n,H p=some (.set S n))
 |_=>False
def aOP{σ:St}(I:Inv X pins σ H s)(r:RelV x v)(ty:tyV X.K T x H):s.TypeIs v T/\∀a,v=.ref a->∃ob,s.heap.get? a=some ob/\ob.dict=none:=by
 cases x with
 |str z=>obtain⟨t,rfl⟩:=r;cases(ty);exact⟨typeIs_str s z t,λ_ e=>nomatch e⟩
 |int i=>obtain⟨t,rfl⟩:=r;cases(ty);exact⟨typeIs_int s i t,λ_ e=>nomatch e⟩
 |ref p=>
  cases r
  rcases ty with⟨rfl,xs,hq⟩|⟨rfl,o,hk,hc,hd⟩|⟨rfl,hk⟩|⟨rfl,S,n,hk⟩
  ·obtain⟨its,_,pl,_⟩:=I.list hq;refine⟨pl.isList.typeIs,λa e=>?_⟩;cases e;obtain⟨o,n,e,c,hd,_⟩:=pl;exact⟨o,e,hd⟩
  ·refine⟨⟨o,I.kIn p o hk,hc⟩,λa e=>?_⟩;cases e;exact⟨o,I.kIn _ o hk,hd⟩
  ·have z:∃o,s.heap.get? p=some o/\o.ExactDict:=by
    rcases hk with⟨kvs,hk⟩|⟨kvs,hk⟩
    ·obtain⟨_,_,_,_,o,_,_,e,ex,_⟩:=I.hok p _ hk;exact⟨o,e,ex⟩
    ·obtain⟨_,_,_,_,o,_,_,e,ex,_⟩:=I.hok p _ hk;exact⟨o,e,ex⟩
   obtain⟨o,e,ex⟩:=z;refine⟨⟨o,e,ex.1⟩,λa e2=>?_⟩;cases e2;exact⟨o,e,ex.2.1⟩
  ·obtain⟨o,_,_,_,e,ex,_⟩:=I.hok p _ hk;refine⟨⟨o,e,ex.1⟩,λa e2=>?_⟩;cases e2;exact⟨o,e,ex.2.1⟩
 |_=>exact False.elim ty
def tBM(K:aB)(T:String)(r:V->List V->Hp->VK->Prop)(to:TE)(t:TA):TE:=λσ H Q=>to σ H λx H1=>tyV K T x H1/\t σ H1 λxs H2=>r x xs H2 Q
variable {o e:Expr}{es:List Expr}{to:TE}{t:TA}{name:Str}{apos cpos:Pos}{T id:String}{r:V->List V->Hp->VK->Prop}
theorem aCM(pa:PlainAttrs T)(slot:Slot T name id)(hty:typeOf (.builtin id)=pure (.type "method_descriptor"))(hm:MtR X id r)(ho:PE X o to)(ha:PA X (e::es) t)(hbase:BV o name X.env (eval o X.env)=eval o X.env:=by rfl)(hfew:((BH cpos (AE (e::es) X.env)).all (fun x=> !x.1) && (backToKw cpos (keywordEach [] X.env)).all (fun x=>x.1.isSome)
  &&decide ((e::es).length+([]:List Keyword).length+(if([]:List Keyword).isEmpty then 0 else 1)<30))=true:=by rfl)
  (hline:(apos.endLine==cpos.line)=true:=by rfl) (hs:AE (e::es) X.env=(false,eval e X.env)::AE es X.env:=by rfl) (hplain:(BH cpos<|AE es X.env).any (·.1)=false:=by rfl):
  PE X (.Call (.Attribute o name apos) (e::es) [] cpos) (tBM X.K T r to t):=by
 intro pins s σ H Q I h;refine wpAny_Call_method_late hbase hfew hline rfl<|thn (ho pins s σ H _ I h) λv s1 ⟨x,H1,I1,r1,ty,q1⟩=>?_;obtain⟨h1,h2⟩:=aOP I1 r1 ty;refine⟨T,id,pa,slot,hty,h1,h2,?_⟩;have hA:=ha cpos pins s1 σ H1 _ I1 q1;rw[hs] at hA ⊢;refine Calls.callWith_builtin (by show(false||(BH cpos<|AE es X.env).any (·.1))=false;rw[hplain]<;>rfl)<|Calls.evalArgs_plain ?_;exact thn hA λus s2 ⟨vs,H2,I2,r2,q2⟩=>hm pins s2 σ H2 x vs v us Q I2 r1 r2 q2
/- xs.append(e),list.index on a module's tuple .. are MtR facts of 06m -/
end
def MtM(X:Cx)(id:String)(r:V->List V->Hp->VK->Prop):Prop:=
 ∀ (pins:List (BZ×CC)) (s:BY) (σ:St) (H:Hp) (x:V) (xs:List V) (v:BX) (us:List BX) (Q:VK),Inv X pins σ H s->RelV x v->Vals xs us->r x xs H Q->
  AH (AD X.prog X.w) X.A (call (.builtin id) (v::us)) (EP X pins σ Q) X.xe s
def Vals.one:∀ {x:V}{us:List BX},Vals [x] us->∃u,us=[u]/\RelV x u
 |_,_,.cons r .nil=>⟨_,rfl,r⟩
variable {pins:List (BZ×CC)}{σ:St}{H:Hp}{s:BY}{l b:BZ}{xs ys zs:List V}
def Inv.lset{its its':List BX}(I:Inv X pins σ H s)(hH:H l=some (.lst xs))(e:s.heap.get? l=some {cls:=.type "list",data:=.seq its.toArray n}) (hf:f its.toArray=its'.toArray) (hv:Vals ys its') (hz:ys.length<=AM):Inv X pins σ (upd H l<|.lst ys) {s with heap:=s.heap.update l<|Obj.mapSeq f,toks:=t'}:=by
 have q:=PySem.IsL.update e f;rw[hf] at q;refine I.write (by rw[hH];exact trivial) (.inl rfl) (λb' u hb hu=>(cJ s.heap (Obj.mapSeq f)<|Ne.symm hb).trans hu) ⟨_,q⟩ ?_;exact⟨hz,its',_,hv,q⟩
def Inv.lstM(I:Inv X pins σ H s)(hH:H l=some (.lst xs)):xs.length<=AM/\∃ (its:List BX) (n:Nat),Vals xs its/\xs.length=its.length/\s.heap.get? l=some {cls:=.type "list",data:=.seq its.toArray n}:=by obtain⟨z,its,n,r,e⟩:=I.hok l _ hH;exact⟨z,its,n,r,r.length,e⟩
theorem aIt(h:n<=AM):Builtin.List.listTooLong n=false:=by exact decide_eq_false (by lia)
def qB:V->List V->Hp->VK->Prop:=λx vs H Q=>∃l xs y,x=.ref l/\vs=[y]/\H l=some (.lst xs)/\xs.length<AM/\Q .non (upd H l (.lst<|xs++[y]))
theorem uL:MtM X "list.append" qB:=by intro pins s σ H x vs v us Q I rx rv h;obtain⟨l,xs,y,rfl,rfl,hH,hz,q⟩:=h;cases rx;obtain⟨u,rfl,ru⟩:=rv.one;obtain⟨z,its,n,r,hl,e⟩:=I.lstM hH;refine call_meets F.slot_list_append ⟨_,e,rfl⟩ F.entry_list_append (F.args_list_append_2 _ _) (PySem.list_append l its.toArray n u<|by rw[bB];lia) ⟨e,?_⟩;refine⟨.non,_,I.lset hH e (by simp) (r.append<|.cons ru .nil) ?_,rfl,q⟩;rw[aV,List.length_singleton];omega
def aEK:V->List V->Hp->VK->Prop:=λx vs H Q=>∃l b xs zs,x=.ref l/\vs=[.ref b]/\H l=some (.lst xs)/\H b=some (.lst zs)/\xs.length+zs.length<=AM/\Q .non (upd H l (.lst<|xs++zs))
theorem aGF:MtM X "list.extend" aEK:=by
 intro pins s σ H x vs v us Q I rx rv h;obtain⟨l,b,xs,zs,rfl,rfl,hH,hB,hz,q⟩:=h;cases rx;obtain⟨u,rfl,ru⟩:=rv.one;cases ru;obtain⟨z,its,n,r,hl,e⟩:=I.lstM hH;obtain⟨z2,its2,n2,r2,hl2,e2⟩:=I.lstM hB;have hsz:its.toArray.size+its2.toArray.size<=AM:=by rw[bB,bB];lia
 have hlong:¬ (!its.toArray.isEmpty&&Builtin.List.listTooLong (its.toArray.size+its2.toArray.size))=true:=by rw[aIt hsz,qP];exact bJ
 refine call_meets F.slot_list_extend ⟨_,e,rfl⟩ F.entry_list_extend (F.args_list_extend_2 _ _)
  (AutoSeq1.list_extend_list_list_0 l its.toArray n b its2.toArray n2 hlong (by lia)<|by lia) ⟨e,e2,?_⟩
 refine⟨.non,_,I.lset hH e (by simp) (r.append r2) ?_,rfl,q⟩;rw[aV];omega
section
variable {prog:AF}{w:AL}{A:CA}{E:BX->BY->Prop}{s:BY}
set_option maxRecDepth 100000 in
end
section
variable {κ:Type}[DecidableEq κ]
noncomputable def fY(kvs:List (κ×V))(k:κ):Option V:=(kvs.find? λkv=>decide<|kv.1=k).map (·.2)
noncomputable def sN(kvs:List (κ×V))(k:κ)(v:V):List (κ×V):=
 if(kvs.any λkv=>decide<|kv.1=k)=true then kvs.map (λkv=>if kv.1=k then(kv.1,v) else kv) else kvs++[(k,v)]
def gW{k:κ}(e:p.1=k):fY (p::r) k=some p.2:=by simp[fY,gX,e]
def fZ{k:κ}(e:¬ p.1=k):fY (p::r) k=fY r k:=by simp[fY,gX,e]
theorem xG(k:κ):∀kvs:List (κ×V),(kvs.any λkv=>decide<|kv.1=k)=(fY kvs k).isSome
 |[]=>rfl
 |p::r=>by
  rw[lQ]
  by_cases e:p.1=k
  ·simp only[gW e,decide_eq_true e,aRM,Option.isSome_some]
  ·rw[fZ e,decide_eq_false e];exact xG k r
theorem nH(k j:κ)(y:V):∀kvs:List (κ×V),fY kvs k=none->fY (kvs++[(k,y)]) j=if j=k then some y else fY kvs j
 |[],_=>by
  by_cases e:k=j
  ·rw[if_pos e.symm];exact gW e
  ·rw[if_neg λz=>e z.symm];exact fZ e
 |p::r,hn=>by
  rw[List.cons_append];have hk:¬ p.1=k:=λz=>by rw[gW z] at hn;cases hn
  rw[fZ hk] at hn;have ih:=nH k j y r hn
  by_cases e:p.1=j
  ·rw[gW e,gW e,if_neg (λz=>hk<|e.trans z)]
  ·rw[fZ e,fZ e,ih]
theorem vA(kvs:List (κ×V))(k:κ)(v:V):(sN kvs k v).length<=kvs.length+1:=by
 unfold sN
 split
 ·rw[aA];lia
 ·rw[aV,bZ,iP];omega
def pK{k:κ}(v:V)(h:fY kvs k=none):sN kvs k v=kvs++[(k,v)]:=by unfold sN;rw[xG,h];exact if_neg<|by decide
def RelO.isSome_eq(r:RelO o u):o.isSome=u.isSome:=by
 cases o with
 |none=>cases u with
  |none=>rfl
  |some _=>exact(r).elim
 |some _=>cases u with
  |none=>exact(r).elim
  |some _=>rfl
def RelO.getD(r:RelO o u)(rd:RelV d d'):RelV (o.getD d) (u.getD d'):=by
 cases o with
 |none=>cases u with
  |none=>exact rd
  |some _=>exact(r).elim
 |some _=>cases u with
  |none=>exact(r).elim
  |some _=>exact r
def KV.val(r:KV kvs vs)(k:κ):RelO (fY kvs k) (valueAt vs k):=by
 induction r with
 |nil=>exact True.intro
 |@cons p q ps qs h t ih=>
  obtain⟨h1,h2⟩:=h
  by_cases e:p.1=k
  ·have e':=h1.symm.trans e;have b:valueAt (q::qs) k=some q.2:=by simp[valueAt,gX,e']
   rw[gW e,b];exact h2
  ·have e':¬ q.1=k:=λz=>e (h1.trans z)
   have b:valueAt (q::qs) k=valueAt qs k:=by simp[valueAt,gX,e']
   rw[fZ e,b];exact ih
def KV.any(r:KV kvs vs)(k:κ):(kvs.any λkv=>decide<|kv.1=k)=vs.any λkv=>decide (kv.1=k):=by
 induction r with
 |nil=>rfl
 |cons h t ih=>rw[lQ,lQ,ih,h.1]
def KV.repl(r:KV kvs vs)(k:κ)(ry:RelV y u):KV (kvs.map λkv=>if kv.1=k then(kv.1,y) else kv) (vs.map λkv=>if kv.1=k then(kv.1,u) else kv):=by
 induction r with
 |nil=>exact .nil
 |@cons p q ps qs h t ih=>
  rw[bG,bG];refine .cons ?_ ih;obtain⟨h1,h2⟩:=h
  by_cases e:p.1=k
  ·rw[if_pos e,if_pos<|h1.symm.trans e];exact⟨h1,ry⟩
  ·rw[if_neg e,if_neg (λz=>e<|h1.trans z)];exact⟨h1,h2⟩
def KV.put(r:KV kvs vs)(k:κ)(ry:RelV y u):KV (sN kvs k y) (stored vs k u):=by
 unfold sN stored;rw[r.any k]
 by_cases e:(vs.any λkv=>decide<|kv.1=k)=true
 ·rw[if_pos e,if_pos e];exact r.repl k ry
 ·rw[if_neg e,if_neg e];exact Paired.snoc r ⟨rfl,ry⟩
def KV.length(r:KV kvs vs):kvs.length=vs.length:=Paired.length r
end
def aHl(r:RelV (kV k) u):(dQ P w).is k u=true:=by
 cases k with
 |inl i=>obtain⟨t,e⟩:=(r);subst e;exact aBC P w i t
 |inr x=>obtain⟨t,e⟩:=(r);subst e;exact aBw P w x t
theorem aAv:∀ {ks:List Key}{us:List BX},Vals (ks.map kV) us->ItemsAre (dQ P w) ks us
 |[],_,r=>by cases r;exact .nil
 |k::ks,_,r=>by
  cases r with
  |cons h t=>exact .cons (aHl h)<|aAv t
abbrev KT(H:Hp):List (List Key×V)->List (List Key×BZ×BX)->Prop:=Paired λp q=>p.1=q.1/\H q.2.1=some (.tup<|p.1.map kV)/\RelV p.2 q.2.2
def KT.val{xs:List (List Key×BZ×BX)}(r:KT H kvs xs)(k:List Key):RelO (fY kvs k) ((atKey xs k).map (·.2)):=by
 induction r with
 |nil=>exact True.intro
 |@cons p q ps qs h t ih=>
  obtain⟨h1,_,h2⟩:=h
  by_cases e:p.1=k
  ·have e':=h1.symm.trans e;have b:atKey (q::qs) k=some q.2:=by simp[atKey,gX,e']
   rw[gW e,b];exact h2
  ·have e':¬ q.1=k:=λz=>e (h1.trans z)
   have b:atKey (q::qs) k=atKey qs k:=by simp[atKey,gX,e']
   rw[fZ e,b];exact ih
def KT.repl{xs:List (List Key×BZ×BX)}(r:KT H kvs xs)(k:List Key)(ry:RelV y u):KT H (kvs.map λkv=>if kv.1=k then(kv.1,y) else kv) (xs.map<|putAt k u):=by
 induction r with
 |nil=>exact .nil
 |@cons p q ps qs h t ih=>
  rw[bG];refine .cons ?_ ih;obtain⟨h1,h2,h3⟩:=h;unfold putAt
  by_cases e:p.1=k
  ·rw[if_pos e,if_pos<|h1.symm.trans e];exact⟨h1,h2,ry⟩
  ·rw[if_neg e,if_neg (λz=>e<|h1.trans z)];exact⟨h1,h2,h3⟩
def KT.put{xs:List (List Key×BZ×BX)}(r:KT H kvs xs)(k:List Key)(hb:H b=some (.tup<|k.map kV))(ry:RelV y u):KT H (sN kvs k y) (storedH xs k b u):=by
 have e:(kvs.any λkv=>decide<|kv.1=k)=(atKey xs k).isSome:=by rw[xG,(r.val k).isSome_eq,aGX]
 unfold sN storedH;rw[e]
 by_cases q:(atKey xs k).isSome=true
 ·rw[if_pos q,if_pos q];exact r.repl k ry
 ·rw[if_neg q,if_neg q];exact Paired.snoc r ⟨rfl,hb,ry⟩
def KT.keeps{xs:List (List Key×BZ×BX)}(r:KT H kvs xs)(ht:∀b ys,H b=some (.tup ys)->H' b=some (.tup ys)):KT H' kvs xs:=
 Paired.mapP r λ_ _ z=>⟨z.1,ht _ _ z.2.1,z.2.2⟩
variable {P:AF}{w:AL}{h:CB}{a:BZ}
def aOg(ok:HOk P w H h)(e:Rd H a u):ObjOk P w H h a u:=e.ok ok
def aKX(ok:HOk P w H h)(e:Rd H a (.dK kvs)):kvs.length<=AM/\(a==AX)=false/\∃vs,KV kvs vs/\h.DictOf (dQ P w) a vs:=
 aOg ok e
def aNz(ok:HOk P w H h)(e:H a=some (.dK kvs)):kvs.length<=AM/\(a==AX)=false/\∃vs,KV kvs vs/\h.DictOf (dQ P w) a vs:=aKX ok<|.inl e
def nA(ok:HOk P w H h)(e:H a=some (.tup<|ks.map kV)):(AT<|dQ P w).is h ks a:=by obtain⟨_,its,r,o,h1,h2,⟨n,h3⟩,_⟩:=(ok a _ e);exact⟨o,its.toArray,n,h1,h2,h3,by simpa using aAv r⟩
def aKE(ok:HOk P w H h)(e:Rd H a (.dT kvs)):kvs.length<=AM/\(a==AX)=false/\
  ∃xs,KT H kvs xs/\h.DictOfH (AT<|dQ P w) a xs:=by
 obtain⟨z,y,xs,r,o,es,ep,h1,h2,h3,h4,h5⟩:=(aOg ok e);refine⟨z,y,xs,r,o,es,ep,h1,h2,h3,h4,λx hx=>?_,h5⟩
 have all:∀ {l:List (List Key×V)}{m:List (List Key×BZ×BX)},KT H l m->∀x∈m,(AT<|dQ P w).is h x.1 x.2.1:=by
  intro l m q
  induction q with
  |nil=>intro x hx;exact nomatch hx
  |@cons p q ps qs hq t ih=>
   intro x hx
   rcases aP.mp hx with e|hx
   ·subst e;exact nA ok (by rw[<-hq.1];exact hq.2.1)
   ·exact ih x hx
 exact all r x hx
def aRA(ok:HOk P w H h)(e:H a=some (.dT kvs)):kvs.length<=AM/\(a==AX)=false/\
  ∃xs,KT H kvs xs/\h.DictOfH (AT<|dQ P w) a xs:=aKE ok<|.inl e
def DGet(H:Hp)(a:BZ)(y:V)(r:Option V):Prop:=
 (∃kvs k,Rd H a (.dK kvs)/\y=kV k/\r=fY kvs k)\/∃kvs k b,Rd H a (.dT kvs)/\y=.ref b/\H b=some (.tup<|k.map kV)/\r=fY kvs k
def DPut(H:Hp)(a:BZ)(y v:V)(H':Hp):Prop:=
 (∃kvs k,H a=some (.dK kvs)/\y=kV k/\kvs.length<AM/\H'=upd H a (.dK<|sN kvs k v))\/
 ∃kvs k b,H a=some (.dT kvs)/\y=.ref b/\H b=some (.tup<|k.map kV)/\kvs.length<AM/\H'=upd H a (.dT<|sN kvs k v)
def DGet.k{k:Key}(e:H a=some (.dK kvs)):DGet H a (kV k) (fY kvs k):=.inl ⟨kvs,k,.inl e,rfl,rfl⟩
def DPut.k{k:Key}(e:H a=some (.dK kvs))(hl:kvs.length<AM):DPut H a (kV k) v (upd H a (.dK<|sN kvs k v)):=.inl ⟨kvs,k,e,rfl,hl,rfl⟩
variable {y v:V}{u r:BX}{o:Option V}{A:CA}{E:BX->BY->Prop}
def Inv.big(I:Inv X pins σ H s):AX<s.heap.objs.size:=by have h:=(I.mod.glob.keeps I.bk).lt;exact pQ (by decide) h
def oQ(I:Inv X pins σ H s)(mu:Mut (H a))(hs:Heap.SameBut a s.heap h')(he:∃q,h'.get? a=some q)(new:ObjOk X.prog X.w (upd H a ob) h' a ob):Inv X pins σ (upd H a ob) {s with heap:=h',toks:=t'}:=
 I.write mu (.inl rfl) (λb q hb z=>(hs.2 b hb).trans z) he new
def aJu(z:kvs.length<=AM)(hd:(a==AX)=false)(rel:KV kvs vs)(dd:h'.DictOf (dQ P w) a vs):ObjOk P w H' h' a (.dK kvs):=⟨z,hd,vs,rel,dd⟩
theorem aFI(hu:A.units+1<AR)(I:Inv X pins σ H s)(g:DPut H a y v H')(ry:RelV y u)(rv:RelV v r)(h:∀s',Inv X pins σ H' s'->Q () s'):AH (AD X.prog X.w) A (setItem (.ref a) u r) Q E s:=by
 rcases g with⟨kvs,k,e,ey,l,eH⟩|⟨kvs,k,b,e,ey,eb,l,eH⟩
 ·subst ey eH;obtain⟨z,hd,vs,rel,dd⟩:=aNz I.hok e;have hz:vs.length<=AM:=by rw[<-rel.length];exact z
  have hl:(sN kvs k v).length<=AM:=by have:=vA kvs k v;lia
  refine wpAny_setItem_pairs (hsz:=hz) (aHl ry) dd λh' dd' hs=>h _ ?_
  have he:∃q,h'.get? a=some q:=let ⟨q,_,_,hq,_⟩:=dd';⟨q,hq⟩
  exact oQ I (by rw[e];exact True.intro) hs he<|aJu hl hd (rel.put k rv) dd'
 ·subst ey eH;cases(ry);obtain⟨z,hd,xs,rel,dd⟩:=aRA I.hok e;have hz:xs.length<=AM:=by rw[<-Paired.length rel];exact z
  have hl:(sN kvs k v).length<=AM:=by have:=vA kvs k v;lia
  refine wpAny_setItem_heap (hsz:=hz) (Ay hu) (nA I.hok eb) dd λh' dd' hs=>h _ ?_
  obtain⟨q,es,ep,hq,h2,h3,h4,_,h5⟩:=dd';refine oQ I (by rw[e];exact True.intro) hs ⟨q,hq⟩ ⟨hl,hd,_,(rel.put k eb rv).keeps λc ys ec=>?_,q,es,ep,hq,h2,h3,h4,h5⟩;rw[bH<|aRl ec e λz=>nomatch z];exact ec
def aSr(i:Expr):Prop:=∀ov iv,subscripted i false ov iv=operate [ov,iv] (getItem ov iv)
def aMq{T id:String}(hl:typeLookup (.type T) "__getitem__"=pure (some<|.builtin id)) (hs:aSr slice)(h:AH (AD prog w) A (eval value env) (λo s₁=>AH (AD prog w) A (eval slice env) (λi s₂=>s₂.TypeIs o T/\AH (AD prog w) A (getItem o i) Q E s₂) E s₁) E s):AH (AD prog w) A (eval (.Subscript value slice pos) env) Q E s:=by
 refine Subscript_<|Ak h (λo s₁ h₁=>Ak h₁ (λi s₂ h₂=>?_) λ_ _ x=>x) λ_ _ x=>x;obtain⟨hT,h₂⟩:=h₂;refine AA ?_;refine AA<|BD hT hl ?_
 have fin:AH (AD prog w) A (subscripted slice false o i) (λr s₃=>AH (AD prog w) A (letTemporaryGo value o r>>=λ_=>pure r) Q E s₃) E s₂:=by rw[hs o i];exact wpAny_operating<|Ak h₂ (λr s₃ h₃=>AA (wpAny_letTemporaryGo<|AB h₃)) λ_ _ x=>x
 first
  |exact AB (AA fin)
  |exact AA (AB<|AA fin)
  |exact AA fin
def aNF(td ty tv:TE):TS:=λD σ H=>tv σ H λv H1=>td σ H1 λx H2=>ty σ H2 λy H3=>∃a H4,x=.ref a/\DPut H3 a y v H4/\D.nx σ H4
variable {o i value:Expr}{pos' tpos:Pos}{td ty tv:TE}
theorem aMn(hu:X.A.units+1<AR)(ho:PE X o td)(hi:PE X i ty)(hv:PE X value tv)(hs:Af value (some<|.Subscript o i pos') pos.line X.env=pure false):PS X (.Assign [.Subscript o i pos'] value pos) (aNF td ty tv):=by
 intro pins s σ H D I h;refine wpAny_Assign_Subscript (thn (hv pins s σ H _ I h) λr s1 ⟨v,H1,I1,rv,q1⟩=>thn (ho pins s1 σ H1 _ I1 q1) λu s2 ⟨x,H2,I2,rx,q2⟩=>thn (hi pins s2 σ H2 _ I2 q2) λiv s3 ⟨y,H3,I3,ry,a,H4,ex,g,q3⟩=>?_) hs;subst ex;obtain rfl:u=Value.ref a:=rx;exact aFI hu I3 g ry rv λs4 I4=>⟨σ,H4,I4,q3⟩
def aHz(h:CB)(hb:AX<h.objs.size):ObjOk P w H (h.push {cls:=.type "dict",data:=.dict #[]}) h.objs.size (.dK []):=
 ⟨bM _,beq_eq_false_iff_ne.mpr (Ne.symm<|bC hb),[],.nil,Heap.DictOf.new h⟩
def aPL:TE:=λ_ H Q=>∀p,H p=none->Q (.ref p) (upd H p<|.dK [])
def aHY:PE X (.Dict [] [] pos) aPL:=λpins s σ H Q I h=>wpAny_Dict_empty ⟨.ref s.heap.objs.size,_,I.laid (λ_ _ q=>aD _ q) (aK _)<|aHz s.heap I.big,rfl,h _ (I.hok.fresh<|aK _)⟩
abbrev VV:List (V×V)->List (BX×BX)->Prop:=Paired λp q=>RelV p.1 q.1/\RelV p.2 q.2
structure M1(X:Cx)(o:Expr)(m:Str)(apos:Pos)(e:Expr)(cpos:Pos):Prop where
 base:BV o m X.env (eval o X.env)=eval o X.env
 few:((BH cpos (AE [e] X.env)).all (fun x=> !x.1) && (backToKw cpos (keywordEach [] X.env)).all (fun x=>x.1.isSome)
 &&decide (([e]:List Expr).length+([]:List Keyword).length+(if([]:List Keyword).isEmpty then 0 else 1)<30))=true
 line:(apos.endLine==cpos.line)=true
 trees:BH cpos (AE [e] X.env)=[(false,eval e X.env)]
structure M2(X:Cx)(o:Expr)(m:Str)(apos:Pos)(e f:Expr)(cpos:Pos):Prop where
 base:BV o m X.env (eval o X.env)=eval o X.env
 few:((BH cpos (AE [e,f] X.env)).all (fun x=> !x.1) && (backToKw cpos (keywordEach [] X.env)).all (fun x=>x.1.isSome)
 &&decide (([e,f]:List Expr).length+([]:List Keyword).length+(if([]:List Keyword).isEmpty then 0 else 1)<30))=true
 line:(apos.endLine==cpos.line)=true
 trees:BH cpos (AE [e,f] X.env)=[(false,eval e X.env),(false,eval f X.env)]
def IsD(H:Hp)(a:BZ):Prop:=(∃kvs,Rd H a<|.dK kvs)\/∃kvs,Rd H a<|.dT kvs
def aOx(I:Inv X pins σ H s)(d:IsD H a):s.TypeIs (.ref a) "dict"/\(∀b,Value.ref a=.ref b->∃ob,s.heap.get? b=some ob/\ob.dict=none)/\(a==AX)=false:=by
 rcases d with⟨kvs,e⟩|⟨kvs,e⟩
 ·obtain⟨_,hd,vs,_,dd⟩:=aKX I.hok e;refine⟨dd.typeIs,λb q=>?_,hd⟩;cases q;obtain⟨ob,_,_,h1,h2,_⟩:=dd;exact⟨ob,h1,h2.2.1⟩
 ·obtain⟨_,hd,xs,_,dd⟩:=aKE I.hok e;refine⟨dd.typeIs,λb q=>?_,hd⟩;cases q;obtain⟨ob,_,_,h1,h2,_⟩:=dd;exact⟨ob,h1,h2.2.1⟩
variable {d:V}{o:Option V}
def aPf(hu:A.units+1<AR)(I:Inv X pins σ H s)(g:DGet H a y o)(ry:RelV y u)(rd:RelV d r)(h:∀w' s',Inv X pins σ H s'->RelV (o.getD d) w'->Q w' s'):AH (AD X.prog X.w) A (call (.builtin "dict.get") [.ref a,u,r]) Q E s:=by
 rcases g with⟨kvs,k,e,ey,l⟩|⟨kvs,k,b,e,ey,eb,l⟩
 ·subst ey;obtain⟨z,hd,vs,rel,dd⟩:=aKX I.hok e;refine BZ pE dd.typeIs aAS (aAL _ _ _) (meets_dict_get_default (dQ X.prog X.w) a (aHl ry) hd r) ⟨_,dd.mapOf,h _ _ (I.tok _) ?_⟩;rw[l];exact(rel.val k).getD rd
 ·subst ey;cases(ry);obtain⟨z,hd,xs,rel,dd⟩:=aKE I.hok e;refine BZ pE dd.typeIs aAS (aAL _ _ _) (meetsH_dict_get_default (AT<|dQ X.prog X.w) a b hd r) ⟨Ay hu,k,xs,nA I.hok eb,dd,h _ _ (I.tok _) ?_⟩;rw[l];exact(rel.val k).getD rd
def aPN(td ty tx:TE):TE:=λσ H Q=>td σ H λx H1=>∃a,x=.ref a/\IsD H1 a/\ty σ H1 λy H2=>tx σ H2 λz H3=>∃o,DGet H3 a y o/\Q (o.getD z) H3
variable {o f:Expr}{apos cpos:Pos}{tx:TE}
theorem aIA(hu:X.A.units+1<AR)(ho:PE X o td)(he:PE X e ty)(hf:PE X f tx)(m:M2 X o "get" apos e f cpos):PE X (.Call (.Attribute o "get" apos) [e,f] [] cpos) (aPN td ty tx):=by
 intro pins s σ H Q I h;refine wpAny_Call_method m.base m.few m.line hV pE PySem.F.type_dict_get<|thn (ho pins s σ H _ I h) λu s1 ⟨x,H1,I1,rx,a,ex,d,q1⟩=>?_;subst ex;obtain rfl:u=Value.ref a:=rx;obtain⟨t1,t2,_⟩:=aOx I1 d;refine⟨t1,t2,?_⟩;rw[m.trees]
 refine Calls.callWith_builtin rfl (Calls.evalArgs_plain<|Calls.spliced_cons (thn (he pins s1 σ H1 _ I1 q1) λiv s2 ⟨y,H2,I2,ry,q2⟩=>Calls.spliced_cons<|thn (hf pins s2 σ H2 _ I2 q2) λfv s3 ⟨z,H3,I3,rz,ov,g,q3⟩=>Calls.spliced_nil ?_))
 exact aPf hu I3 g ry rz λw' s4 I4 rw'=>⟨_,H3,I4,rw',q3⟩
end L2
namespace Att
open PySem PySem.W PySem.Calls PyProof.Rows
def vN:∀ (ns:List Int) (vs:List BX),WellAll P h vs (ns.map WData.int)->IntsAre vs ns:=by
 intro ns
 induction ns with
 |nil=>intro vs w;cases w;exact .nil
 |cons n ns ih=>
  intro vs w;cases w with
  |cons a b=>cases a;exact .cons _ _<|ih _ b
def aFR{l:OpenLaw}(hn:l.most=some n)(hpre:l.row.toRowW.claim.pre args=true) (hwl:WellAll P h vals args):∃a vs ns,vals=[Value.ref a]/\args=[WData.list<|ns.map WData.int]/\h.get? a=some {cls:=.type "list",data:=.seq vs.toArray}/\IntsAre vs ns/\ns.length<=n:=by
 have hsh:=(pre_splitW hpre).1;have hc:l.pre.holds [] {args:=args}=true:=(pre_splitW hpre).2;obtain⟨d,r,rfl,h1,h2⟩:=hasAllW_cons hsh;obtain rfl:=hasAllW_nil h2;obtain⟨xs,rfl,h3⟩:=hasW_list h1;obtain⟨ns,rfl⟩:=items_int h3
 have hlen:ns.length<=n:=by
  have h4:=by have h4:=(holds_andW hc).1;rw[hn] at h4;exact h4
  have h5:=condW_of h4 (w_not<|w_lt w_lit (w_len_list<|w_arg rfl));refine aNi λq=>?_
  first
   |(exact absurd h5<|by decide)
   |(simp at h5;lia)
 cases hwl with
 |cons w1 w2=>
  cases w2;cases w1 with
  |list ho hall=>exact⟨_,_,ns,rfl,rfl,ho,vN ns _ hall,hlen⟩
def aFT(l:OpenLaw)(args:List WData):l.row.toRowW.claim.post args (.bool true) args=true:=
 postW_of
  (by first|rfl|decide|simp[WShape.has,WShape.arms,WShape.armsAll])
  (w_eq_bool (w_res rfl) w_lit) rfl
end Att
namespace L2
open PySem PySem.Spec PyProof.Rows
theorem aAx:∀ {vs:List BX}{ns:List Int},IntsAre vs ns->Vals (ns.map V.int) vs
 |_,_,.nil=>.nil
 |_,_,.cons n t h=>.cons ⟨t,rfl⟩<|aAx h
def aQE(H:Hp):Prop:=∀b,H b=none\/∃o xs,H b=some (.frz o<|.lst xs)
def aIb{K:aB}(KX:K.In s₁.heap) (hns:s₁.heap.Ns Am mg) (hb:s₁.heap.Ns builtinsNs mb) (hbb:∀x:Str,x≠"__name__"->mb x=Aw x) (hlim:s₁.heap.NoLimit) (hg:s₁.gens= #[])(ha:s₁.heap.get? a=some {cls:=.type "list",data:=.seq vs.toArray}) (hi:IntsAre vs ns) (hl:ns.length<=AM) (hr:Room k callerA)(F:∀base:CB,K.In base->base.Ns Am mg->FnOk P w K mg base CX k fa fd [x] sp) (hbind:∀ (s:BY) (u:BX),BindsTo s fd ⟨[u],[]⟩ [(x,u)])(hsp:∀H:Hp,aQE H->SqL K H a (ns.map V.int)->sp [.ref a] H (λv _=>v=.bl true) λ_ _ _=>False)(hCX:∀H e s',CX [] H s₁ (λ_ _ _=>False) e s'->False):codeAny (AD P w) callerA (.call (.ref fa) ⟨[.ref a],[]⟩) (λr s'=>r=.ok (.ret<|.bool true)/\OldK s₁.heap s'.heap/\s'.os=s₁.os/\AllBare s'.gens) s₁:=by
 have rv:=aAx hi;have lenV:=hi.length
 have core:∀H,aQE H->SqL K H a (ns.map V.int)->HOk P w H s₁.heap->(∀b,H b≠none->b=a)->(H a≠none->K.lookup a=none)->
   codeAny (AD P w) callerA (.call (.ref fa) ⟨[.ref a],[]⟩) (λr s'=>r=.ok (.ret<|.bool true)/\OldK s₁.heap s'.heap/\s'.os=s₁.os/\AllBare s'.gens) s₁:=by
  intro H hO hS hok hA hK;have base_of:∀ {b:BZ}{o:CC},s₁.heap.get? b=some o->H b=none->(aJa s₁.heap H).get? b=some o:=λe n=>aId e n
  have noA:∀ {b:BZ}{o:CC}{es:Array DictEntry}{ep:Nat},s₁.heap.get? b=some o->o.data=.dict es ep->H b=none:=λ{b o es ep} e d=>by
   cases q:H b with
   |none=>rfl
   |some u=>have e':=hA b (by rw[q];simp);subst e';rw[ha] at e;cases e;have d':=d;cases d'
  have nsK:∀ {b:BZ}{m:Str->Option BX},s₁.heap.Ns b m->(aJa s₁.heap H).Ns b m:=λ{b m} ⟨o,es,ep,e,d,r⟩=>⟨o,es,ep,base_of e<|noA e d,d,r⟩
  have hKb:=fun b o e=>base_of (KX b o e) (by
   cases q:H b with
   |none=>rfl
   |some u=>
    have e':=hA b (by rw[q];simp);subst e'
    rw[hK (by rw[q];simp)] at e;cases e)
  have hM:Mod K mg (aJa s₁.heap H):=⟨hKb,nsK hns,⟨mb,nsK hb,hbb⟩,let ⟨mc,h1,h2⟩:=hlim;⟨mc,nsK h1,h2⟩⟩;have e0:aMV P w K mg (aJa s₁.heap H) callerA [] s₁ H:=⟨rfl,hM,λb o e=>aMH e,aGM<|aGo _ _,trivial,λb hb=>absurd (show b∈([]) from hb)<|by simp,hok,.of_eq hg⟩;refine BK ((F _ hKb<|nsK hns).run callerA [] s₁ H ⟨[.ref a],[]⟩ [.ref a] [.ref a] _ _ hr e0 (hbind s₁<|.ref a) (.cons rfl .nil)<|hsp H hO hS) λr s' h=>?_
  cases r with
  |error e=>exact(hCX H e s' h).elim
  |ok fl=>
   cases fl with
   |next=>exact False.elim h
   |brk=>exact False.elim h
   |cont=>exact False.elim h
   |ret u=>
    obtain⟨v,H',os,bare,un,hok',r',q⟩:=h;have q':=q;subst q';obtain rfl:u=Value.bool true:=r';refine⟨rfl,OldK.of_keep λb o e=>?_,os,bare⟩;cases q:H b with
    |none=>exact un.keep b o e q (by intro z;exact absurd (show b∈([]) from z)<|by simp)<|by simp
    |some u=>
     rcases hO b with z|⟨ob,xs,z⟩
     ·rw[q] at z;cases z
     ·have z2:=un.frzs b ob _ z;obtain⟨e1,_⟩:=hok b _ z;obtain⟨e2,_⟩:=hok' b _ z2;rw[e] at e1;cases e1;exact e2
 cases hk:K.lookup a with
 |some o=>
  have e:=KX a o hk;rw[ha] at e;cases e;refine core (λ_=>none) (λ_=>.inl rfl) (.inr ⟨_,vs.toArray,_,hk,rfl,rfl,rfl,by rw[bB,lenV];exact hl,by simpa using rv⟩) (λb u z=>by have z':=z;cases z') (λb z=>absurd rfl z) λz=>absurd rfl z
 |none=>
  refine core (λb=>if b=a then some (.frz {cls:=.type "list",data:=.seq vs.toArray} (.lst<|ns.map V.int)) else none) (λb=>?_) (.inl<|.inr ⟨{cls:=.type "list",data:=.seq vs.toArray},if_pos rfl⟩) (λb u z=>?_) (λb z=>?_) λ_=>hk
  ·by_cases hb:b=a
   ·exact .inr ⟨_,_,if_pos hb⟩
   ·exact .inl<|if_neg hb
  ·by_cases hb:b=a
   ·have z':=(if_pos hb).symm.trans z;cases z';subst hb;exact⟨ha,by rw[aA];exact hl,vs,_,rv,ha⟩
   ·have z':=(if_neg hb).symm.trans z;cases z'
  ·by_cases hb:b=a
   ·exact hb
   ·exact absurd (if_neg hb) z
noncomputable abbrev KOf{K:aB}{h:CB}(_:K.In h):aB:=K
noncomputable def lE(s:CD):Arguments:=match s with
 |.FunctionDef _ a _ _ _ _ _ _ _ _=>a
 |_=>{posonlyargs:=[],args:=[],vararg:=none,kwonlyargs:=[],kw_defaults:=[],kwarg:=none,defaults:=[]}
def gU(s:CD):List CD:=match s with
 |.FunctionDef _ _ b _ _ _ _ _ _ _=>b
 |_=>[]
noncomputable def bN(s:CD):Scope:=match s with
 |.FunctionDef _ _ _ _ _ _ sc _ _ _=>sc
 |_=>{kind:=.function,names:=[],isGenerator:=false,isCoroutine:=false}
abbrev CX0:CXT:=λ_ _ _ _ _ _=>False
abbrev E0:XK:=λ_ _ _=>False
def aOc:aDZ CX0 X E0:=λ_ _ _ _ _ _ _ h=>h.elim
structure Fun(K:aB)(x qual:Str)(st:CD)(f:BZ)(fd:Al):Prop where
 ex:∃ (oc:BX) (od:Option BZ) (kV doc pm:BX) (an:Option BZ) (cdv ct:BX) (osl:Array (Option BX)),
  fd=fV x qual (lE st) (gU st) (bN st) .none kV doc pm an cdv ct/\K.lookup f=some ⟨oc,od,.func fd,osl⟩/\mP K cdv qual=true
 kp:gM K (.ref f)=true
variable {P:AF}{w:AL}{K:aB}{mg:Str->Option BX}{base:CB}
def Fun.ok{st:CD}(F:Fun K x qual st f fd)(S:oN N ps (bN st))(len:∀vs H Q E,sp vs H Q E->vs.length=ps.length)(hbody:∀ (cdv:BX) (A:CA) (outer:List Env) (s:BY) (H:Hp) (vs:List V) (Q:VK) (E:XK),Room k (A.deeper (envOfC qual (bN st) s.heap.objs.size f cdv))→sp vs H Q E→∃t,PSs (mJ CX0 P w K mg base N qual (bN st) f cdv A outer s H E).nox (gU st) t/\t {nx:=λ_ H'=>Q .non H',rt:=Q} (start N vs) H):FnOk P w K mg base CX0 (k+1) f fd ps sp:=by
 obtain⟨oc,od,kV,doc,pm,an,cdv,ct,osl,rfl,lk,hcd⟩:=F.ex;refine aRG lk hcd S len λA outer s H vs Q E hr hsp=>?_
 obtain⟨t,h,q⟩:=hbody cdv A outer s H vs Q E hr hsp;exact⟨t,h.nox,q⟩
def Fun.binds{st:CD}(F:Fun K x qual st f fd)(h:∀ (kV doc pm:BX) (an:Option BZ) (cdv ct:BX) (us:List BX),us.length=ps.length->bindArgs (fV x qual (lE st) (gU st) (bN st) .none kV doc pm an cdv ct) ⟨us,[]⟩=pure (ps.zip us)):Binds K fd ps []:=by
 obtain⟨oc,od,kV,doc,pm,an,cdv,ct,osl,rfl,lk,hcd⟩:=F.ex;exact .all<|h kV doc pm an cdv ct
def aKj{st:CD}{kV doc pm cdv ct:BX}(l:K.lookup f=some ⟨oc,od,.func<|fV x qual (lE st) (gU st) (bN st) .none kV doc pm an cdv ct,osl⟩)(c:mP K cdv qual=true) (k:gM K (.ref f)=true):Fun K x qual st f (fV x qual (lE st) (gU st) (bN st) .none kV doc pm an cdv ct):=⟨⟨oc,od,kV,doc,pm,an,cdv,ct,osl,rfl,l,c⟩,k⟩
def gG(h:n<=1000):n<AM:=bY h<|by decide
variable {X:Cx}
def pv(i:Nat){pos:Pos}(hN:X.N[i]? =some x:=by rfl)(hv:Vis X.env.scope x:=by first|exact Or.inl rfl|exact Or.inr (Or.inl rfl)|exact Or.inr (Or.inr rfl))(hd:(x==("__debug__":Str))=false:=by decide)(hcd:(x==("__classdict__":Str))=false:=by decide):PE X (.Name x pos) (kU i):=aOR hN hv hd hcd
def aKB{A B:Prop}(h:B):if false=true then A else B:=by exact h
def aKu{A B:Prop}(h:A):if true=true then A else B:=by exact h
def Same(H H':Hp):Prop:=∀b o,H b=some o->H' b=some o
def Same.refl(H:Hp):Same H H:=λ_ _ h=>h
def Same.trans(a:Same H H1)(b:Same H1 H2):Same H H2:=λc o h=>b c o<|a c o h
def Same.free(e:Same H H')(h:H' l=aQe):H l=aQe:=by
 cases q:H l with
 |none=>rfl
 |some o=>rw[e l o q] at h;cases h
def Same.seq(e:Same H H')(h:SqL K H a xs):SqL K H' a xs:=by
 rcases h with(h|⟨o,h⟩)|h
 ·exact .inl (.inl<|e _ _ h)
 ·exact .inl<|.inr ⟨o,e _ _ h⟩
 ·exact .inr h
def wE(X:Cx)(e:Expr):TE:=λσ H Q=>∀ (pins:List (BZ×CC)) (s:BY),Inv X pins σ H s->AH (AD X.prog X.w) X.A (eval e X.env) (EP X pins σ Q) X.xe s
def wT(X:Cx)(e:Expr):TT:=λσ H Q=>∀ (pins:List (BZ×CC)) (s:BY),Inv X pins σ H s->AH (AD X.prog X.w) X.A (isTrue e X.env<|eval e X.env) (TP X pins σ Q) X.xe s
def wW(X:Cx)(e:Expr):TT:=λσ H Q=>∀ (whole:Sem BX) (pins:List (BZ×CC)) (s:BY),Inv X pins σ H s->AH (AD X.prog X.w) X.A (isTrue e X.env whole) (TP X pins σ Q) X.xe s
def wA(X:Cx)(es:List Expr):TA:=λσ H Q=>∀ (pos:Pos) (pins:List (BZ×CC)) (s:BY),Inv X pins σ H s->AH (AD X.prog X.w) X.A (spliced (BH pos<|AE es X.env)) (AP X pins σ Q) X.xe s
def wS(X:Cx)(st:CD):TS:=λD σ H=>∀ (pins:List (BZ×CC)) (s:BY),Inv X pins σ H s->AH (AD X.prog X.w) X.A (exec st X.env) (SP X pins D) X.xe s
def wSs(X:Cx)(sts:List CD):TS:=λD σ H=>∀ (pins:List (BZ×CC)) (s:BY),Inv X pins σ H s->AH (AD X.prog X.w) X.A (execs sts X.env) (SP X pins D) X.xe s
def wG(X:Cx)(tg:Expr):TG:=λv σ H Q=>∀ (pins:List (BZ×CC)) (s:BY) (u:BX),Inv X pins σ H s->RelV v u->
  AH (AD X.prog X.w) X.A (assign tg X.env u) (λ_ s'=>∃σ' H',Inv X pins σ' H' s'/\Q σ' H') X.xe s
def wI(X:Cx)(tg iter:Expr):TI:=λσ H R=>∀ (pins:List (BZ×CC)) (s:BY),Inv X pins σ H s->
  AH (AD X.prog X.w) X.A (eval iter X.env) (λv s1=>AH (AD X.prog X.w) X.A (pyIter v) (PIE X pins σ tg R) X.xe s1) X.xe s
variable {e:Expr}{es:List Expr}{st:CD}{sts:List CD}{tg iter:Expr}{σ:St}{H:Hp}
def fH:PE X e (wE X e):=λpins s _ _ _ I h=>h pins s I
def aKv:PT X e (wT X e):=λpins s _ _ _ I h=>h pins s I
def aQy:PW X e (wW X e):=λw pins s _ _ _ I h=>h w pins s I
def zV:PA X es (wA X es):=λpos pins s _ _ _ I h=>h pos pins s I
def aSc:PS X st (wS X st):=λpins s _ _ _ I h=>h pins s I
def vH:PSs X sts (wSs X sts):=λpins s _ _ _ I h=>h pins s I
def aQv:PG X tg (wG X tg):=λpins s _ _ _ u _ I r h=>h pins s u I r
def aSf:PI X tg iter (wI X tg iter):=λpins s _ _ _ I h=>h pins s I
def PE.to(h:PE X e t)(q:t σ H Q):wE X e σ H Q:=λpins s I=>h pins s σ H Q I q
def PT.to(h:PT X e t)(q:t σ H Q):wT X e σ H Q:=λpins s I=>h pins s σ H Q I q
def PW.to(h:PW X e t)(q:t σ H Q):wW X e σ H Q:=λw pins s I=>h w pins s σ H Q I q
def PA.to(h:PA X es t)(q:t σ H Q):wA X es σ H Q:=λpos pins s I=>h pos pins s σ H Q I q
def PS.to(h:PS X st t)(q:t D σ H):wS X st D σ H:=λpins s I=>h pins s σ H D I q
def PSs.to(h:PSs X sts t)(q:t D σ H):wSs X sts D σ H:=λpins s I=>h pins s σ H D I q
def wE.imp(h:wE X e σ H Q)(k:∀v H',Q v H'->Q' v H'):wE X e σ H Q':=λpins s I=>thn (h pins s I) λu s' ⟨v,H',I',r,q⟩=>⟨v,H',I',r,k v H' q⟩
def wT.imp(h:wT X e σ H Q)(k:∀v H',Q v H'->Q' v H'):wT X e σ H Q':=λpins s I=>thn (h pins s I) λu s' ⟨H',I',q⟩=>⟨H',I',k u H' q⟩
def wW.imp(h:wW X e σ H Q)(k:∀v H',Q v H'->Q' v H'):wW X e σ H Q':=λw pins s I=>thn (h w pins s I) λu s' ⟨H',I',q⟩=>⟨H',I',k u H' q⟩
def wA.imp(h:wA X es σ H Q)(k:∀v H',Q v H'->Q' v H'):wA X es σ H Q':=λpos pins s I=>thn (h pos pins s I) λu s' ⟨v,H',I',r,q⟩=>⟨v,H',I',r,k v H' q⟩
def SP.imp(h:SP X pins D f s)(k1:∀σ H,D.nx σ H->D'.nx σ H)(k2:∀v H,D.rt v H->D'.rt v H)(k3:∀σ H,D.bk σ H->D'.bk σ H)(k4:∀σ H,D.ct σ H->D'.ct σ H):SP X pins D' f s:=by
 cases f with
 |next=>obtain⟨σ',H',I,q⟩:=h;exact⟨σ',H',I,k1 _ _ q⟩
 |brk=>obtain⟨σ',H',I,q⟩:=h;exact⟨σ',H',I,k3 _ _ q⟩
 |cont=>obtain⟨σ',H',I,q⟩:=h;exact⟨σ',H',I,k4 _ _ q⟩
 |ret u=>obtain⟨v,σ',H',I,r,q⟩:=h;exact⟨v,σ',H',I,r,k2 _ _ q⟩
def wSs.imp(h:wSs X sts D σ H)(k1:∀σ H,D.nx σ H->D'.nx σ H)(k2:∀v H,D.rt v H->D'.rt v H)(k3:∀σ H,D.bk σ H->D'.bk σ H)(k4:∀σ H,D.ct σ H->D'.ct σ H):wSs X sts D' σ H:=
 λpins s I=>thn (h pins s I) λf s' q=>q.imp k1 k2 k3 k4
def wG.imp(h:wG X tg v σ H Q)(k:∀σ' H',Q σ' H'->Q' σ' H'):wG X tg v σ H Q':=λpins s u I r=>thn (h pins s u I r) λ_ s' ⟨σ',H',I',q⟩=>⟨σ',H',I',k _ _ q⟩
variable {pins:List (BZ×CC)}{F:Hp}{s:BY}
def HOk.track(ok:HOk P w H h)(hn:H a=none)(new:ObjOk P w (upd H a o) h a o):HOk P w (upd H a o) h:=λb u e=>by
 by_cases hb:b=a
 ·subst hb;rw[bX] at e;cases e;exact new
 ·rw[bH hb] at e;exact(ok b u e).stay (λ_ _ _ q=>q) (λc q=>by rw[bH<|cD q hn];exact q) λc xs q=>by rw[bH<|cD q hn];exact q
def Inv.track(I:Inv X pins σ H s)(hn:H a=none)(h0:X.s₀.heap.objs.size<=a)(hL:a≠X.env.locals)(hc:∀x c,X.env.cells.lookup x=some c->c≠a)(hp:∀p∈X.pn++pins,p.1≠a) (new:ObjOk X.prog X.w (upd H a o) s.heap a o):Inv X pins σ (upd H a o) s:=by
 refine⟨I.ok,I.os,I.bare,⟨I.base.keep,I.base.slot,λb u e n hx=>?_,I.base.there,λb xs e=>?_,λb u xs e=>?_,λb ps e=>?_⟩,I.loc,I.cell,?_,λx c e=>?_,λp hp'=>?_,I.hok.track hn new,I.len⟩
 ·rw[bH (bC<|aZ (aM e) h0)];exact I.base.free b u e n hx
 ·have q:=I.base.tups b xs e;rw[bH<|cD q hn];exact q
 ·have q:=I.base.frzs b u xs e;rw[bH<|cD q hn];exact q
 ·obtain⟨m,q⟩:=I.base.tbls b ps e;exact⟨m,by rw[bH<|cD q hn];exact q⟩
 ·rw[bH<|Ne.symm hL];exact I.free
 ·rw[bH<|hc x c e];exact I.freeC x c e
 ·obtain⟨e,n,r⟩:=I.pin p hp';exact⟨e,by rw[bH<|hp p hp'];exact n,r⟩
def aPY:HO->Prop
 |.lst _=>True
 |.tup _=>True
 |.dK _=>True
 |.frz _ (.lst _)=>True
 |.frz _ (.dK _)=>True
 |.ext _=>True
 |_=>False
def Smp(H:Hp):Prop:=∀b o,H b=some o->aPY o
def ObjOk.smp(z:aPY o)(x:ObjOk P w H h a o):ObjOk P w F h a o:=by
 cases o with
 |lst xs=>exact x
 |tup xs=>exact x
 |dK kvs=>exact x
 |frz ob u=>cases u with
  |lst xs=>exact x
  |dK kvs=>exact x
  |_=>exact absurd z λq=>q
 |ext φ=>exact x
 |_=>exact absurd z λq=>q
def Smp.sub(h:Smp H)(s:Same F H):Smp F:=λb o e=>h b o<|s b o e
def Inv.less(I:Inv X pins σ H s)(hF:Same F H)(h0:Same X.B₀ F)(hs:Smp F):Inv X pins σ F s:=by
 refine⟨I.ok,I.os,I.bare,⟨I.base.keep,I.base.slot,λb u e n hx=>hF.free<|I.base.free b u e n hx,I.base.there,λb xs e=>h0 _ _<|X.hB _ _ e trivial,λb u xs e=>h0 _ _<|X.hB _ _ e trivial,λb ps e=>⟨#[],?_⟩⟩,I.loc,I.cell,hF.free I.free,λx c e=>hF.free<|I.freeC x c e,λp hp=>?_,λb o e=>(I.hok b o<|hF b o e).smp<|hs b o e,I.len⟩
 ·have q:=h0 _ _<|X.hB _ _ e trivial;rw[q];simp
 ·obtain⟨e,n,r⟩:=I.pin p hp;exact⟨e,hF.free n,r⟩
noncomputable def clo(cells:List (Str×BZ)):List (Str×NameKind)->List (Str×BZ)->List (Str×BZ)
 |[],cs=>cs
 |(n,k)::r,cs=>clo cells r (if(k==NameKind.free)=true then(n,(cells.lookup n).getD 0)::cs else cs)
theorem qV:∀ (names:List (Str×NameKind)) (cs:List (Str×BZ)),(∀y∈names,y.2=.free->∃c,env.cells.lookup y.1=some c)->(forIn names cs (λ(x:Str×NameKind) (r:List (Str×BZ))=>if(x.2==NameKind.free)=true then(do let c <-cellOf env x.1;pure (ForInStep.yield ((x.1,c)::r))) else pure (ForInStep.yield r)):Sem (List<|Str×BZ))=pure (clo env.cells names cs)
 |[],cs,_=>rfl
 |(n,k)::r,cs,h=>by
  rw[aNb]
  by_cases hk:(k==NameKind.free)=true
  ·obtain⟨c,hc⟩:=h (n,k) aG (by simpa using hk)
   have e:cellOf env n=pure c:=by unfold cellOf;have hc':=hc;rw[hc']
   simp only[hk,if_true,e,pure_bind,clo];have hc':=hc;rw[hc'];exact qV r _ λy hy=>h y<|aF _ hy
  ·simp only[hk,bK,if_false,pure_bind,clo];exact qV r _ λy hy=>h y<|aF _ hy
def aCU(h:∀y∈scope.names,y.2=.free->∃c,env.cells.lookup y.1=some c):closureFor scope env=pure (clo env.cells scope.names []):=by simp only[closureFor];have e:=qV scope.names [] h;simp only[bind_pure] ;exact e
theorem aCp(cells:List (Str×BZ)):∀ (names:List (Str×NameKind)) (cs:List (Str×BZ)) (x:Str) (c:BZ),(clo cells names cs).lookup x=some c->cs.lookup x=some c\/((x,NameKind.free)∈names/\c=(cells.lookup x).getD 0)
 |[],cs,x,c,h=>.inl h
 |(n,k)::r,cs,x,c,h=>by
  rcases aCp cells r _ x c h with q|⟨q1,q2⟩
  ·by_cases hk:(k==NameKind.free)=true
   ·rw[if_pos hk,eY] at q;have ek:=by simpa using hk
    by_cases hx:(x==n)=true
    ·simp only[hx] at q;have e:=by simpa using hx
     subst e;exact .inr ⟨by rw[ek];exact aG,(bW.inj q).symm⟩
    ·have hx':(x==n)=false:=by simpa using hx
     simp only[hx'] at q;exact .inl q
   ·rw[if_neg hk] at q;exact .inl q
  ·exact .inr ⟨aF _ q1,q2⟩
theorem aFw(cells:List (Str×BZ)):∀ (names:List (Str×NameKind)) (cs:List (Str×BZ)) (x:Str),(x,NameKind.free)∈names\/(∃c,cs.lookup x=some c)->∃c,(clo cells names cs).lookup x=some c
 |[],cs,x,h=>h.elim (λz=>nomatch z) λz=>z
 |(n,k)::r,cs,x,h=>by
  refine aFw cells r _ x ?_
  by_cases hk:(k==NameKind.free)=true
  ·rw[if_pos hk]
   by_cases hx:(x==n)=true
   ·exact .inr ⟨(cells.lookup n).getD 0,by rw[eY];simp only[hx]⟩
   ·have hx':(x==n)=false:=by simpa using hx
    rcases h with q|⟨c,q⟩
    ·rcases aP.mp q with z|z
     ·cases z;exact absurd (by simp) hx
     ·exact .inl z
    ·exact .inr ⟨c,by rw[eY];simp only[hx'];exact q⟩
  ·rw[if_neg hk]
   rcases h with q|q
   ·rcases aP.mp q with z|z
    ·cases z;exact absurd rfl hk
    ·exact .inl z
   ·exact .inr q
theorem sP{env:Env}:∀ {names:List (Str × NameKind)} {x:Str},((names.map fun (n,k)=>if (k==NameKind.free && env.scope.kind== .function && env.kindOf n==some .cell) then (n,NameKind.cell) else (n,k)).lookup x=some .cell∨
   (names.map λ(n,k)=>if(k==NameKind.free&&env.scope.kind==.function&&env.kindOf n==some .cell) then(n,NameKind.cell) else(n,k)).lookup x=some .free)->names.lookup x=some .cell\/names.lookup x=some .free
 |[],x,h=>by simp at h
 |(n,k)::r,x,h=>by
  have ih:= @sP env r x;rw[bG] at h;rw[eY]
  by_cases hc:(k==NameKind.free&&env.scope.kind==.function&&env.kindOf n==some .cell)=true
  ·simp only[hc,if_true,eY] at h;cases hx:x==n with
   |true=>
    have hk:=by have:=hc;simp at this;exact this.1.1
    exact .inr (by rw[hk])
   |false=>simp only[hx] at h ⊢;exact ih h
  ·have hc':(k==NameKind.free&&env.scope.kind==.function&&env.kindOf n==some .cell)=false:=by simpa using hc
   simp only[hc',bK,if_false,eY] at h;cases hx:x==n with
   |true=>simp only[hx] at h ⊢;exact h
   |false=>simp only[hx] at h ⊢;exact ih h
def aGB(Ξ:BX->BY->Prop)(hΞ:∀e s,Ξ e s->notedBy (AD prog w) A env (λe s'=>R (.error e) s') e s)(J:Nat->BY->Prop)(turn:∀n s,J n s→AH (AD prog w) A (pyNext it) (fun r s₁=>match r with
   |none=>R (.ok .next) s₁
   | some v=>AH (AD prog w) A (letOwnedTupleGo target it v) (fun _ s₂=>AH (AD prog w) A (assign target env v) (fun _ s₃=>
     AH (AD prog w) A (forIn ifs true fun c r=>if r=true then do let ok ← isTrue c env (eval c env); pure (ForInStep.yield ok) else pure (ForInStep.yield r)) (fun ok s₄=>
      if ok=true then AH (AD prog w) A (eval elt env) (λx s₅=>AH (AD prog w) A (call (.builtin "list.append") [acc,x]) (λ_ s₆=>∃m,m<n/\J m s₆) Ξ s₅) Ξ s₄
      else ∃m,m<n/\J m s₄) Ξ s₃) Ξ s₂) Ξ s₁) Ξ s)
  (n:Nat) (h:J n s):codeAny (AD prog w) A (.compLoop (.ListComp elt [⟨target,iter,ifs,0⟩] scope pos) 0 it acc env) R s:=by
 refine codeAny_loop rfl J (λn s hI=>?_) n h;show AH _ A ((compTurn (.ListComp elt [⟨target,iter,ifs,0⟩] scope pos) 0 it acc env).onRaise λx=>do noteFrame x env;theTreesLotGoes x) _ _ s;refine wpAny_noted ?_;refine AA<|wpAny_standAt (AA<|Ak (turn n s hI) (λr s₁ h₁=>?_) λe s z=>hΞ e s z);cases r with
 |none=>exact AB h₁
 |some v=>
  refine AA<|Ak h₁ (λ_ s₂ h₂=>?_) λe s z=>hΞ e s z;refine AA<|Ak h₂ (λ_ s₃ h₃=>?_) λe s z=>hΞ e s z;refine AA<|Ak h₃ (λok s₄ h₄=>?_) λe s z=>hΞ e s z;cases ok with
  |false=>exact AB ⟨rfl,h₄⟩
  |true=>exact AA (AA<|Ak h₄ (λx s₅ h₅=>AA<|Ak h₅ (λ_ s₆ h₆=>AB<|AB ⟨rfl,h₆⟩) λe s z=>hΞ e s z) λe s z=>hΞ e s z)
def aQk(X:Cx)(ifs:List Expr):TT:=λσ H Q=>∀ (pins:List (BZ×CC)) (s:BY),Inv X pins σ H s->
 AH (AD X.prog X.w) X.A (forIn ifs true λc r=>if r=true then do let ok <-isTrue c X.env (eval c X.env);pure (ForInStep.yield ok) else pure (ForInStep.yield r)) (TP X pins σ Q) X.xe s
def aHC(h:Q true H):aQk X [] σ H Q:=λ_ _ I=>wpAny_tests_nil ⟨H,I,h⟩
def aHx(h:wT X c σ H Q):aQk X [c] σ H Q:=λpins s I=>wpAny_tests_one<|h pins s I
noncomputable def cxB(X:Cx)(N:List Str)(scope:Scope)(cl:List (Str×BZ))(C:BZ)(ex:List BZ)(s:BY)(H:Hp):Cx:=
 {prog:=X.prog,w:=X.w,K:=X.K,mg:=X.mg,base:=X.base,A:=X.A,N:=N,s₀:=s,H₀:=H,env:=compEnvC scope cl C X.env,outer:=X.stack,stack:=X.stack,ex:=ex,fn:=λ_=>false,calm:=true,pn:=[],xe:=λ_ _=>False}
def qI(X:Cx)(N:List Str)(scope:Scope)(cl:List (Str×BZ))(C:BZ)(ex:List BZ)(s:BY)(H:Hp)(ξ:BX->BY->Prop):Cx:={cxB X N scope cl C ex s H with xe:=ξ}
noncomputable def zZ(cap:List (Option Nat))(σ:St):St:=cap.map λo=>o.bind λk=>(σ[k]?).join
noncomputable def qG(scope sc:Scope):Bool:=scope.names.all λy=>(!(y.2==NameKind.free)||sc.names.lookup y.1==some NameKind.cell)&&!(y.2==NameKind.cell)&&(!(y.2==NameKind.local)||scope.names.lookup y.1==some NameKind.local)
noncomputable def nX(N M:List Str)(scope sc:Scope)(cap:List (Option Nat)):Bool:=cap.length==N.length&&(cap.zip N).all λy=>match y.1 with
 |none=>true
 |some k=>M[k]? ==some y.2&&sc.names.lookup y.2==some NameKind.cell&&scope.names.lookup y.2==some NameKind.free
theorem jH{env:Env}(hf:env.scope.kind=.function):∀ {names:List (Str×NameKind)}{x:Str},names.lookup x=some .free->env.kindOf x=some .cell->(names.map λ(n,k)=>if(k==NameKind.free&&env.scope.kind==.function&&env.kindOf n==some .cell) then(n,NameKind.cell) else(n,k)).lookup x=some .cell
 |[],x,h,_=>by simp at h
 |(n,k)::r,x,h,hc=>by
  rw[bG];cases hx:x==n with
  |true=>
   have e:=by simpa using hx
   subst e;rw[eY] at h;simp only[beq_self_eq_true] at h;have ek:=bW.inj h;subst ek;have hb:(NameKind.free==NameKind.free&&env.scope.kind==.function&&env.kindOf x==some .cell)=true:=by rw[hf,hc];rfl
   show List.lookup x ((if(NameKind.free==NameKind.free&&env.scope.kind==.function&&env.kindOf x==some .cell)=true then(x,NameKind.cell) else(x,NameKind.free))::_)=_;rw[if_pos hb,eY];simp
  |false=>
   rw[eY] at h;simp only[hx] at h;have ih:=jH hf h hc
   by_cases hb:(k==NameKind.free&&env.scope.kind==.function&&env.kindOf n==some .cell)=true
   ·simp only[hb,if_true,eY,hx];exact ih
   ·have hb':(k==NameKind.free&&env.scope.kind==.function&&env.kindOf n==some .cell)=false:=by simpa using hb
    simp only[hb',bK,if_false,eY,hx];exact ih
def Inv.low(I:Inv X pins σ H s):∀b∈frs X.stack,b<s.heap.objs.size:=λb hb=>by obtain⟨_,o,ho,_⟩:=I.stack.mem hb;exact aM ho
theorem aFL{tt:TT}(ξ:List (Str×BZ)->BZ->BX->BY->Prop)(ξ':List (Str×BZ)->BZ->BX->Hp->BY->Prop)(hc:X.calm=true) (hsc:X.env.scope=sc) (hcn:qG scope sc=true) (hcap:nX N X.N scope sc cap=true) (hk:scope.kind=.function)(I:Inv X pins σ H s) (T:zT X.prog X.w X.K tg J fp it tn) (st:tn 0 s.heap) (hfp:∀b∈fp,vO X pins H b)(hg:∀cl C,PG (qI X N scope cl C fp s H<|ξ cl C) tg g) (ht:∀cl C pi s2 σ2 H2 Q,Inv (qI X N scope cl C fp s H<|ξ cl C) pi σ2 H2 s2->tt σ2 H2 Q->AH (AD X.prog X.w) X.A (forIn ifs true λc r=>if r=true then do let ok <-isTrue c (compEnvC scope cl C X.env) (eval c<|compEnvC scope cl C X.env);pure (ForInStep.yield ok) else pure (ForInStep.yield r)) (TP (qI X N scope cl C fp s H<|ξ cl C) pi σ2 Q) (ξ cl C) s2)(he:∀cl C,PE (qI X N scope cl C fp s H<|ξ cl C) elt te) (W:Nat->Nat->List V->St->Hp->Prop) (m0:Nat) (w0:W 0 m0 [] (zZ cap σ) H)(RR:BX->BZ->Result->BY->Prop)(hξ:∀cl C e s',ξ cl C e s'->∃pi σb H',Inv (qI X N scope cl C fp s H<|ξ cl C) pi σb H' s'/\ξ' cl C e H' s')(hx:∀cl D C e H' s',ξ' cl C e H' s'->H' C=none->X.s₀.heap.objs.size<=C->C≠X.env.locals->(∀x c,X.env.cells.lookup x=some c->c≠C)->(∀p∈X.pn++pins,p.1≠C)->C∉frs X.stack->(∃m,s'.heap.Ns C m)->Inv X pins σ H' s'->notedBy (AD X.prog X.w) X.A (compEnvC scope cl C X.env) (λe s''=>RR (.ref D) C (.error e) s'') e s')(turn:∀i m ys σb H2,W i m ys σb H2→(J.stop i H2/\∀D C s',H2 D=none->H2 C=none->D≠C->X.s₀.heap.objs.size<=C->C≠X.env.locals->(∀x c,X.env.cells.lookup x=some c->c≠C)->(∀p∈X.pn++pins,p.1≠C)->C∉frs X.stack->(∃m,s'.heap.Ns C m)->Inv X pins σ (upd H2 D<|.lst ys) s'->RR (.ref D) C (.ok .next) s')\/
   (J.go i H2∧ys.length<AM∧∃Nx:List V→St→Hp→Prop,(∀ys' σ' H',Nx ys' σ' H'→∃m',m'<m∧W (i+1) m' ys' σ' H')∧
    ∀x H',J.yld i H2 x H'->g x σb H' λσ2 H3=>tt σ2 H3 λb H4=>if b=true then te σ2 H4 λv H5=>Nx (ys++[v]) σ2 H5 else Nx ys σ2 H4)):
  AH (AD X.prog X.w) X.A (newList []) (fun acc s₃=>AH (AD X.prog X.w) X.A (newFunctionEnv scope X.env.globals (clo X.env.cells scope.names []) [] X.env.qual none .none (some X.env)) (fun cenv s₄=>
   codeAny (AD X.prog X.w) X.A (.compStart (.ListComp elt [⟨tg,iter,ifs,0⟩] scope pos) 0 (.ref it) acc {cenv with scope:=relabel scope X.env}) (RR acc cenv.locals) s₄) E s₃) E s:=by
 have nm:∀y∈scope.names,(y.2=NameKind.free->sc.names.lookup y.1=some NameKind.cell)/\y.2≠NameKind.cell/\(y.2=NameKind.local->scope.names.lookup y.1=some NameKind.local):=λy hy=>by have q:=cZ.mp hcn y hy;simp only[bL,Bool.or_eq_true,Bool.not_eq_true',beq_eq_false_iff_ne,ne_eq,beq_iff_eq] at q;exact⟨λe=>q.1.1.resolve_left λz=>z e,q.1.2,λe=>q.2.resolve_left λz=>z e⟩
 have fre:∀y∈scope.names,y.2=.free->∃c,X.env.cells.lookup y.1=some c:=λy hy e=>I.ok.has y.1 (.inl<|by show X.env.scope.names.lookup y.1=_;rw[hsc];exact(nm y hy).1 e)
 generalize hcl:clo X.env.cells scope.names []=cl
 have csub:∀x c,cl.lookup x=some c->X.env.cells.lookup x=some c:=λx c e=>by
  rw[<-hcl] at e
  rcases aCp _ _ _ _ _ e with z|⟨z1,z2⟩
  ·simp at z
  ·obtain⟨c',q⟩:=fre _ z1 rfl;rw[q] at z2;rw[q,z2];rfl
 have chas:∀x,((relabel scope X.env).names.lookup x=some .cell\/(relabel scope X.env).names.lookup x=some .free)->∃c,cl.lookup x=some c:=λx e=>by
  rcases sP e with z|z
  ·exact absurd rfl (nm _<|PySem.mem_of_lookup z).2.1
  ·rw[<-hcl];exact aFw _ _ _ _ (.inl<|PySem.mem_of_lookup z)
 have cexi:∀x c,cl.lookup x=some c->c<s.heap.objs.size:=λx c e=>by obtain⟨v,o,ho,_⟩:=I.cell x c<|csub x c e;exact aM ho
 have cexX:∀x c,X.env.cells.lookup x=some c->c<s.heap.objs.size:=λx c e=>by obtain⟨v,o,ho,_⟩:=I.cell x c e;exact aM ho
 have pexX:=λp hp=>aM (I.pin p hp).1
 have flow:∀b∈fp,b<s.heap.objs.size:=λb hb=>by obtain⟨o,ho,_⟩:=T.obj 0 _ st b hb;exact aM ho
 have fstk:∀b∈fp,b∉frs X.stack:=λb hb z=>by
  obtain⟨_,f1,f2,_⟩:=hfp b hb
  rcases aP.mp (I.stkSub b z) with q|q
  ·exact f1 q
  ·exact f2 q
 have hkr:=hk;refine AO<|wpAny_newFunctionEnv (λy hy=>(nm y hy).2.1) (by intro y hy;simp at hy) (λh₁ hns₁ hsb₁=>?_) hk;dsimp only at hns₁ hsb₁ ⊢;generalize hH2:s.heap.push {cls:=.type "list",dict:=none,data:=.seq ([]).toArray}=G2 at hns₁ hsb₁ ⊢;have hC:G2.objs.size=s.heap.objs.size+1:=by rw[<-hH2,gQ]
 have hDC:s.heap.objs.size≠G2.objs.size:=by rw[hC];exact bC<|jQ _
 have hCle:s.heap.objs.size<=G2.objs.size:=by rw[hC];exact jK _
 have neC:∀b,b<s.heap.objs.size->b≠G2.objs.size:=λb hb=>by rw[hC];exact bC<|oC hb
 have old:=λb o e=>hsb₁.extBut b o (neC b<|aM e) (aD _<|hH2▸aD _ e)
 have hacc:=hsb₁.extBut _ _ hDC (aD _<|hH2▸aR _ rfl);have env_eq:({newEnv scope G2.objs.size X.env.globals cl X.env.qual none .none (some X.env) 0 with scope:=relabel scope X.env}:Env)=compEnvC scope cl G2.objs.size X.env:=rfl;generalize hDD:s.heap.objs.size=D at *;generalize hCC:G2.objs.size=C at *
 have okX:(qI X N scope cl C fp s H<|ξ cl C).Ok:=by
  refine⟨I.mod,hkr,I.ok.glob,I.ok.blt,?_,λx y c a b=>I.ok.inj x y c (csub x c a)<|csub y c b,chas,(λx c z=>nomatch z),λ_=>I.ok.hd hc,I.ok.frames,.inl rfl,λb hb=>⟨neC b<|flow b hb,λx c e=>(hfp b hb).2.2.2.2.1 x c<|csub x c e⟩,I.bs,?_,λb o e hb=>?_,fstk,I.stack,I.stkFree⟩
  ·show s.heap.objs.size<=C;rw[hDD];exact hCle
  ·exact cF I.ok.bsz I.sz
  ·rcases(hfp b hb).2.2.2.1 with z|z
   ·exact I.ok.noex b o e z
   ·exact absurd (aZ (aM e)<|cF I.ok.bsz z)<|dH _
 have capE:∀ (i:Nat) (x:Str) (v:V),N[i]? =some x->(zZ cap σ)[i]? =some (some v)->∃k:Nat,X.N[k]? =some x/\σ[k]? =some (some v)/\sc.names.lookup x=some .cell/\scope.names.lookup x=some .free:=λi x v e1 e2=>by
  unfold nX at hcap;rw[bL] at hcap;unfold zZ at e2;rw[aY] at e2;cases q:cap[i]? with
  |none=>rw[q] at e2;cases e2
  |some o=>
   rw[q] at e2;have e2:(o.bind λk=>(σ[k]?).join)=some v:=bW.inj e2;cases o with
   |none=>cases e2
   |some k=>
    have e2:(σ[k]?).join=some v:=e2
    have mz:(some k,x)∈cap.zip N:=by refine aQ (i:=i) ?_;rw[jO];exact⟨q,e1⟩
    have z:=cZ.mp hcap.2 _ mz;simp only[bL,beq_iff_eq] at z;refine⟨k,z.1.1,?_,z.1.2,z.2⟩;cases w:σ[k]? with
    |none=>rw[w] at e2;cases e2
    |some o'=>rw[w] at e2;have e2:o'=some v:=e2;rw[e2]
 have I0:Inv (qI X N scope cl C fp s H<|ξ cl C) [(D,{cls:=.type "list",dict:=none,data:=.seq ([]:List BX).toArray})] (zZ cap σ) H {s with heap:=h₁,toks:=s.toks+([]:List (Str×BX)).length}:=by
  have dfree:H D=none:=I.hok.fresh<|aGM hDD;refine⟨okX,rfl,I.bare,Un.kept old,⟨_,hns₁,λi x v e1 e2 e3=>?_⟩,λx c e=>?_,I.hok.fresh (by rw[hDD];exact hCle),λx c e=>I.freeC x c<|csub x c e,λp hp=>?_,I.hok.kept old,?_⟩
  ·obtain⟨k,q1,q2,q3,q4⟩:=capE i x v e1 e2;have q3':X.env.scope.names.lookup x=some .cell:=by rw[hsc];exact q3
   obtain⟨m,_,hl⟩:=I.loc;obtain⟨u,ru,lk⟩:=hl k x v q1 q2 (.inr<|.inl q3');refine⟨u,ru,.inr ⟨.inl<|jH I.ok.kind q4 q3',?_⟩⟩
   rcases lk with⟨z,_⟩|⟨_,c,z,ic⟩
   ·have z':X.env.scope.names.lookup x=some .local:=z;rw[q3'] at z';cases z'
   ·obtain⟨c',hc'⟩:=chas x (.inl<|jH I.ok.kind q4 q3');have:=csub x c' hc';rw[z] at this;have ec:c=c':=bW.inj this;subst ec;obtain⟨o,ho,hd⟩:=ic;exact⟨c,hc',o,old c o ho,hd⟩
  ·obtain⟨v,o,ho,hd⟩:=I.cell x c<|csub x c e;exact⟨v,o,old c o ho,hd⟩
  ·have hp':p=(D,{cls:=.type "list",dict:=none,data:=.seq ([]:List BX).toArray}):=by simpa[qI,cxB] using hp
   subst hp';refine⟨hacc,dfree,hDC,λz=>?_,λv z=>by cases z⟩;have:=I.low D z;rw[hDD] at this;exact dH _ this
  ·show(zZ cap σ).length=N.length;unfold nX at hcap;rw[bL] at hcap;unfold zZ;rw[aA];simpa using hcap.1
 have dlow:∀b,b<D->b≠D:=λb hb=>bC hb
 have loop:∀s₃:BY,s₃={s with heap:=h₁,toks:=s.toks+([]:List (Str×BX)).length}->
   codeAny (AD X.prog X.w) X.A (.compLoop (.ListComp elt [⟨tg,iter,ifs,0⟩] scope pos) 0 (.ref it) (.ref D)<|compEnvC scope cl C X.env) (RR (.ref D) C) s₃:=by
  rintro s₃ rfl
  refine aGB (ξ cl C) (λe s' z=>?_) (λn s'=>∃ (i:Nat) (ys:List V) (σb:St) (H2:Hp) (its:List BX) (nn:Nat),Inv (qI X N scope cl C fp s H<|ξ cl C) [(D,{cls:=.type "list",dict:=none,data:=.seq its.toArray nn})] σb H2 s'/\tn i s'.heap/\(∀b∈fp,H2 b=none)/\Vals ys its/\ys.length<=AM/\W i n ys σb H2) ?_ m0
   ⟨0,[],zZ cap σ,H,[],0,I0,T.keep 0 _ _ st λb hb o e=>old b o e,λb hb=>(hfp b hb).1,.nil,bM _,w0⟩
  ·obtain⟨pi,σb,H',I',z'⟩:=hξ cl C e s' z;obtain⟨m4,ns4,_⟩:=id I'.loc;have J0:Inv X pins σ H' s':=I.call' I'.os I'.base I'.hok I'.bare λb hb=>⟨(hfp b hb).2.2.2.1,(hfp b hb).2.1,(hfp b hb).2.2.2.2.1,(hfp b hb).2.2.2.2.2⟩
   have hLD:X.env.locals<D:=by rw[<-hDD];exact I.lt
   exact hx cl D C e H' s' z' I'.free (cF I.sz<|by rw[hDD];exact hCle) (eJ<|aZ hLD hCle) (λx c e=>neC c<|cexX x c e) (λp hp=>neC _<|pexX p hp) (λz=>absurd (I.low C z)<|by rw[hDD];exact aCH.mpr hCle) ⟨m4,ns4⟩ J0
  rintro n s3 ⟨i,ys,σ3,H3,its,nn,I3,st3,fr3,rv3,hlen,w3⟩
  have fpX:∀ {H':Hp}{its':List BX}{nn':Nat},(∀b∈fp,H' b=none)->∀b∈fp,vO (qI X N scope cl C fp s H<|ξ cl C) [(D,{cls:=.type "list",dict:=none,data:=.seq its'.toArray nn'})] H' b:=λ{H' its' nn'} hn b hb=>by
   refine⟨hn b hb,neC b<|flow b hb,fstk b hb,.inl hb,λx c e=>(hfp b hb).2.2.2.2.1 x c<|csub x c e,λp hp=>?_⟩
   have hp':p.1=D:=by have q:p∈([]:List (BZ×CC))++[(D,{cls:=.type "list",dict:=none,data:=.seq its'.toArray nn'})]:=hp;rw[List.nil_append,aH] at q;rw[q]
   rw[hp'];exact Ne.symm (dlow b<|flow b hb)
  rcases turn i n ys σ3 H3 w3 with⟨stop,fin⟩|⟨go,hsz,Nx,hN,step⟩
  ·refine thn (T.done (qI X N scope cl C fp s H<|ξ cl C) rfl rfl rfl rfl i _ s3 σ3 H3 (ξ cl C) I3 (fpX fr3) st3 stop) λr s4 ⟨hr,I4⟩=>?_
   subst hr;obtain⟨m4,ns4,_⟩:=id I4.loc;have J0:Inv X pins σ H3 s4:=I.call' I4.os I4.base I4.hok I4.bare λb hb=>⟨(hfp b hb).2.2.2.1,(hfp b hb).2.1,(hfp b hb).2.2.2.2.1,(hfp b hb).2.2.2.2.2⟩
   obtain⟨pd,pn,_⟩:=I4.pin (D,_)<|aU _ aG;have hLD:X.env.locals<D:=by rw[<-hDD];exact I.lt
   refine fin D C s4 pn I4.free hDC (cF I.sz<|by rw[hDD];exact hCle) (eJ<|aZ hLD hCle) (λx c e=>neC c<|cexX x c e) (λp hp=>neC _<|pexX p hp) (λz=>absurd (I.low C z)<|by rw[hDD];exact aCH.mpr hCle) ⟨m4,ns4⟩ ?_;refine J0.track pn (by rw[<-hDD];exact I.sz) (eJ hLD) (λx c e=>dlow c<|cexX x c e) (λp hp=>dlow _<|pexX p hp) ?_;exact⟨hlen,its,nn,rv3,pd⟩
  ·refine thn (T.item (qI X N scope cl C fp s H<|ξ cl C) rfl rfl rfl rfl i _ s3 σ3 H3 (ξ cl C) I3 (fpX fr3) st3 go) λr s4 ⟨u,hr,h4⟩=>?_
   subst hr;refine thn h4 λ_ s5 ⟨x,H5,I5,r5,y5,st5,fr5⟩=>?_
   have I5':=I5.pinned (fpX fr5)<|T.obj _ _ st5;refine thn (hg cl C _ s5 σ3 H5 x u _ I5' r5<|step x H5 y5) λ_ s6 ⟨σ6,H6,I6,q6⟩=>?_
   refine thn (ht cl C _ s6 σ6 H6 _ I6 q6) λb s7 ⟨H7,I7,q7⟩=>?_
   have tnK:∀ {σ7:St}{H7:Hp}{s7:BY},Inv (qI X N scope cl C fp s H<|ξ cl C) ([(D,{cls:=.type "list",dict:=none,data:=.seq its.toArray nn})]++pM fp s5.heap) σ7 H7 s7->tn (i+1) s7.heap/\∀b∈fp,H7 b=none:=λ{σ7 H7 s7} I7=>by refine⟨T.keep _ _ _ st5 λb hb o e=>(I7.pin (b,o)<|aU _ (aU _<|jU hb e)).1,λb hb=>?_⟩;obtain⟨o,e,d⟩:=T.obj _ _ st5 b hb;exact(I7.pin (b,o)<|aU _ (aU _<|jU hb e)).2.1
   cases b with
   |false=>have q7':Nx ys σ6 H7:=q7;obtain⟨m',hm,w7⟩:=hN _ _ _ q7';obtain⟨t7,f7⟩:=tnK I7;exact⟨m',hm,i+1,ys,σ6,H7,its,nn,I7.unpinned,t7,f7,rv3,hlen,w7⟩
   |true=>
    have q7':te σ6 H7 λv H5=>Nx (ys++[v]) σ6 H5:=q7
    refine thn (he cl C _ s7 σ6 H7 _ I7 q7') λy s8 ⟨v,H8,I8,r8,q8⟩=>?_
    obtain⟨m',hm,w8⟩:=hN _ _ _ q8;obtain⟨pd,pn,pL,pf,pc⟩:=I8.pin (D,{cls:=.type "list",dict:=none,data:=.seq its.toArray nn}) (aU _<|bP _ aG);have hits:its.length=ys.length:=rv3.length.symm;refine wpAny_list_append_plain ⟨nn,pd⟩ (λh9 pl9 sb9=>?_) (by rw[bB,hits];exact cX hsz);obtain⟨n9,e9⟩:=pl9
    have e9':h9.get? D=some {cls:=.type "list",dict:=none,data:=.seq (its++[y]).toArray n9}:=by rw[e9];simp
    have I8':Inv (qI X N scope cl C fp s H<|ξ cl C) (pM fp s5.heap) σ6 H8 s8:=I8.pins_of λp hp=>I8.pin p (aU _<|aU _ hp)
    have I9:Inv (qI X N scope cl C fp s H<|ξ cl C) (pM fp s5.heap) σ6 H8 {s8 with heap:=h9,toks:=s8.toks}:=I8'.turned (λb o hb e=>sb9.extBut b o hb e) pn hDC (.inr<|by rw[<-hDD];exact aK _) (λx c e=>dlow c<|cexi x c e) λp hp=>by
     have hp':p∈pM fp s5.heap:=by simpa[qI,cxB] using hp
     exact dlow _<|flow _ (uH hp').1
    have tn9:tn (i+1) h9:=T.keep _ _ _ st5 λb hb o e=>(I9.pin (b,o) (aU _<|jU hb e)).1
    have fr9:∀b∈fp,H8 b=none:=λb hb=>by obtain⟨o,e,d⟩:=T.obj _ _ st5 b hb;exact(I9.pin (b,o) (aU _<|jU hb e)).2.1
    refine⟨m',hm,i+1,ys++[v],σ6,H8,its++[y],n9,I9.pins_of λp hp=>?_,tn9,fr9,Vals.append rv3<|.cons r8 .nil,by rw[aV];exact hsz,w8⟩;have hp':p=(D,{cls:=.type "list",dict:=none,data:=.seq (its++[y]).toArray n9}):=aH.mp hp;subst hp';exact⟨e9',pn,pL,pf,λv z=>by cases z⟩
 exact codeAny_compStart_list (loop _ rfl) (T.self _ 0 _ _ _ (T.keep 0 _ _ st λb hb o e=>old b o e)<|loop _ rfl)
def aHt{cap:List (Option Nat)}{tt:TT}{te:TE}(hc:X.calm=true) (hsc:X.env.scope=sc) (hcn:qG scope sc=true) (hcap:nX N X.N scope sc cap=true) (hk:scope.kind=.function)(I:Inv X pins σ H s) (T:zT X.prog X.w X.K tg J fp it tn) (st:tn 0 s.heap) (hfp:∀b∈fp,vO X pins H b)(hg:∀cl C,PG (cxB X N scope cl C fp s H) tg g) (ht:∀cl C pi s2 σ2 H2 Q,Inv (cxB X N scope cl C fp s H) pi σ2 H2 s2->tt σ2 H2 Q->AH (AD X.prog X.w) X.A (forIn ifs true λc r=>if r=true then do let ok <-isTrue c (compEnvC scope cl C X.env) (eval c<|compEnvC scope cl C X.env);pure (ForInStep.yield ok) else pure (ForInStep.yield r)) (TP (cxB X N scope cl C fp s H) pi σ2 Q) (λ_ _=>False) s2)(he:∀cl C,PE (cxB X N scope cl C fp s H) elt te) (W:Nat->Nat->List V->St->Hp->Prop) (m0:Nat) (w0:W 0 m0 [] (zZ cap σ) H)(RR:BX->BZ->Result->BY->Prop)(turn:∀i m ys σb H2,W i m ys σb H2→(J.stop i H2/\∀D C s',H2 D=none->H2 C=none->D≠C->X.s₀.heap.objs.size<=C->C≠X.env.locals->(∀x c,X.env.cells.lookup x=some c->c≠C)->(∀p∈X.pn++pins,p.1≠C)->C∉frs X.stack->(∃m,s'.heap.Ns C m)->Inv X pins σ (upd H2 D<|.lst ys) s'->RR (.ref D) C (.ok .next) s')\/
   (J.go i H2∧ys.length<AM∧∃Nx:List V→St→Hp→Prop,(∀ys' σ' H',Nx ys' σ' H'→∃m',m'<m∧W (i+1) m' ys' σ' H')∧
    ∀x H',J.yld i H2 x H'->g x σb H' λσ2 H3=>tt σ2 H3 λb H4=>if b=true then te σ2 H4 λv H5=>Nx (ys++[v]) σ2 H5 else Nx ys σ2 H4)):
  AH (AD X.prog X.w) X.A (newList []) (fun acc s₃=>AH (AD X.prog X.w) X.A (newFunctionEnv scope X.env.globals (clo X.env.cells scope.names []) [] X.env.qual none .none (some X.env)) (fun cenv s₄=>
   codeAny (AD X.prog X.w) X.A (.compStart (.ListComp elt [⟨tg,iter,ifs,0⟩] scope pos) 0 (.ref it) acc {cenv with scope:=relabel scope X.env}) (RR acc cenv.locals) s₄) E s₃) E s:=
 aFL (λ_ _ _ _=>False) (λ_ _ _ _ _=>False) hc hsc hcn hcap hk I T st hfp hg ht he W m0 w0 RR (λ_ _ _ _ z=>z.elim) (λ_ _ _ _ _ _ z=>z.elim) turn
end L2
namespace DL
open PySem PySem.Spec PyProof.Rows L2
abbrev St:=L2.St
inductive D where
 |non|bl (b:Bool)|int (i:Int)|str (x:Str)|tup (ds:List D)|lst (ds:List D)|dic|scr (ns:List Int)|dki (ks:List Key) (ds:List D)|any (G:V->Hp->Prop)
mutual
noncomputable def Rep(K:aB)(H:Hp):D->V->Prop
 |.non,v=>v=.non
 |.bl b,v=>v=.bl b
 |.int i,v=>v=.int i
 |.str x,v=>v=.str x
 |.tup ds,v=>∃a xs,v=.ref a/\H a=some (.tup xs)/\RepL K H ds xs
 |.lst ds,v=>∃a xs,v=.ref a/\H a=some (.lst xs)/\RepL K H ds xs
 |.dic,v=>∃a,v=.ref a/\H a=some (.dK [])
 |.dki ks ds,v=>∃a xs,v=.ref a/\(∃ob,H a=some (.frz ob (.dK<|ks.zip xs)))/\ks.length=ds.length/\RepL K H ds xs
 |.scr ns,v=>∃a,v=.ref a/\SqL K H a (ns.map V.int)
 |.any G,v=>(∃a,v=.ref a)/\∀H',Same H H'->G v H'
noncomputable def RepL(K:aB)(H:Hp):List D->List V->Prop
 |[],xs=>xs=[]
 |d::ds,xs=>∃y ys,xs=y::ys/\Rep K H d y/\RepL K H ds ys
end
mutual
theorem Rep.mono{K:aB}{H H':Hp}(h:Same H H'):∀ {d:D}{v:V},Rep K H d v->Rep K H' d v
 |.non,_,r=>by simpa only[Rep] using r
 |.bl _,_,r=>by simpa only[Rep] using r
 |.int _,_,r=>by simpa only[Rep] using r
 |.str _,_,r=>by simpa only[Rep] using r
 |.tup ds,v,r=>by obtain⟨a,xs,e,q,rl⟩:=r;exact⟨a,xs,e,h _ _ q,RepL.mono h rl⟩
 |.lst ds,v,r=>by obtain⟨a,xs,e,q,rl⟩:=r;exact⟨a,xs,e,h _ _ q,RepL.mono h rl⟩
 |.dki ks ds,v,r=>by obtain⟨a,xs,e,⟨ob,q⟩,l,rl⟩:=r;exact⟨a,xs,e,⟨ob,h _ _ q⟩,l,RepL.mono h rl⟩
 |.dic,v,r=>by obtain⟨a,e,q⟩:=r;exact⟨a,e,h _ _ q⟩
 |.any G,v,r=>by exact⟨r.1,λH2 s=>r.2 H2<|h.trans s⟩
 |.scr ns,v,r=>by obtain⟨a,e,q⟩:=r;exact⟨a,e,h.seq q⟩
theorem RepL.mono{K:aB}{H H':Hp}(h:Same H H'):∀ {ds:List D}{xs:List V},RepL K H ds xs->RepL K H' ds xs
 |[],_,r=>by simpa only[RepL] using r
 |d::ds,xs,r=>by simp only[RepL] at r ⊢;obtain⟨y,ys,e,q,rl⟩:=r;exact⟨y,ys,e,Rep.mono h q,RepL.mono h rl⟩
end
def RepL.len{K:aB}:∀ {ds:List D}{xs:List V},RepL K H ds xs->xs.length=ds.length
 |[],_,r=>by rw[r];rfl
 |d::ds,xs,r=>by obtain⟨y,ys,rfl,_,q⟩:=r;simp only[bZ,RepL.len q]
def RepL.get{K:aB}:∀ {ds:List D}{xs:List V}{i:Nat}{d:D},RepL K H ds xs->ds[i]? =some d->∃v,xs[i]? =some v/\Rep K H d v
 |[],_,i,d,r,e=>by simp at e
 |d'::ds,xs,i,d,r,e=>by
  obtain⟨y,ys,rfl,q,rl⟩:=r;cases i with
  |zero=>simp at e;subst e;exact⟨y,rfl,q⟩
  |succ i=>
   have e':=by simpa using e
   obtain⟨v,h1,h2⟩:=RepL.get rl e';exact⟨v,by simpa using h1,h2⟩
def RepL.app{K:aB}:∀ {ds es:List D}{xs ys:List V},RepL K H ds xs->RepL K H es ys->RepL K H (ds++es) (xs++ys)
 |[],es,xs,ys,r,q=>by subst r;exact q
 |d::ds,es,xs,ys,r,q=>by obtain⟨y,zs,rfl,a,rl⟩:=r;show RepL K H (d::(ds++es)) (y::(zs++ys));exact⟨y,_,rfl,a,RepL.app rl q⟩
def RepL.nil{K:aB}:RepL K H [] []:=by simp only[RepL]
def RepL.cons{K:aB}(a:Rep K H d x)(b:RepL K H ds xs):RepL K H (d::ds) (x::xs):=by exact⟨x,xs,rfl,a,b⟩
def RepL.one{K:aB}(a:Rep K H d x):RepL K H [d] [x]:=.cons a .nil
def RepL.uncons{K:aB}(r:RepL K H (d::ds) xs):∃y ys,xs=y::ys/\Rep K H d y/\RepL K H ds ys:=by simpa only[RepL] using r
def RepL.take{K:aB}:∀ {ds:List D}{xs:List V} (n:Nat),RepL K H ds xs->RepL K H (ds.take n) (xs.take n)
 |_,_,0,_=>by exact .nil
 |[],xs,n+1,r=>by subst r;exact .nil
 |d::ds,xs,n+1,r=>by obtain⟨y,ys,rfl,a,rl⟩:=r.uncons;exact .cons a<|RepL.take n rl
def RepL.drop{K:aB}:∀ {ds:List D}{xs:List V} (n:Nat),RepL K H ds xs->RepL K H (ds.drop n) (xs.drop n)
 |_,_,0,r=>by simpa using r
 |[],xs,n+1,r=>by subst r;exact .nil
 |d::ds,xs,n+1,r=>by obtain⟨y,ys,rfl,a,rl⟩:=r.uncons;exact RepL.drop n rl
def RepL.ints{K:aB}:∀ {ns:List Int}{xs:List V},RepL K H (ns.map D.int) xs->xs=ns.map V.int
 |[],xs,r=>by simpa only[gH,RepL] using r
 |n::ns,xs,r=>by obtain⟨y,ys,rfl,a,rl⟩:=r.uncons;rw[a,RepL.ints rl];rfl
inductive Slot where
 |un|val (d:D)|own (l:BZ) (ds:List D)|gh (d:D) (G:V->Hp->Prop)|od (l:BZ) (ks:List Key) (ds:List D)|ox (ls:List BZ) (G:V->Hp->Hp->Prop)
def Wr(l:BZ):HO->Prop
 |.lst _=>True
 |.dK _=>True
 |.ext φ=>∃o:CC,φ=(λh=>h.get? l=some o)/\∀v,o.data≠ .cell v
 |_=>False
def iB(K:aB)(F H:Hp):Slot->Option V->Prop
 |.un,_=>True
 |.val d,o=>∃v,o=some v/\Rep K F d v
 |.own l ds,o=>o=some (.ref l)/\F l=none/\∃xs,H l=some (.lst xs)/\RepL K F ds xs
 |.od l ks ds,o=>o=some (.ref l)/\F l=none/\∃xs,H l=some (.dK<|ks.zip xs)/\ks.length=ds.length/\RepL K F ds xs
 |.gh d G,o=>∃v,o=some v/\Rep K F d v/\∀F',Same F F'->G v F'
 |.ox ls G,o=>∃v,o=some v/\(∀l∈ls,F l=none/\∃ob,H l=some ob/\Wr l ob)/\∀F' H',Same F F'->(∀l∈ls,∀ob,H l=some ob->H' l=some ob)->G v F' H'
def SlotsOk(K:aB)(F H:Hp):List Slot->St->Prop
 |[],σ=>σ=[]
 |z::zs,σ=>∃o r,σ=o::r/\iB K F H z o/\SlotsOk K F H zs r
noncomputable def lN:Slot->List BZ
 |.own l _=>[l]
 |.od l _ _=>[l]
 |.ox ls _=>ls
 |_=>[]
def dL(sd:List Slot):List BZ:=sd.flatMap lN
def rD(z:Slot)(zs:List Slot):dL (z::zs)=lN z++dL zs:=rfl
structure StF(K:aB)(H₀ F H:Hp)(σ:St)(sd:List Slot):Prop where
 base:Same H₀ F
 sub:Same F H
 smp:Smp H
 slots:SlotsOk K F H sd σ
 nd:(dL sd).Nodup
variable {K:aB}{H₀ F F' H H':Hp}{σ:St}{sd:List Slot}
def SlotsOk.get:∀ {sd:List Slot}{σ:St}{i:Nat}{z:Slot},SlotsOk K F H sd σ->sd[i]? =some z->∃o,σ[i]? =some o/\iB K F H z o
 |[],_,_,_,_,e=>by simp at e
 |z'::zs,σ,i,z,h,e=>by
  obtain⟨o,r,rfl,a,b⟩:=h;cases i with
  |zero=>simp at e;subst e;exact⟨o,rfl,a⟩
  |succ i=>obtain⟨o',h1,h2⟩:=SlotsOk.get b (by simpa using e);exact⟨o',by simpa using h1,h2⟩
def SlotsOk.set(q:iB K F H z o):∀ {sd:List Slot}{σ:St} (i:Nat),SlotsOk K F H sd σ->SlotsOk K F H (sd.set i z) (σ.set i o)
 |[],_,_,h=>by subst h;rfl
 |z'::zs,σ,i,h=>by
  obtain⟨o',r,rfl,a,b⟩:=h;cases i with
  |zero=>exact⟨o,r,rfl,q,b⟩
  |succ i=>exact⟨o',_,rfl,a,SlotsOk.set q i b⟩
theorem SlotsOk.mono(hF:Same F F'):∀ {sd:List Slot}{σ:St},(∀l∈dL sd,F' l=none/\∀xs,H l=some xs->H' l=some xs)->SlotsOk K F H sd σ->SlotsOk K F' H' sd σ
 |[],_,_,h=>h
 |z::zs,σ,ho,h=>by
  obtain⟨o,r,rfl,a,b⟩:=h;refine⟨o,r,rfl,?_,SlotsOk.mono hF (λl hl=>ho l ?_) b⟩
  ·cases z with
   |un=>trivial
   |val d=>obtain⟨v,e,q⟩:=a;exact⟨v,e,q.mono hF⟩
   |gh d G=>obtain⟨v,e,q,g⟩:=a;exact⟨v,e,q.mono hF,λF2 s2=>g F2<|hF.trans s2⟩
   |own l ds=>obtain⟨e,n,xs,q,rl⟩:=a;have:=ho l (by simp[rD,lN]);exact⟨e,this.1,xs,this.2 _ q,rl.mono hF⟩
   |od l ks ds=>obtain⟨e,n,xs,q,ln,rl⟩:=a;have:=ho l (by simp[rD,lN]);exact⟨e,this.1,xs,this.2 _ q,ln,rl.mono hF⟩
   |ox ls G=>
    obtain⟨v,e,h,g⟩:=a;have ho':=λl hl=>ho l<|bP _ hl
    exact⟨v,e,λl hl=>⟨(ho' l hl).1,let ⟨ob,q,w⟩:=(h l hl).2;⟨ob,(ho' l hl).2 _ q,w⟩⟩,λF2 H2 s2 k=>g F2 H2 (hF.trans s2) λl hl ob q=>k l hl ob<|(ho' l hl).2 _ q⟩
  ·exact aU _ hl
def SlotsOk.owns:∀ {sd:List Slot}{σ:St}{l:BZ},SlotsOk K F H sd σ->l∈dL sd->F l=none/\∃ob,H l=some ob/\Wr l ob
 |[],_,_,_,e=>by simp[dL] at e
 |z::zs,σ,l,h,e=>by
  obtain⟨o,r,rfl,a,b⟩:=h
  rcases aS.mp (e) with e|e
  ·cases z with
   |un=>cases e
   |val d=>cases e
   |gh d G=>cases e
   |own l' ds=>rw[aH.mp e];obtain⟨_,n,xs,q,_⟩:=a;exact⟨n,_,q,trivial⟩
   |od l' ks ds=>rw[aH.mp e];obtain⟨_,n,xs,q,_⟩:=a;exact⟨n,_,q,trivial⟩
   |ox ls G=>obtain⟨v,_,h,_⟩:=a;exact h l e
  ·exact SlotsOk.owns b e
def StF.lay(S:StF K H₀ F H σ sd)(hp:H p=none)(ho:aPY o):StF K H₀ (upd F p o) (upd H p o) σ sd/\Same F (upd F p o):=by
 have fp:=S.sub.free hp;have s1:Same F (upd F p o):=λb u e=>by rw[bH<|cD e fp];exact e
 refine⟨⟨λb u e=>s1 _ _<|S.base _ _ e,λb u e=>?_,λb u e=>?_,S.slots.mono s1 λl hl=>?_,S.nd⟩,s1⟩
 ·by_cases h:b=p
  ·subst h;rw[bX] at e ⊢;exact e
  ·rw[bH h] at e ⊢;exact S.sub _ _ e
 ·by_cases h:b=p
  ·subst h;rw[bX] at e;cases e;exact ho
  ·rw[bH h] at e;exact S.smp _ _ e
 ·obtain⟨n,xs,q,_⟩:=S.slots.owns hl;have hne:=cD q hp;exact⟨by rw[bH hne];exact n,λys e=>by rw[bH hne];exact e⟩
def StF.layO(S:StF K H₀ F H σ sd)(hp:H p=none):StF K H₀ F (upd H p<|.lst xs) σ sd/\F p=none/\p∉dL sd:=by
 have fp:=S.sub.free hp;refine⟨⟨S.base,λb u e=>?_,λb u e=>?_,S.slots.mono (Same.refl _) λl hl=>?_,S.nd⟩,fp,λhl=>?_⟩
 ·rw[bH<|cD e fp];exact S.sub _ _ e
 ·by_cases h:b=p
  ·subst h;rw[bX] at e;cases e;trivial
  ·rw[bH h] at e;exact S.smp _ _ e
 ·obtain⟨n,ys,q,_⟩:=S.slots.owns hl;have hne:=cD q hp;exact⟨n,λys e=>by rw[bH hne];exact e⟩
 ·obtain⟨n,ys,q,_⟩:=S.slots.owns hl;rw[hp] at q;cases q
def StF.freeze(S:StF K H₀ F H σ sd)(hp:H p=some (.lst xs))(fp:F p=none)(ho:p∉dL sd):StF K H₀ (upd F p<|.lst xs) H σ sd/\Same F (upd F p<|.lst xs):=by
 have s1:Same F (upd F p<|.lst xs):=λb u e=>by rw[bH<|cD e fp];exact e
 refine⟨⟨λb u e=>s1 _ _<|S.base _ _ e,λb u e=>?_,S.smp,S.slots.mono s1 λl hl=>?_,S.nd⟩,s1⟩
 ·by_cases h:b=p
  ·subst h;rw[bX] at e;rw[hp];exact e
  ·rw[bH h] at e;exact S.sub _ _ e
 ·obtain⟨n,ys,q,_⟩:=S.slots.owns hl;have hne:l≠p:=λz=>ho (z▸hl)
  exact⟨by rw[bH hne];exact n,λys e=>e⟩
def SlotsOk.len:∀ {sd:List Slot}{σ:St},SlotsOk K F H sd σ->σ.length=sd.length
 |[],_,h=>by rw[h];rfl
 |z::zs,σ,h=>by obtain⟨o,r,rfl,_,b⟩:=h;simp[SlotsOk.len b]
inductive R where
 |val (d:D)|own (ds:List D)|bor (ds:List D)|pr (d:D) (ls:List D)|ox (G:V->List BZ->Hp->Hp->Prop)
def LOk(K:aB)(F H:Hp)(sd:List Slot)(v:V)(ds:List D):Prop:=
 ∃l xs,v=.ref l/\H l=some (.lst xs)/\RepL K F ds xs/\(F l=some (.lst xs)\/Slot.own l ds∈sd)
def ResOk(K:aB)(F H:Hp)(sd:List Slot):R->V->Prop
 |.val d,v=>Rep K F d v
 |.own ds,v=>∃l xs,v=.ref l/\F l=none/\H l=some (.lst xs)/\RepL K F ds xs/\l∉dL sd
 |.bor ds,v=>LOk K F H sd v ds
 |.pr d ls,v=>∃t l xs y,v=.ref t/\F t=some (.tup [y,.ref l])/\Rep K F d y/\F l=none/\H l=some (.lst xs)/\RepL K F ls xs/\l∉dL sd
 |.ox G,v=>∃ls:List BZ,ls.Nodup/\(∀l∈ls,F l=none/\(∃ob,H l=some ob/\Wr l ob)/\l∉dL sd)/\∀F' H',Same F F'->(∀l∈ls,∀ob,H l=some ob->H' l=some ob)->G v ls F' H'
def R.keeps:R->Prop
 |.own _=>False
 |.pr _ _=>False
 |.ox _=>False
 |_=>True
variable {r:R}{v:V}
theorem ResOk.keep(hr:r.keeps)(h:ResOk K F H sd r v)(S':StF K H₀ F' H' σ sd)(s:Same F F'):ResOk K F' H' sd r v:=by
 cases r with
 |val d=>exact Rep.mono s h
 |own ds=>exact hr.elim
 |pr d ls=>exact hr.elim
 |ox G=>exact hr.elim
 |bor ds=>
  obtain⟨l,xs,e,hl,rl,q⟩:=h
  rcases q with q|q
  ·exact⟨l,xs,e,S'.sub _ _<|s _ _ q,rl.mono s,.inl<|s _ _ q⟩
  ·obtain⟨i,hi⟩:=cY q;obtain⟨o,_,e2,_,ys,h1,h2⟩:=S'.slots.get hi;exact⟨l,ys,e,h1,h2,.inr q⟩
structure PEd(X:Cx)(sd:List Slot)(e:Expr)(r:R):Prop where
 run:∀ (σ:St) (F H:Hp),StF X.K X.B₀ F H σ sd->
 wE X e σ H λv H'=>∃F',StF X.K X.B₀ F' H' σ sd/\Same F F'/\ResOk X.K F' H' sd r v
instance {X:Cx}{sd:List Slot}{e:Expr}{r:R}:CoeFun (PEd X sd e r) (fun _=>∀ (σ:St) (F H:Hp),StF X.K X.B₀ F H σ sd→
 wE X e σ H λv H'=>∃F',StF X.K X.B₀ F' H' σ sd/\Same F F'/\ResOk X.K F' H' sd r v):=⟨PEd.run⟩
structure PTd(X:Cx)(sd:List Slot)(e:Expr)(b:Bool):Prop where
 run:∀ (σ:St) (F H:Hp),StF X.K X.B₀ F H σ sd->
 wT X e σ H λc H'=>c=b/\∃F',StF X.K X.B₀ F' H' σ sd/\Same F F'
instance {X:Cx}{sd:List Slot}{e:Expr}{b:Bool}:CoeFun (PTd X sd e b) (fun _=>∀ (σ:St) (F H:Hp),StF X.K X.B₀ F H σ sd→
 wT X e σ H λc H'=>c=b/\∃F',StF X.K X.B₀ F' H' σ sd/\Same F F'):=⟨PTd.run⟩
structure PWd(X:Cx)(sd:List Slot)(e:Expr)(b:Bool):Prop where
 run:∀ (σ:St) (F H:Hp),StF X.K X.B₀ F H σ sd->
 wW X e σ H λc H'=>c=b/\∃F',StF X.K X.B₀ F' H' σ sd/\Same F F'
instance {X:Cx}{sd:List Slot}{e:Expr}{b:Bool}:CoeFun (PWd X sd e b) (fun _=>∀ (σ:St) (F H:Hp),StF X.K X.B₀ F H σ sd→
 wW X e σ H λc H'=>c=b/\∃F',StF X.K X.B₀ F' H' σ sd/\Same F F'):=⟨PWd.run⟩
inductive RsOk(K:aB)(F H:Hp)(sd:List Slot):List R->List V->Prop
 |nil:RsOk K F H sd [] []
 |cons {r v rs vs}:ResOk K F H sd r v->RsOk K F H sd rs vs->RsOk K F H sd (r::rs) (v::vs)
structure PAd(X:Cx)(sd:List Slot)(es:List Expr)(rs:List R):Prop where
 run:∀ (σ:St) (F H:Hp),StF X.K X.B₀ F H σ sd->
 wA X es σ H λvs H'=>∃F',StF X.K X.B₀ F' H' σ sd/\Same F F'/\RsOk X.K F' H' sd rs vs
instance {X:Cx}{sd:List Slot}{es:List Expr}{rs:List R}:CoeFun (PAd X sd es rs) (fun _=>∀ (σ:St) (F H:Hp),StF X.K X.B₀ F H σ sd→
 wA X es σ H λvs H'=>∃F',StF X.K X.B₀ F' H' σ sd/\Same F F'/\RsOk X.K F' H' sd rs vs):=⟨PAd.run⟩
structure jJ where
 nx:List Slot->Prop
 rt:R->Prop
 bk:List Slot->Prop:=λ_=>False
 ct:List Slot->Prop:=λ_=>False
def aHh(K:aB)(H₀ H:Hp)(r:R)(v:V):Prop:=∃F,Same H₀ F/\Same F H/\Smp H/\ResOk K F H [] r v
def lft(X:Cx)(F₀:Hp)(E:jJ):vL where
 nx:=λσ H=>∃sd F,StF X.K X.B₀ F H σ sd/\Same F₀ F/\E.nx sd
 rt:=λv H=>∃r,aHh X.K X.B₀ H r v/\E.rt r
 bk:=λσ H=>∃sd F,StF X.K X.B₀ F H σ sd/\Same F₀ F/\E.bk sd
 ct:=λσ H=>∃sd F,StF X.K X.B₀ F H σ sd/\Same F₀ F/\E.ct sd
structure PSd(X:Cx)(sd:List Slot)(sts:List CD)(E:jJ):Prop where
 run:∀ (σ:St) (F H:Hp),StF X.K X.B₀ F H σ sd->wSs X sts (lft X F E) σ H
instance {X:Cx}{sd:List Slot}{sts:List CD}{E:jJ}:CoeFun (PSd X sd sts E) (λ_=>∀ (σ:St) (F H:Hp),StF X.K X.B₀ F H σ sd->wSs X sts (lft X F E) σ H):=⟨PSd.run⟩
structure PSd1(X:Cx)(sd:List Slot)(st:CD)(E:jJ):Prop where
 run:∀ (σ:St) (F H:Hp),StF X.K X.B₀ F H σ sd->wS X st (lft X F E) σ H
instance {X:Cx}{sd:List Slot}{st:CD}{E:jJ}:CoeFun (PSd1 X sd st E) (λ_=>∀ (σ:St) (F H:Hp),StF X.K X.B₀ F H σ sd->wS X st (lft X F E) σ H):=⟨PSd1.run⟩
variable {X:Cx}{e a b c:Expr}{es:List Expr}{pos:Pos}{ra rb:R}{d:D}{ds:List D}
def PEd.val(h:PEd X sd e (.own ds)):PEd X sd e (.val<|.lst ds):=.mk λσ F H S=>(h σ F H S).imp λv H' ⟨F',S',s,l,xs,e,n,q,rl,no⟩=>by obtain⟨S2,s2⟩:=S'.freeze q n no;refine⟨_,S2,s.trans s2,?_⟩;show Rep _ _ _ _;exact⟨l,xs,e,bX,rl.mono s2⟩
def PEd.bor(h:PEd X sd e (.val<|.lst ds)):PEd X sd e (.bor ds):=.mk λσ F H S=>(h σ F H S).imp λv H' ⟨F',S',s,q⟩=>by have q:Rep _ _ _ _:=q;obtain⟨l,xs,e,q,rl⟩:=q;exact⟨F',S',s,l,xs,e,S'.sub _ _ q,rl,.inl q⟩
def oF(i:Nat)(hs:sd[i]? =some (.val d))(h:PE X (.Name x pos) (kU i)):PEd X sd (.Name x pos) (.val d):= .mk fun σ F H S=>h.to (by
 obtain⟨o,h1,v,h2,q⟩:=S.slots.get hs
 exact⟨v,by rw[h1,h2],F,S,Same.refl _,q⟩)
def aEH(i:Nat)(hs:sd[i]? =some (.own l ds))(h:PE X (.Name x pos) (kU i)):PEd X sd (.Name x pos) (.bor ds):= .mk fun σ F H S=>h.to (by
 obtain⟨o,h1,h2,n,xs,q,rl⟩:=S.slots.get hs
 exact⟨.ref l,by rw[h1,h2],F,S,Same.refl _,l,xs,rfl,q,rl,.inr (aQ hs)⟩)
def bO:PEd X sd (.Constant (.int i) j pos) (.val<|.int i):=.mk λσ F H S=>pe_int.to ⟨F,S,Same.refl _,by simp only[ResOk,Rep]⟩
def yX:PEd X sd (.Constant (.bool i) j pos) (.val<|.bl i):=.mk λσ F H S=>pe_bl.to ⟨F,S,Same.refl _,by simp only[ResOk,Rep]⟩
def kO:PEd X sd (.Constant .none j pos) (.val .non):=.mk λσ F H S=>pe_non.to ⟨F,S,Same.refl _,by simp only[ResOk,Rep]⟩
def dG:PEd X sd (.Constant (.str i) j pos) (.val<|.str i):=.mk λσ F H S=>pe_str.to ⟨F,S,Same.refl _,by simp only[ResOk,Rep]⟩
def aIs(hg:Gl X x)(hm:X.mg x=some u)(ru:RelV (.int i) u)(hd:(x==("__debug__":Str))=false:=by decide):PEd X sd (.Name x pos) (.val<|.int i):=.mk λσ F H S=>(aFu hg hm ru hd).to ⟨F,S,Same.refl _,by simp only[ResOk,Rep]⟩
def aN:PAd X sd [] []:=.mk λσ F H S=>pa_nil.to ⟨F,S,Same.refl _,.nil⟩
theorem aC(h1:PEd X sd e r)(h2:PAd X sd es rs)(hk:r.keeps:=by trivial)(hs:AE (e::es) X.env=(false,eval e X.env)::AE es X.env:=by rfl):PAd X sd (e::es) (r::rs):=.mk λσ F H S=>(fN fH zV hs).to<|(h1 σ F H S).imp λv H1 ⟨F1,S1,s1,q1⟩=>(h2 σ F1 H1 S1).imp λvs H2 ⟨F2,S2,s2,q2⟩=>⟨F2,S2,s1.trans s2,.cons (q1.keep hk S2 s2) q2⟩
def RsOk.vals:∀ {ds:List D}{vs:List V},RsOk K F H sd (ds.map R.val) vs->RepL K F ds vs
 |[],_,.nil=>.nil
 |_::_,_,.cons q t=>.cons q<|RsOk.vals t
theorem aEe(h:PAd X sd es (ds.map R.val))(hl:ds.length<=1000):PEd X sd (.Tuple es x1 pos) (.val<|.tup ds):=.mk λσ F H S=>
 (aJP zV).to ((h σ F H S).imp fun vs H1 ⟨F1,S1,s1,q1⟩=>by
  have rl:=q1.vals;refine⟨by rw[rl.len];exact cX<|gG hl,λp hp=>?_⟩;obtain⟨S2,s2⟩:=S1.lay (o:=.tup vs) hp trivial;refine⟨_,S2,s1.trans s2,?_⟩
  exact⟨p,vs,rfl,bX,rl.mono s2⟩)
theorem pO(h:PAd X sd es (ds.map R.val))(hl:ds.length<=1000):PEd X sd (.List es pos) (.own ds):=.mk λσ F H S=>
 (aPv zV).to ((h σ F H S).imp fun vs H1 ⟨F1,S1,s1,q1⟩=>by
  have rl:=q1.vals;refine⟨by rw[rl.len];exact cX<|gG hl,λp hp=>?_⟩;obtain⟨S2,fp,no⟩:=S1.layO hp
  exact⟨_,S2,s1,p,vs,rfl,fp,bX,rl,no⟩)
theorem aEr(ho:OpR X (Ar op) r2)(ha:PEd X sd a ra)(hb:PEd X sd b rb)(hk:ra.keeps)(h:∀ (σ:St) (F H:Hp) (v u:V) (Q:VK),StF X.K X.B₀ F H σ sd->ResOk X.K F H sd ra v->ResOk X.K F H sd rb u->(∀w F' H',StF X.K X.B₀ F' H' σ sd->Same F F'->ResOk X.K F' H' sd r w->Q w H')->r2 v u H Q):PEd X sd (.BinOp a op b pos) r:=.mk λσ F H S=>
 (aRc ho fH fH).to ((ha σ F H S).imp λv H1 ⟨F1,S1,s1,q1⟩=>(hb σ F1 H1 S1).imp λu H2 ⟨F2,S2,s2,q2⟩=>h σ F2 H2 v u _ S2 (q1.keep hk S2 s2) q2 λw F' H' S' s' q'=>⟨F',S',(s1.trans s2).trans s',q'⟩)
theorem sL(ho:OpR X (AU op) r2)(ha:PEd X sd a ra)(hb:PEd X sd b rb)(hk:ra.keeps)(hm:AY op b=false)(h:∀ (σ:St) (F H:Hp) (v u:V) (Q:VK),StF X.K X.B₀ F H σ sd->ResOk X.K F H sd ra v->ResOk X.K F H sd rb u->(∀F' H',StF X.K X.B₀ F' H' σ sd->Same F F'->Q (.bl k) H')->r2 v u H Q):PEd X sd (.Compare a [op] [b] pos) (.val<|.bl k):=.mk λσ F H S=>
 (aFt ho fH fH hm).to ((ha σ F H S).imp λv H1 ⟨F1,S1,s1,q1⟩=>(hb σ F1 H1 S1).imp λu H2 ⟨F2,S2,s2,q2⟩=>h σ F2 H2 v u _ S2 (q1.keep hk S2 s2) q2 λF' H' S' s'=>⟨F',S',(s1.trans s2).trans s',by simp only[ResOk,Rep]⟩)
theorem mC(h:PEd X sd e (.val<|.bl k))(he:∀whole,isTrue e X.env whole=(do let v <-whole;standAt e.pos;holding [v] (truthy v)):=by intro _;rfl):PTd X sd e k:=.mk λσ F H S=>(aPB fH he).to<|(h σ F H S).imp λv H1 ⟨F1,S1,s1,q1⟩=>by exact⟨k,q1,rfl,F1,S1,s1⟩
theorem mF(ho:OpR X (AU op) r2)(ha:PEd X sd a ra)(hb:PEd X sd b rb)(hk:ra.keeps)(hm:AY op b=false)(h:∀ (σ:St) (F H:Hp) (v u:V) (Q:VK),StF X.K X.B₀ F H σ sd->ResOk X.K F H sd ra v->ResOk X.K F H sd rb u->(∀F' H',StF X.K X.B₀ F' H' σ sd->Same F F'->Q (.bl k) H')->r2 v u H Q):PTd X sd (.Compare a [op] [b] pos) k:=.mk λσ F H S=>
 (wM ho fH fH hm).to ((ha σ F H S).imp λv H1 ⟨F1,S1,s1,q1⟩=>(hb σ F1 H1 S1).imp λu H2 ⟨F2,S2,s2,q2⟩=>h σ F2 H2 v u _ S2 (q1.keep hk S2 s2) q2 λF' H' S' s'=>⟨k,rfl,rfl,F',S',(s1.trans s2).trans s'⟩)
variable {st:CD}{rest:List CD}{E:jJ}
def wS.imp{D D':vL}(h:wS X st D σ H)(k1:∀σ H,D.nx σ H->D'.nx σ H)(k2:∀v H,D.rt v H->D'.rt v H)(k3:∀σ H,D.bk σ H->D'.bk σ H)(k4:∀σ H,D.ct σ H->D'.ct σ H):wS X st D' σ H:=
 λpins s I=>thn (h pins s I) λf s' q=>q.imp k1 k2 k3 k4
def tS(h:PTd X sd e k):PTd X sd (.UnaryOp .Not e pos) (!k):=.mk λσ F H S=>(aOU aKv).to<|(h σ F H S).imp λc H' ⟨e,q⟩=>⟨by rw[e],q⟩
def yC(h:PTd X sd a k):PWd X sd (.BoolOp .And [a] pos) k:=.mk λσ F H S=>(aMz aKv).to<|h σ F H S
def oI(h:PTd X sd a k):PWd X sd (.BoolOp .Or [a] pos) k:=.mk λσ F H S=>(aPm aKv).to<|h σ F H S
theorem tV(h:PTd X sd a k)(h2:k=true->PWd X sd (.BoolOp .And (b::es) pos) j):PWd X sd (.BoolOp .And (a::b::es) pos) (k&&j):=.mk λσ F H S=>
 (aOs aKv aQy).to ((h σ F H S).imp fun c H' ⟨e,F',S',s'⟩=>by
  subst e;cases c with
  |false=>exact aKB ⟨rfl,F',S',s'⟩
  |true=>exact aKu ((h2 rfl σ F' H' S').imp λc2 H2 ⟨e2,F2,S2,s2⟩=>⟨by rw[e2];rfl,F2,S2,s'.trans s2⟩))
theorem oU(h:PTd X sd a k)(h2:k=false->PWd X sd (.BoolOp .Or (b::es) pos) j):PWd X sd (.BoolOp .Or (a::b::es) pos) (k||j):=.mk λσ F H S=>
 (aRf aKv aQy).to ((h σ F H S).imp fun c H' ⟨e,F',S',s'⟩=>by
  subst e;cases c with
  |true=>exact aKu ⟨rfl,F',S',s'⟩
  |false=>exact aKB ((h2 rfl σ F' H' S').imp λc2 H2 ⟨e2,F2,S2,s2⟩=>⟨by rw[e2];rfl,F2,S2,s'.trans s2⟩))
def PWd.pt(h:PWd X sd e k):PTd X sd e k:=.mk λσ F H S=>(aQy).pt.to<|h σ F H S
def rC(h:PEd X sd a r):PEd X sd (.BoolOp op [a] pos) r:=.mk λσ F H S=>(aPR fH).to<|h σ F H S
theorem rH(h:PEd X sd a (.val<|.bl k))(h2:k=true->PEd X sd (.BoolOp .And (b::es) pos) (.val<|.bl j)):PEd X sd (.BoolOp .And (a::b::es) pos) (.val (.bl<|k&&j)):=.mk λσ F H S=>
 (aPa fH fH).to ((h σ F H S).imp fun v H' ⟨F',S',s',q⟩=>by
  subst q;refine⟨k,rfl,?_⟩;cases k with
  |false=>exact aKB ⟨F',S',s',by simp only[ResOk,Rep,aPU]⟩
  |true=>exact aKu ((h2 rfl σ F' H' S').imp λv2 H2 ⟨F2,S2,s2,q2⟩=>⟨F2,S2,s'.trans s2,by simpa using q2⟩))
theorem aKH(h:PEd X sd a (.val<|.bl k))(h2:k=false->PEd X sd (.BoolOp .Or (b::es) pos) (.val<|.bl j)):PEd X sd (.BoolOp .Or (a::b::es) pos) (.val<|.bl (k||j)):=.mk λσ F H S=>
 (aRk fH fH).to ((h σ F H S).imp fun v H' ⟨F',S',s',q⟩=>by
  subst q;refine⟨k,rfl,?_⟩;cases k with
  |true=>exact aKu ⟨F',S',s',by simp only[ResOk,Rep,aRM]⟩
  |false=>exact aKB ((h2 rfl σ F' H' S').imp λv2 H2 ⟨F2,S2,s2,q2⟩=>⟨F2,S2,s'.trans s2,by simpa using q2⟩))
def aPj(h:PEd X sd a (.val<|.bl k)):PEd X sd (.UnaryOp .Not a pos) (.val (.bl<|!k)):=.mk λσ F H S=>(aOu fH).to<|(h σ F H S).imp λv H' ⟨F',S',s',q⟩=>by exact⟨k,q,F',S',s',by simp only[ResOk,Rep]⟩
def fP{g:Int->Int->Int}(ho:OpR X (Ar op) (rI0 λi j=>.int<|g i j))(ha:PEd X sd a (.val<|.int i))(hb:PEd X sd b (.val<|.int j)):PEd X sd (.BinOp a op b pos) (.val (.int<|g i j)):=
 aEr ho ha hb trivial λσ F H v u Q S q1 q2 k=>by exact⟨i,j,q1,q2,k _ F H S (Same.refl _)<|by simp only[ResOk,Rep]⟩
def cN{g:Int->Int->Int}(ho:OpR X (Ar op) (rI C λi j=>.int<|g i j))(ha:PEd X sd a (.val<|.int i))(hb:PEd X sd b (.val<|.int j))(hc:C i j):PEd X sd (.BinOp a op b pos) (.val (.int<|g i j)):=
 aEr ho ha hb trivial λσ F H v u Q S q1 q2 k=>by exact⟨i,j,q1,q2,hc,k _ F H S (Same.refl _)<|by simp only[ResOk,Rep]⟩
def jB:OpR X (Ar .Mult) (rI IntMulOk λi j=>.int<|i*j):=opI λ_ _ _ _ _ _ _ hc q=>mul_int q hc
theorem nL:OpR X (Ar .FloorDiv) (rI (λ_ j=>0<j/\j.natAbs.log2<9000) λi j=>.int<|i / j):=opI λi j _ _ _ _ _ hc q=>by exact floordiv_int (by lia) (by rw[aAP i<|by lia];exact q) (.inl<|PyProof.noPylong_of_log2 hc.2)
def aKN{g:Int->Int->Bool}(ho:OpR X (AU op) (rI0 λi j=>.bl<|g i j))(ha:PEd X sd a (.val<|.int i))(hb:PEd X sd b (.val<|.int j))(hm:AY op b=false):PEd X sd (.Compare a [op] [b] pos) (.val (.bl<|g i j)):=
 sL ho ha hb trivial hm λσ F H v u Q S q1 q2 k=>by exact⟨i,j,q1,q2,k F H S<|Same.refl _⟩
def nC{g:Int->Int->Bool}(ho:OpR X (AU op) (rI0 λi j=>.bl<|g i j))(ha:PEd X sd a (.val<|.int i))(hb:PEd X sd b (.val<|.int j))(hm:AY op b=false):PTd X sd (.Compare a [op] [b] pos) (g i j):=
 mF ho ha hb trivial hm λσ F H v u Q S q1 q2 k=>by exact⟨i,j,q1,q2,k F H S<|Same.refl _⟩
noncomputable def flt:D->Option V
 |.non=>some .non
 |.bl b=>some<|.bl b
 |.int i=>some<|.int i
 |.str x=>some<|.str x
 |_=>none
def tU(h:flt d=some x)(q:Rep K H d v):v=x:=by
 cases d with
 |non=>rw[q];exact bW.inj h
 |bl=>rw[q];exact bW.inj h
 |int=>rw[q];exact bW.inj h
 |str=>rw[q];exact bW.inj h
 |tup=>cases h
 |lst=>cases h
 |dic=>cases h
 |dki=>cases h
 |any=>cases h
 |scr=>cases h
def cQ(ha:PEd X sd a (.val d1))(hb:PEd X sd b (.val d2))(h1:flt d1=some x)(h2:flt d2=some y)(hs:aQb x y=true)(hk:decide (x=y)=k):PTd X sd (.Compare a [.Eq] [b] pos) k:=
 mF aNw ha hb trivial (gR _) λσ F H v u Q S q1 q2 kk=>by have e1:=tU h1 q1;have e2:=tU h2 q2;subst e1 e2;exact⟨hs,by rw[hk];exact kk F H S<|Same.refl _⟩
def aLg(ha:PEd X sd a (.val d1))(hb:PEd X sd b (.val d2))(h1:flt d1=some x)(h2:flt d2=some y)(hs:aQb x y=true)(hk:(!decide (x=y))=k):PTd X sd (.Compare a [.NotEq] [b] pos) k:=
 mF aRr ha hb trivial (gR _) λσ F H v u Q S q1 q2 kk=>by have e1:=tU h1 q1;have e2:=tU h2 q2;subst e1 e2;exact⟨hs,by rw[hk];exact kk F H S<|Same.refl _⟩
def rY(ha:PEd X sd a (.val<|.int i))(hb:PEd X sd b (.val<|.int j)):PTd X sd (.Compare a [.Eq] [b] pos) (decide<|i=j):=cQ ha hb rfl rfl rfl (by rw[wJ,aDH])
def aPs:OpR X (AU .Is) (λx y H Q=>∃p q:Bool,x=.bl p/\y=.bl q/\Q (.bl<|p==q) H):=by intro pins s σ H x y v u Q I rx ry h;obtain⟨p,q,rfl,rfl,h⟩:=h;cases(rx);cases(ry);refine wpAny_is_plain (by cases p<;>cases q<;>rfl) ⟨.bl<|p==q,H,I,?_,h⟩;cases p<;>cases q<;>rfl
def aPS(ha:PEd X sd a (.val<|.bl p))(hb:PEd X sd b (.val<|.bl q)):PEd X sd (.Compare a [.Is] [b] pos) (.val (.bl<|p==q)):=
 sL aPs ha hb trivial (gR _) λσ F H v u Q S q1 q2 k=>by exact⟨p,q,q1,q2,k F H S<|Same.refl _⟩
theorem rG{n:Nat}(ha:PEd X sd a (.val<|.tup ds))(hb:PEd X sd b (.val<|.int (n:Int)))(hd:ds[n]? =some d)(hs:oK b):PEd X sd (.Subscript a b pos) (.val d):=.mk λσ F H S=>
 (aHe aKc fH fH hs).to ((ha σ F H S).imp fun v H1 ⟨F1,S1,s1,q1⟩=>(hb σ F1 H1 S1).imp fun u H2 ⟨F2,S2,s2,q2⟩=>by
  have q1:=Rep.mono s2 q1;obtain⟨p,xs,e1,hp,rl⟩:=q1;obtain⟨w,hw,rw'⟩:=rl.get hd
  exact⟨p,xs,(n),w,e1,q2,.of (S2.sub _ _ hp),aAX hw,F2,S2,s1.trans s2,rw'⟩)
theorem mI{n:Nat}(ha:PEd X sd a (.bor ds))(hb:PEd X sd b (.val<|.int (n:Int)))(hd:ds[n]? =some d)(hs:oK b):PEd X sd (.Subscript a b pos) (.val d):=.mk λσ F H S=>
 (aHe aFe fH fH hs).to ((ha σ F H S).imp fun v H1 ⟨F1,S1,s1,q1⟩=>(hb σ F1 H1 S1).imp fun u H2 ⟨F2,S2,s2,q2⟩=>by
  obtain⟨p,xs,e1,hp,rl,_⟩:=ResOk.keep (r:=.bor ds) trivial q1 S2 s2;obtain⟨w,hw,rw'⟩:=rl.get hd
  exact⟨p,xs,(n),w,e1,q2,.of hp,aAX hw,F2,S2,s1.trans s2,rw'⟩)
theorem aOV{n:Nat}(ha:PEd X sd a (.val<|.scr ns))(hb:PEd X sd b (.val<|.int (n:Int)))(hd:ns[n]? =some z)(hs:oK b):PEd X sd (.Subscript a b pos) (.val<|.int z):=.mk λσ F H S=>
 (aHe aFe fH fH hs).to ((ha σ F H S).imp fun v H1 ⟨F1,S1,s1,q1⟩=>(hb σ F1 H1 S1).imp fun u H2 ⟨F2,S2,s2,q2⟩=>by
  have q1:=Rep.mono (s2.trans S2.sub) q1;obtain⟨p,e1,hp⟩:=q1
  exact⟨p,_,(n),.int z,e1,q2,hp,aAX (by rw[aY,hd];rfl),F2,S2,s1.trans s2,by simp only[ResOk,Rep]⟩)
theorem lG{p:Pos}{id:String}(hc:mG X (.builtin id) rr)(hg:Gl X x)(hm:X.mg x=none)(hv:Aw x=some (.builtin id))(ha:PAd X sd (e::es) rs)(h:∀ (σ:St) (F H:Hp) (vs:List V) (Q:VK),StF X.K X.B₀ F H σ sd->RsOk X.K F H sd rs vs->(∀w F' H',StF X.K X.B₀ F' H' σ sd->Same F F'->ResOk X.K F' H' sd r w->Q w H')->rr vs H Q)(hn:x≠"__name__":=by decide) (hdb:(x==("__debug__":Str))=false:=by decide) (he:AE (e::es) X.env=(false,eval e X.env)::AE es X.env:=by rfl) (hpl:(BH pos<|AE es X.env).any (·.1)=false:=by rfl):PEd X sd (.Call (.Name x p) (e::es) [] pos) r:=.mk λσ F H S=>
 (sV hc hg hm hv zV hn hdb he hpl).to ((ha σ F H S).imp λvs H1 ⟨F1,S1,s1,q1⟩=>h σ F1 H1 vs _ S1 q1 λw F' H' S' s' q'=>⟨F',S',s1.trans s',q'⟩)
theorem aAe{p:Pos}(hc:mG X (.type T) rr)(hg:Gl X x)(hm:X.mg x=none)(hv:Aw x=some (.type T))(ha:PAd X sd (e::es) rs)(h:∀ (σ:St) (F H:Hp) (vs:List V) (Q:VK),StF X.K X.B₀ F H σ sd->RsOk X.K F H sd rs vs->(∀w F' H',StF X.K X.B₀ F' H' σ sd->Same F F'->ResOk X.K F' H' sd r w->Q w H')->rr vs H Q)(hn:x≠"__name__":=by decide) (hdb:(x==("__debug__":Str))=false:=by decide) (he:AE (e::es) X.env=(false,eval e X.env)::AE es X.env:=by rfl) (hpl:(BH pos<|AE es X.env).any (·.1)=false:=by rfl):PEd X sd (.Call (.Name x p) (e::es) [] pos) r:=.mk λσ F H S=>
 (aGJ hc hg hm hv zV hn hdb he hpl).to ((ha σ F H S).imp λvs H1 ⟨F1,S1,s1,q1⟩=>h σ F1 H1 vs _ S1 q1 λw F' H' S' s' q'=>⟨F',S',s1.trans s',q'⟩)
def aET(hg:Gl X "len")(hm:X.mg "len"=none)(ha:PEd X sd e (.val<|.tup ds))(hst:AE [e] X.env=(false,eval e X.env)::AE [] X.env:=by rfl):PEd X sd (.Call (.Name "len" p) [e] [] pos) (.val<|.int ds.length):=
 lG (he:=hst) oH hg hm PySem.boot_len (aC ha aN trivial hst) λσ F H vs Q S q k=>by
  cases q with
  |cons q1 q2=>cases q2;obtain⟨p,xs,rfl,hp,rl⟩:=q1;refine⟨p,xs,rfl,.inr (.of<|S.sub _ _ hp),k _ F H S (Same.refl _) ?_⟩;simp only[ResOk,Rep,rl.len]
def mU(hg:Gl X "len")(hm:X.mg "len"=none)(ha:PEd X sd e (.bor ds))(hst:AE [e] X.env=(false,eval e X.env)::AE [] X.env:=by rfl):PEd X sd (.Call (.Name "len" p) [e] [] pos) (.val<|.int ds.length):=
 lG (he:=hst) oH hg hm PySem.boot_len (aC ha aN trivial hst) λσ F H vs Q S q k=>by
  cases q with
  |cons q1 q2=>cases q2;obtain⟨p,xs,rfl,hp,rl,_⟩:=q1;refine⟨p,xs,rfl,.inl<|.of hp,k _ F H S (Same.refl _) ?_⟩;simp only[ResOk,Rep,rl.len]
def aMp(hg:Gl X "len")(hm:X.mg "len"=none)(ha:PEd X sd e (.val<|.scr ns))(hst:AE [e] X.env=(false,eval e X.env)::AE [] X.env:=by rfl):PEd X sd (.Call (.Name "len" p) [e] [] pos) (.val<|.int ns.length):=
 lG (he:=hst) oH hg hm PySem.boot_len (aC ha aN trivial hst) λσ F H vs Q S q k=>by
  cases q with
  |cons q1 q2=>cases q2;have q1:=Rep.mono S.sub q1;obtain⟨p,rfl,hp⟩:=q1;refine⟨p,_,rfl,.inl hp,k _ F H S (Same.refl _) ?_⟩;simp only[ResOk,Rep,aA]
noncomputable def tyD:D->BX
 |.non=>.type "NoneType"
 |.bl _=>.type "bool"
 |.int _=>.type "int"
 |.str _=>.type "str"
 |.tup _=>.type "tuple"
 |.lst _=>.type "list"
 |.dic=>.type "dict"
 |.dki _ _=>.type "dict"
 |.any _=>.type "dict"
 |.scr _=>.type "list"
def aRD(h:∀ns,d≠ .scr ns)(hA:∀G,d≠ .any G)(q:Rep K H d v):sC K H v (tyD d):=by
 cases d with
 |non=>subst q;exact .non
 |bl b=>subst q;exact .bl b
 |int b=>subst q;exact .int b
 |str b=>subst q;exact .str b
 |tup ds=>obtain⟨a,xs,rfl,h,_⟩:=q;exact .tup h
 |lst ds=>obtain⟨a,xs,rfl,h,_⟩:=q;exact .lst h
 |dic=>obtain⟨a,rfl,h⟩:=q;exact .dK<|.of h
 |dki ks ds=>obtain⟨a,xs,rfl,h,_⟩:=q;exact .dK<|.inr h
 |scr ns=>exact absurd rfl<|h ns
 |any G=>exact absurd rfl<|hA G
def aGe:mG X (.builtin "isinstance") (λxs H Q=>∃x t n k,xs=[x,.ty n]/\sC X.K H x t/\mO X.K t (.type n)=some k/\Q (.bl k) H):=by intro pins s σ H xs us Q I r h;obtain⟨x,t,n,k,rfl,ty,e,q⟩:=h;obtain⟨u,u',rfl,ru,ru'⟩:=aRp r;cases(ru');exact aGD I ru ty e λtk=>⟨.bl k,H,I.tok tk,rfl,q⟩
def aLT(hg:Gl X x)(hm:X.mg x=none)(hv:Aw x=some (.type n))(hn:x≠"__name__":=by decide)(hd:(x==("__debug__":Str))=false:=by decide):PE X (.Name x pos) (tC<|.ty n):=aLZ hg hm hv rfl hn hd
theorem aEC{p p2:Pos}(hg:Gl X "isinstance")(hm:X.mg "isinstance"=none)(hgx:Gl X x)(hmx:X.mg x=none)(hv:Aw x=some (.type n))(ha:PEd X sd e (.val d))(hd:∀ns,d≠ .scr ns)(hk:mO X.K (tyD d) (.type n)=some k) (hA:∀G,d≠ .any G:=by(intro _ h;cases h)) (hn:x≠"__name__":=by decide) (hdb:(x==("__debug__":Str))=false:=by decide)(he:AE (e::[.Name x p2]) X.env=(false,eval e X.env)::AE [.Name x p2] X.env:=by rfl) (hpl:(BH pos<|AE [.Name x p2] X.env).any (·.1)=false:=by rfl) (hs2:AE [.Name x p2] X.env=(false,eval (.Name x p2) X.env)::AE [] X.env:=by rfl):PEd X sd (.Call (.Name "isinstance" p) [e, .Name x p2] [] pos) (.val<|.bl k):=.mk λσ F H S=>
 (sV aGe hg hm boot_isinstance (fN fH (fN (aLT hgx hmx hv hn hdb) pa_nil hs2) he) (by decide) (by decide) he hpl).to ((ha σ F H S).imp λv H1 ⟨F1,S1,s1,q1⟩=>⟨v,tyD d,n,k,rfl,aRD hd hA<|Rep.mono S1.sub q1,hk,F1,S1,s1,by simp only[ResOk,Rep]⟩)
def cM(h:E.nx sd):PSd X sd [] E:=.mk λσ F H S=>pss_nil.to ⟨sd,F,S,Same.refl _,h⟩
theorem aI(h:PSd1 X sd st {E with nx:=λsd'=>PSd X sd' rest E}):PSd X sd (st::rest) E:=.mk λσ F H S=>
 (aIL aSc vH).to (wS.imp (h σ F H S) (fun σ' H' ⟨sd',F',S',s',q⟩=>(q σ' F' H' S').imp (fun σ2 H2 ⟨sd2,F2,S2,s2,q2⟩=>⟨sd2,F2,S2,s'.trans s2,q2⟩) (fun v H2 q2=>q2)
  (λσ2 H2 ⟨sd2,F2,S2,s2,q2⟩=>⟨sd2,F2,S2,s'.trans s2,q2⟩) λσ2 H2 ⟨sd2,F2,S2,s2,q2⟩=>⟨sd2,F2,S2,s'.trans s2,q2⟩) (λv H q=>q) (λσ H q=>q) λσ H q=>q)
def aX(h:PSd1 X sd st E):PSd X sd [st] E:=.mk λσ F H S=>(aLk aSc).to<|h σ F H S
theorem cW(h:PEd X sd e r)(hr:match r with | .bor _=>False|_=>True)(hE:E.rt r):PSd1 X sd (.Return (some e) pos) E:=.mk λσ F H S=>
 (aJK fH).to ((h σ F H S).imp fun v H' ⟨F',S',s',q⟩=>⟨r,⟨F',S'.base,S'.sub,S'.smp,by
  cases r with
  |val d=>exact q
  |own ds=>obtain⟨l,xs,a,b,c,d,_⟩:=q;exact⟨l,xs,a,b,c,d,by simp[dL]⟩
  |pr d ls=>obtain⟨t,l,xs,y,a,b,c,d,e,f,_⟩:=q;exact⟨t,l,xs,y,a,b,c,d,e,f,by simp[dL]⟩
  |ox G=>obtain⟨ls,nd,h,g⟩:=q;exact⟨ls,nd,λl hl=>⟨(h l hl).1,(h l hl).2.1,by simp[dL]⟩,g⟩
  |bor ds=>exact hr.elim⟩,hE⟩)
def mH(i:Nat)(hs:sd[i]? =some (.own l ds))(h:PE X (.Name x p) (kU i))(hE:E.rt (.own ds)):PSd1 X sd (.Return (some<|.Name x p) pos) E:=.mk λσ F H S=>
 (aJK h).to (by
  obtain⟨o,h1,h2,n,xs,q,rl⟩:=S.slots.get hs
  exact⟨.ref l,by rw[h1,h2],.own ds,⟨F,S.base,S.sub,S.smp,l,xs,rfl,n,q,rl,by simp[dL]⟩,hE⟩)
theorem fR{a o:List CD}(h:PTd X sd c k)(h1:k=true->PSd X sd a E)(h2:k=false->PSd X sd o E):PSd1 X sd (.If c a o pos) E:=.mk λσ F H S=>
 (aQP aKv vH vH).to ((h σ F H S).imp fun k' H' ⟨e,F',S',s'⟩=>by
  have up:∀ {sts:List CD},PSd X sd sts E->wSs X sts (lft X F E) σ H':=λh=>(h σ F' H' S').imp (λσ2 H2 ⟨sd2,F2,S2,s2,q2⟩=>⟨sd2,F2,S2,s'.trans s2,q2⟩) (λv H2 q2=>q2)
   (λσ2 H2 ⟨sd2,F2,S2,s2,q2⟩=>⟨sd2,F2,S2,s'.trans s2,q2⟩) λσ2 H2 ⟨sd2,F2,S2,s2,q2⟩=>⟨sd2,F2,S2,s'.trans s2,q2⟩
  subst e;cases k' with
  |true=>exact aKu (up<|h1 rfl)
  |false=>exact aKB (up (h2 rfl)))
def kN:∀ {sd:List Slot}{z:Slot} (i:Nat),(dL sd).Nodup->(∀l,l∈lN z->l∉dL sd\/(∃z',sd[i]? =some z'/\l∈lN z'))->(hz:(lN z).Nodup:=by simp[lN])->(dL<|sd.set i z).Nodup/\∀l,l∈dL (sd.set i z)->l∈dL sd\/l∈lN z
 |[],z,i,h,_,_=>⟨h,λl hl=>.inl hl⟩
 |z'::zs,z,0,h,hz,nz=>by
  obtain⟨n1,n2,n3⟩:=bD.mp<|h;refine⟨bD.mpr ⟨nz,n2,λa ha b hb e=>?_⟩,λl hl=>?_⟩
  ·subst e
   rcases hz a ha with y|⟨z2,e2,y⟩
   ·exact y<|aU _ hb
   ·have:=by simpa using e2
    subst this;exact n3 a y a hb rfl
  ·rcases aS.mp hl with y|y
   ·exact .inr y
   ·exact .inl<|aU _ y
 |z'::zs,z,i+1,h,hz,nz=>by
  obtain⟨n1,n2,n3⟩:=bD.mp<|h
  obtain ⟨i1,i2⟩:=kN i n2 (fun l hl=>by
   rcases hz l hl with y|⟨z2,e2,y⟩
   ·exact .inl λq=>y<|aU _ q
   ·exact .inr ⟨z2,by simpa using e2,y⟩) nz
  refine⟨bD.mpr ⟨n1,i1,λa ha b hb e=>?_⟩,λl hl=>?_⟩
  ·subst e
   rcases i2 a hb with y|y
   ·exact n3 a ha a y rfl
   ·rcases hz a y with y|⟨z2,e2,y⟩
    ·exact y<|bP _ ha
    ·have m:=dM.mpr ⟨z2,aQ (by simpa using e2),y⟩;exact n3 a ha a m rfl
  ·rcases aS.mp hl with y|y
   ·exact .inl<|bP _ y
   ·rcases i2 l y with y|y
    ·exact .inl<|aU _ y
    ·exact .inr y
def StF.set(S:StF K H₀ F H σ sd)(i:Nat)(q:Rep K F d v):StF K H₀ F H (σ.set i (some v)) (sd.set i<|.val d):=
 ⟨S.base,S.sub,S.smp,S.slots.set (z:=.val d) ⟨v,rfl,q⟩ i,(kN i S.nd λl e=>by simp[lN] at e).1⟩
def StF.setO(S:StF K H₀ F H σ sd)(i:Nat)(n:F l=none)(h:H l=some (.lst xs))(q:RepL K F ds xs)(no:l∉dL sd):StF K H₀ F H (σ.set i (some<|.ref l)) (sd.set i<|.own l ds):=
 ⟨S.base,S.sub,S.smp,S.slots.set (z:=.own l ds) ⟨rfl,n,xs,h,q⟩ i,(kN i S.nd λl' e=>by rw[aH.mp e];exact .inl no).1⟩
def jS(i:Nat)(hN:X.N.Nodup)(hi:X.N[i]? =some x)(hx:Loc X.env.scope x)(h:PEd X sd e (.val d))(hE:E.nx (sd.set i<|.val d))(hs:Af e (some<|.Name x p) pos.line X.env=pure false:=by rfl)(hf:X.fn x=true\/X.env.scope.names.lookup x=some .local:=by first|exact .inl rfl|exact .inr rfl|assumption):PSd1 X sd (.Assign [.Name x p] e pos) E:=.mk λσ F H S=>
 (qZ hN hi hx fH hs hf).to ((h σ F H S).imp λv H' ⟨F',S',s',q⟩=>⟨_,F',S'.set i q,s',hE⟩)
def sK(i:Nat)(hN:X.N.Nodup)(hi:X.N[i]? =some x)(hx:Loc X.env.scope x)(h:PEd X sd e (.own ds))(hE:∀l,E.nx (sd.set i<|.own l ds))(hs:Af e (some<|.Name x p) pos.line X.env=pure false:=by rfl)(hf:X.fn x=true\/X.env.scope.names.lookup x=some .local:=by first|exact .inl rfl|exact .inr rfl|assumption):PSd1 X sd (.Assign [.Name x p] e pos) E:=.mk λσ F H S=>
 (qZ hN hi hx fH hs hf).to ((h σ F H S).imp λv H' ⟨F',S',s',l,xs,e,n,q,rl,no⟩=>⟨_,F',by subst e;exact S'.setO i n q rl no,s',hE l⟩)
def Le:List Slot->List Slot->Prop
 |[],[]=>True
 |x::xs,y::ys=>(y=.un\/x=y)/\Le xs ys
 |_,_=>False
def Le.refl:∀ (sd:List Slot),Le sd sd
 |[]=>trivial
 |_::xs=>⟨.inr rfl,Le.refl xs⟩
def Le.own:∀ {sd sd':List Slot},Le sd sd'->(dL sd').Sublist (dL sd)
 |[],[],_=>List.Sublist.refl _
 |[],_::_,h=>h.elim
 |_::_,[],h=>h.elim
 |x::xs,y::ys,h=>by
  obtain⟨h1,h2⟩:=h;have ih:=Le.own h2
  rcases h1 with rfl|rfl
  ·exact ih.trans<|List.sublist_append_right _ _
  ·exact List.Sublist.append (List.Sublist.refl _) ih
def Le.slots:∀ {sd sd':List Slot}{σ:St},Le sd sd'->SlotsOk K F H sd σ->SlotsOk K F H sd' σ
 |[],[],_,_,h=>h
 |[],_::_,_,h,_=>h.elim
 |_::_,[],_,h,_=>h.elim
 |x::xs,y::ys,σ,h,q=>by
  obtain⟨h1,h2⟩:=h;obtain⟨o,r,rfl,a,b⟩:=q;refine⟨o,r,rfl,?_,Le.slots h2 b⟩
  rcases h1 with rfl|rfl
  ·trivial
  ·exact a
def StF.le(S:StF K H₀ F H σ sd)(h:Le sd sd'):StF K H₀ F H σ sd':=⟨S.base,S.sub,S.smp,h.slots S.slots,S.nd.sublist h.own⟩
def aBO(h:Le sd sd')(q:PSd X sd' sts E):PSd X sd sts E:=.mk λσ F H S=>q σ F H<|S.le h
theorem aDV(s:Same F₀ F)(h:wSs X sts (lft X F E) σ H):wSs X sts (lft X F₀ E) σ H:=
 h.imp (λσ2 H2 ⟨sd2,F2,S2,s2,q2⟩=>⟨sd2,F2,S2,s.trans s2,q2⟩) (λv H2 q2=>q2) (λσ2 H2 ⟨sd2,F2,S2,s2,q2⟩=>⟨sd2,F2,S2,s.trans s2,q2⟩) λσ2 H2 ⟨sd2,F2,S2,s2,q2⟩=>⟨sd2,F2,S2,s.trans s2,q2⟩
theorem gS:∀ (sd:List Slot) (i:Nat),Le sd (sd.set i .un)
 |[],_=>trivial
 |_::xs,0=>⟨.inl rfl,Le.refl xs⟩
 |_::xs,i+1=>⟨.inr rfl,gS xs i⟩
theorem iF:∀ {sd:List Slot}{i:Nat}{l:BZ}{z:Slot},(dL sd).Nodup->sd[i]? =some z->l∈lN z->l∉dL (sd.set i .un)
 |[],_,_,_,_,e,_=>by simp at e
 |y::zs,0,l,z,h,e,hl=>by
  have:=by simpa using e
  subst this;obtain⟨n1,n2,n3⟩:=bD.mp<|h;exact λhm=>n3 l hl l hm rfl
 |y::zs,i+1,l,z,h,e,hl=>by
  have e':=by simpa using e
  obtain⟨n1,n2,n3⟩:=bD.mp<|h;have ml:=dM.mpr ⟨_,aQ e',hl⟩;intro hm
  rcases aS.mp (hm) with q|q
  ·exact n3 l q l ml rfl
  ·exact iF n2 e' hl q
def pX(h:(dL sd).Nodup)(e:sd[i]? =some (.own l ds)):l∉dL (sd.set i .un):=iF h e<|cC l
def lH(h:σ[i]? =some o):σ.set i o=σ:=by obtain⟨hi,e⟩:=aE.mp h;rw[<-e];exact aDF hi
def jD(sd:List Slot)(i:Nat)(x y:Slot):(sd.set i x).set i y=sd.set i y:=by simp
def StF.wr(S:StF K H₀ F H σ sd)(hs:sd[i]? =some (.own l ds))(rl:RepL K F ds' xs'):StF K H₀ F (upd H l<|.lst xs') σ (sd.set i<|.own l ds'):=by
 obtain⟨o,h1,h2,n,xs,q,_⟩:=S.slots.get hs;have no:=pX S.nd hs;have S0:=S.le<|gS sd i;refine⟨S.base,λb u e=>?_,λb u e=>?_,?_,?_⟩
 ·rw[bH<|cD e n];exact S.sub _ _ e
 ·by_cases h:b=l
  ·subst h;rw[bX] at e;cases e;trivial
  ·rw[bH h] at e;exact S.smp _ _ e
 ·have q1:SlotsOk K F (upd H l<|.lst xs') (sd.set i .un) σ:=S0.slots.mono (Same.refl _) λl' hl=>by
   obtain⟨n',ys,q',_⟩:=S0.slots.owns hl;have hne:l'≠l:=λz=>no<|z▸hl
   exact⟨n',λys e=>by rw[bH hne];exact e⟩
  have q2:=q1.set (z:=.own l ds') ⟨rfl,n,xs',bX,rl⟩ i;rw[jD,lH<|by rw[h1,h2]] at q2;exact q2
 ·have:=kN (z:=Slot.own l ds') i S0.nd λl' e=>by rw[aH.mp e];exact .inl no
  rw[jD] at this;exact this.1
def iO(i:Nat)(hs:sd[i]? =some (.own l ds))(h:PSd X (sd.set i (.val<|.lst ds)) sts E):PSd X sd sts E:=.mk λσ F H S=>by obtain⟨o,h1,h2,n,xs,q,rl⟩:=S.slots.get hs;have S0:=S.le<|gS sd i;obtain⟨S1,s1⟩:=S0.freeze q n<|pX S.nd hs;have S2:=S1.set (d:=.lst ds) i (by exact⟨l,xs,rfl,bX,rl.mono s1⟩);rw[jD,lH<|by rw[h1,h2]] at S2;exact aDV s1<|h σ _ H S2
theorem oR(i:Nat){p ap cp:Pos}(hs:sd[i]? =some (.own l ds))(hx:PE X (.Name x p) (kU i))(h:PEd X sd e (.val d))(hl:ds.length<=1000)(hE:E.nx (sd.set i (.own l<|ds++[d])))(hst:AE (e::[]) X.env=(false,eval e X.env)::AE [] X.env:=by rfl)(hm:PE X (.Call (.Attribute (.Name x p) "append" ap) [e] [] cp) (tBM X.K "list" qB (kU i)<|lV (wE X e) vM):=by exact aCM hW nF nG uL (pv _) (fN fH pa_nil))(hsw:Af (.Call (.Attribute (.Name x p) "append" ap) [e] [] cp) none pos.line X.env=pure false:=by rfl):PSd1 X sd (.Expr (.Call (.Attribute (.Name x p) "append" ap) [e] [] cp) pos) E:=.mk λσ F H S=>
 (qC hm hsw).to (by
  obtain⟨o,h1,h2,n,xs,q,rl⟩:=S.slots.get hs;refine⟨.ref l,by rw[h1,h2],.inl ⟨rfl,xs,.of q⟩,(h σ F H S).imp λv H1 ⟨F1,S1,s1,q1⟩=>?_⟩;obtain⟨o',h1',h2',n',xs',q',rl'⟩:=S1.slots.get hs
  exact⟨l,xs',v,rfl,rfl,q',by rw[rl'.len];exact gG hl,_,F1,S1.wr hs (rl'.app (.one q1)),s1,hE⟩)
theorem xF(i:Nat){p ap cp:Pos}(hs:sd[i]? =some (.own l ds))(hx:PE X (.Name x p) (kU i))(h:PEd X sd e (.val<|.lst ds2))(hl:ds.length+ds2.length<=1000)(hE:E.nx (sd.set i (.own l<|ds++ds2)))(hst:AE (e::[]) X.env=(false,eval e X.env)::AE [] X.env:=by rfl)(hm:PE X (.Call (.Attribute (.Name x p) "extend" ap) [e] [] cp) (tBM X.K "list" aEK (kU i)<|lV (wE X e) vM):=by exact aCM hW PySem.F.slot_list_extend PySem.F.type_list_extend aGF (pv _) (fN fH pa_nil))(hsw:Af (.Call (.Attribute (.Name x p) "extend" ap) [e] [] cp) none pos.line X.env=pure false:=by rfl):PSd1 X sd (.Expr (.Call (.Attribute (.Name x p) "extend" ap) [e] [] cp) pos) E:=.mk λσ F H S=>
 (qC hm hsw).to (by
  obtain⟨o,h1,h2,n,xs,q,rl⟩:=S.slots.get hs;refine⟨.ref l,by rw[h1,h2],.inl ⟨rfl,xs,.of q⟩,(h σ F H S).imp λv H1 ⟨F1,S1,s1,q1⟩=>?_⟩;obtain⟨o',h1',h2',n',xs',q',rl'⟩:=S1.slots.get hs;obtain⟨b,zs,rfl,hb,rb⟩:=q1
  exact⟨l,b,xs',zs,rfl,rfl,q',S1.sub _ _ hb,by rw[rl'.len,rb.len];exact cX (gG hl),_,F1,S1.wr hs (rl'.app rb),s1,hE⟩)
def spC(K:aB)(n:Nat)(C:List D->R->Prop):Sp:=λvs H Q _=>vs.length=n/\Smp H/\∃ds r,RepL K H ds vs/\C ds r/\∀v H',aHh K H H' r v->Q v H'
def spF(K:aB)(n:Nat)(C:List D->R->Prop):Sp:=λvs H Q _=>vs.length=n/\Smp H/\∃F ds r,Same F H/\RepL K F ds vs/\C ds r/\∀v F2 F3 H',Same F F2->Same F2 F3->Same F3 H'->Same H H'->Smp H'->(∀b o,H b=some o->F b=none->F3 b=none)->ResOk K F2 F3 [] r v->Q v H'
def sM(F H:Hp):Hp:=λb=>match F b with
 |some o=>some o
 |none=>H b
def tO:Same F (sM F H):=λb o e=>by unfold sM;rw[e]
def tM{b:BZ}(h:F b=none):sM F H b=H b:=by unfold sM;rw[h]
def FnOk.framed(G:FnOk P w K mg base CX0 k f fd ps (spC K n C)):FnOk P w K mg base CX0 k f fd ps (spF K n C):=by
 refine⟨λvs H Q E h=>?_,λA outer s H args us vs Q E hr e0 hb rv h=>?_⟩
 ·obtain⟨hl,sm,F,ds,r,sF,rl,c,_⟩:=h;exact G.len vs F (λ_ _=>True) E ⟨hl,sm.sub sF,ds,r,rl,c,λ_ _ _=>trivial⟩
 ·obtain⟨hl,sm,F,ds,r,sF,rl,c,q⟩:=h;have e1:aMV P w K mg base A outer s F:=⟨e0.frames,e0.mod,λb o e=>⟨(e0.bs b o e).1,sF.free (e0.bs b o e).2⟩,e0.bsz,e0.funs,λb hb=>sF.free<|e0.frf b hb,λb o e=>(e0.hok b o<|sF b o e).smp (sm b o<|sF b o e),e0.bare⟩;refine BK (G.run A outer s F args us vs (λv F3=>aHh K F F3 r v) E hr e1 hb rv ⟨hl,sm.sub sF,ds,r,rl,c,λv H' z=>z⟩) λrr s' hrr=>?_
  cases rr with
  |error e=>exact hrr
  |ok fl=>
   cases fl with
   |ret u=>
    obtain⟨v,F3,ho,ha,un,hk,ru,F2,s1,s2,sm3,res⟩:=hrr
    have keepF:∀b o,H b=some o->F b=none->F3 b=none:=λb o e n=>by
     cases g:s.heap.get? b with
     |none=>
      exfalso;have ob:=e0.hok b o e;have z:=sm b o e;cases o with
      |lst xs=>obtain⟨_,_,_,_,g'⟩:=ob;rw[g] at g';cases g'
      |tup xs=>obtain⟨_,_,_,oo,g',_⟩:=ob;rw[g] at g';cases g'
      |dK kvs=>obtain⟨_,_,_,_,oo,_,_,g',_⟩:=ob;rw[g] at g';cases g'
      |frz o2 u2=>obtain⟨g',_⟩:=ob;rw[g] at g';cases g'
      |ext φ=>obtain⟨_,⟨oo,g'⟩,_⟩:=ob;rw[g] at g';cases g'
      |_=>exact z
     |some ob=>exact un.free b ob g n<|by simp
    have keepO:∀b o,H b=some o->F b=none->∀ob,s.heap.get? b=some ob->s'.heap.get? b=some ob:=λb o e n ob g=>un.keep b ob g n (λhb=>by have:=e0.frf b hb;rw[e] at this;cases this)<|by simp
    have sH:Same H (sM F3 H):=λb o e=>by
     cases g:F b with
     |none=>rw[tM<|keepF b o e g];exact e
     |some o'=>have:=sF b o' g;rw[e] at this;cases this;exact tO _ _ (s2 _ _<|s1 _ _ g)
    have smM:Smp (sM F3 H):=λb o e=>by
     cases g:F3 b with
     |some o'=>have:=tO (H:=H) b o' g;rw[e] at this;cases this;exact sm3 b o g
     |none=>rw[tM g] at e;exact sm b o e
    refine⟨v,sM F3 H,ho,ha,⟨λb o g n hb hx=>un.keep b o g (sF.free n) hb hx,λb o g n hb hx=>un.slot b o g (sF.free n) hb hx,λb o g n hx=>?_,un.there,λb xs e=>sH _ _ e,λb o u e=>sH _ _ e,λb ps e=>⟨#[],by rw[sH _ _ e];simp⟩⟩,λb o e=>?_,ru,?_⟩
    ·rw[tM<|un.free b o g (sF.free n) hx];exact n
    ·have z:=smM b o e;cases g:F3 b with
     |some o'=>have:=tO (H:=H) b o' g;rw[e] at this;cases this;exact(hk b o g).smp z
     |none=>
      rw[tM g] at e
      have n:F b=none:=by
       cases g2:F b with
       |none=>rfl
       |some o2=>rw[s2 _ _<|s1 _ _ g2] at g;cases g
      have st:=(e0.hok b o e).smp (F:=λ_=>none) z
      have:ObjOk P w (fun _=>none) s'.heap b o:=st.stay (fun b2 u hb2 gg=>by
       rcases hb2 with rfl|hb2
       ·exact keepO _ o e n u gg
       ·cases hb2) (λb2 hb2=>nomatch hb2) λb2 xs hb2=>nomatch hb2
      exact this.smp z
    ·exact q v F2 F3 (sM F3 H) s1 s2 tO sH smM keepF res
   |_=>exact hrr
structure bA(P:AF)(w:AL)(K:aB)(mg:Str->Option BX)(base:CB)(x:Str)(k n:Nat)(C:List D->R->Prop):Prop where
 ex:∃ (f:BZ) (fd:Al) (ps:List Str),mg x=some (.ref f)/\gM K (.ref f)=true/\Binds K fd ps []/\FnOk P w K mg base CX0 k f fd ps (spC K n C)
theorem aMB{p:Pos}(G:bA X.prog X.w X.K X.mg X.base x k n C)(hr:Room k X.A)(hg:Gl X x)(ha:PAd X sd (e::es) (ds.map R.val))(hc:C ds r)(hb:match r with | .bor _=>False|_=>True)(hn:ds.length=n)(hdb:(x==("__debug__":Str))=false:=by decide) (he:AE (e::es) X.env=(false,eval e X.env)::AE es X.env:=by rfl) (hpl:(BH pos<|AE es X.env).any (·.1)=false:=by rfl):PEd X sd (.Call (.Name x p) (e::es) [] pos) r:=.mk λσ F H S=>by
 obtain⟨f,fd,ps,hm,hk,bd,G⟩:=G.ex;refine(aFc (FnOk.framed G) hr hg hm hk bd .nil aOc zV hdb he hpl).to<|(ha σ F H S).imp λvs H1 ⟨F1,S1,s1,q1⟩=>?_;have rl:=q1.vals;refine⟨by rw[dD,rl.len];exact hn,S1.smp,F1,ds,r,S1.sub,by rw[dD];exact rl,hc,λv F2 F3 H' s2 s3 s4 sH sm kp res=>?_⟩
 have no:∀l,l∈dL sd->F2 l=none/\F3 l=none:=λl hl=>by obtain⟨n1,xs,q,_⟩:=S1.slots.owns hl;have n3:=kp l _ q n1;exact⟨s3.free n3,n3⟩
 refine⟨F2,⟨λb o e=>s2 _ _<|S1.base _ _ e,s3.trans s4,sm,S1.slots.mono s2 λl hl=>⟨(no l hl).1,λys e=>sH _ _ e⟩,S1.nd⟩,s1.trans s2,?_⟩;cases r with
 |val d=>exact res
 |own ds'=>obtain⟨l,xs,e,n,q,rl',_⟩:=res;exact⟨l,xs,e,n,s4 _ _ q,rl',λhl=>by rw[(no l hl).2] at q;cases q⟩
 |pr d ls=>obtain⟨t,l,xs,y,e,f,g,n,q,rl',_⟩:=res;exact⟨t,l,xs,y,e,f,g,n,s4 _ _ q,rl',λhl=>by rw[(no l hl).2] at q;cases q⟩
 |ox G=>obtain⟨ls,nd,h,g⟩:=res;refine⟨ls,nd,λl hl=>?_,λF' H'' sF k=>g F' H'' sF λl hl ob q=>k l hl ob<|s4 _ _ q⟩;obtain⟨n,⟨ob,q,w⟩,_⟩:=h l hl;exact⟨n,⟨ob,s4 _ _ q,w⟩,λhm=>by rw[(no l hm).2] at q;cases q⟩
 |bor ds'=>exact hb.elim
noncomputable def R.toD:R->D
 |.val d=>d
 |.own ds=>.lst ds
 |.bor ds=>.lst ds
 |.pr d ls=>.tup [d,.lst ls]
 |.ox _=>.non
noncomputable def init(n:Nat)(ds:List D):List Slot:=ds.map Slot.val++gA (n-ds.length) .un
theorem aCF:∀n:Nat,SlotsOk K F H (gA n .un) (gA n none)
 |0=>rfl
 |n+1=>⟨none,gA n none,rfl,trivial,aCF n⟩
theorem qX{m n:Nat}:∀ {ds:List D}{vs:List V},RepL K F ds vs->SlotsOk K F H (ds.map Slot.val++gA n .un) (vs.map some++gA n none)
 |[],vs,r=>by subst r;exact aCF n
 |d::ds,vs,r=>by obtain⟨y,ys,rfl,a,rl⟩:=r.uncons;exact⟨some y,_,rfl,⟨y,rfl,a⟩,qX (m:=m) rl⟩
theorem qT(n:Nat):∀ds:List D,dL (ds.map Slot.val++gA n .un)=[]
 |[]=>by
  induction n with
  |zero=>rfl
  |succ n ih=>exact ih
 |_::ds=>qT n ds
def aKe(F:Fun K x qual st f fd)(S:oN N ps (bN st))(body:∀ (cdv:BX) (A:CA) (outer:List Env) (s:BY) (H:Hp) (E:XK),Room k (A.deeper (envOfC qual (bN st) s.heap.objs.size f cdv))→∀ds r,ds.length=ps.length→C ds r→PSd (mJ CX0 P w K mg base N qual (bN st) f cdv A outer s H E).nox (init N.length ds) (gU st) {nx:=λ_=>r=.val .non,rt:=λr'=>r'=r}):FnOk P w K mg base CX0 (k+1) f fd ps (spC K ps.length C):=by
 refine F.ok S (λvs H Q E h=>h.1) λcdv A outer s H vs Q E hr h=>?_
 obtain⟨hl,sm,ds,r,rl,c,q⟩:=h;have hds:ds.length=ps.length:=by rw[<-rl.len];exact hl
 refine⟨_,vH,?_⟩;have hlen:N.length-vs.length=N.length-ds.length:=by rw[rl.len]
 have S0:StF K H H H (L2.start N vs) (init N.length ds):=by
  refine⟨Same.refl _,Same.refl _,sm,?_,?_⟩
  ·unfold L2.start init;rw[hlen];exact qX (m:=0) rl
  ·unfold init;rw[qT];exact dS
 refine(body cdv A outer s H E hr ds r hds c (L2.start N vs) H H S0).imp ?_ ?_ (λ_ _ ⟨_,_,_,_,z⟩=>z) λ_ _ ⟨_,_,_,_,z⟩=>z
 ·rintro σ' H' ⟨sd',F',S',s',e⟩;subst e;exact q .non H' ⟨F',S'.base,S'.sub,S'.smp,by simp only[ResOk,Rep]⟩
 ·rintro v H' ⟨r',ro,e⟩;subst e;exact q v H' ro
def aPl(F:Fun K x qual st f fd)(S:oN N ps (bN st))(hm:mg x=some (.ref f)) (hb:∀ (kV doc pm:BX) (an:Option BZ) (cdv ct:BX) (us:List BX),us.length=ps.length->bindArgs (fV x qual (lE st) (gU st) (bN st) .none kV doc pm an cdv ct) ⟨us,[]⟩=pure (ps.zip us))(body:∀ (cdv:BX) (A:CA) (outer:List Env) (s:BY) (H:Hp) (E:XK),Room k (A.deeper (envOfC qual (bN st) s.heap.objs.size f cdv))→∀ds r,ds.length=ps.length→C ds r→PSd (mJ CX0 P w K mg base N qual (bN st) f cdv A outer s H E).nox (init N.length ds) (gU st) {nx:=λ_=>r=.val .non,rt:=λr'=>r'=r}):bA P w K mg base x (k+1) ps.length C:=
 ⟨f,fd,ps,hm,F.kp,F.binds hb,aKe F S body⟩
variable {tg iter:Expr}
def ItD(K:aB)(F₁:Hp)(P:Hp->Hp->Prop)(J:It)(ds:List D):Prop:=∀ (F H:Hp),Same F₁ F->Same F H->Smp H->P F H->∀i,(i<ds.length->J.go i H)/\(ds.length<=i->J.stop i H)/\
 ∀x H' d,ds[i]? =some d->J.yld i H x H'->∃F',Same F F'/\Rep K F' d x/\∀H₀ σ sd,StF K H₀ F H σ sd->StF K H₀ F' H' σ sd
abbrev PT0:Hp->Hp->Prop:=λ_ _=>True
structure PId(X:Cx)(sd:List Slot)(P:Hp->Hp->Prop)(tg iter:Expr)(ds:List D):Prop where
 run:∀ (σ:St) (F H:Hp),StF X.K X.B₀ F H σ sd->
 wI X tg iter σ H λJ H1=>∃F1,StF X.K X.B₀ F1 H1 σ sd/\Same F F1/\ItD X.K F1 P J ds
instance {X:Cx}{sd:List Slot}{P:Hp→Hp→Prop}{tg iter:Expr}{ds:List D}:CoeFun (PId X sd P tg iter ds) (fun _=>∀ (σ:St) (F H:Hp),StF X.K X.B₀ F H σ sd→
 wI X tg iter σ H λJ H1=>∃F1,StF X.K X.B₀ F1 H1 σ sd/\Same F F1/\ItD X.K F1 P J ds):=⟨PId.run⟩
def _root_.L2.PI.to{wi:TI}{R:It->Hp->Prop}(h:PI X tg iter wi)(q:wi σ H R):wI X tg iter σ H R:=λpins s I=>h pins s σ H R I q
theorem fK(h:PEd X sd iter (.val<|.lst ds)):PId X sd PT0 tg iter ds:=.mk λσ F H S=>
 (aLn fH).to ((h σ F H S).imp fun v H1 ⟨F1,S1,s1,q1⟩=>by
  obtain⟨l,xs,rfl,hl,rl⟩:=q1;refine⟨l,rfl,⟨xs,.of<|S1.sub _ _ hl⟩,F1,S1,s1,λF' H' sF sH sm _ i=>?_⟩;have hl':=sH _ _<|sF _ _ hl;refine⟨λhi=>⟨xs,xs[i]'(by rw[rl.len];exact hi),.of hl',by simp[rl.len,hi]⟩,λhi=>⟨xs,.of hl',by rw[rl.len];exact hi⟩,λx H2 d hd y=>?_⟩;obtain⟨rfl,y⟩:=y;obtain⟨v,hv,rv⟩:=rl.get hd;have:=y xs<|.of hl';rw[hv] at this;cases this
  exact⟨F',Same.refl _,rv.mono sF,λ_ _ _ S=>S⟩)
theorem lD(h:PEd X sd iter (.val<|.tup ds)):PId X sd PT0 tg iter ds:=.mk λσ F H S=>
 (aOZ fH).to ((h σ F H S).imp fun v H1 ⟨F1,S1,s1,q1⟩=>by
  simp only[ResOk,Rep] at q1;obtain⟨l,xs,rfl,hl,rl⟩:=q1;refine⟨l,rfl,⟨xs,.of<|S1.sub _ _ hl⟩,F1,S1,s1,λF' H' sF sH sm _ i=>?_⟩;have hl':=sH _ _<|sF _ _ hl;refine⟨λhi=>⟨xs,xs[i]'(by rw[rl.len];exact hi),.of hl',by simp[rl.len,hi]⟩,λhi=>⟨xs,.of hl',by rw[rl.len];exact hi⟩,λx H2 d hd y=>?_⟩;obtain⟨rfl,y⟩:=y;obtain⟨v,hv,rv⟩:=rl.get hd;have:=y xs<|.of hl';rw[hv] at this;cases this
  exact⟨F',Same.refl _,rv.mono sF,λ_ _ _ S=>S⟩)
noncomputable def kR(lo:Int)(n:Nat):List D:=(bI n).map λ(k:Nat)=>D.int<|lo+(k:Int)
def gJ(lo:Int)(n:Nat):(kR lo n).length=n:=by simp[kR]
def iU{lo:Int}(h:(kR lo n)[i]? =some d):i<n/\d=.int (lo+(i:Int)):=by
 unfold kR at h;rw[aY] at h
 by_cases hi:i<n
 ·rw[rO hi] at h;exact⟨hi,(bW.inj h).symm⟩
 ·rw[cV<|by simpa using hi] at h;cases h
def aGC{lo:Int}:ItD K F₁ PT0 (Itr lo n) (kR lo n):=λF H _ _ _ _ i=>by refine⟨λhi=>by rw[gJ] at hi;exact hi,λhi=>by rw[gJ] at hi;exact hi,λx H' d hd y=>?_⟩;obtain⟨rfl,rfl⟩:=y;obtain⟨_,rfl⟩:=iU hd;exact⟨F,Same.refl _,by simp only[Rep],λ_ _ _ S=>S⟩
theorem jF{n:Nat}(hg:Gl X "range")(hm:X.mg "range"=none)(h:PEd X sd a (.val<|.int (n:Int)))(hn:(n:Int)<2^62)(hs:AE [a] X.env=[(false,eval a X.env)]:=by rfl):PId X sd PT0 tg (.Call (.Name "range" p) [a] [] pos) (kR 0 n):=.mk λσ F H S=>
 (aGK hg hm zV hs).to ((aC h aN trivial hs σ F H S).imp fun vs H1 ⟨F1,S1,s1,q1⟩=>by
  cases q1 with
  |cons q1 q2=>
   cases q2;subst q1
   exact⟨(n),rfl,by omega,hn,F1,S1,s1,by exact aGC⟩)
structure PGd(X:Cx)(sd:List Slot)(tg:Expr)(d:D)(sd':List Slot):Prop where
 run:∀ (σ:St) (F H:Hp) (v:V),StF X.K X.B₀ F H σ sd->Rep X.K F d v->wG X tg v σ H λσ' H'=>∃F',StF X.K X.B₀ F' H' σ' sd'/\Same F F'
instance {X:Cx}{sd:List Slot}{tg:Expr}{d:D}{sd':List Slot}:CoeFun (PGd X sd tg d sd') (λ_=>∀ (σ:St) (F H:Hp) (v:V),StF X.K X.B₀ F H σ sd->Rep X.K F d v->wG X tg v σ H λσ' H'=>∃F',StF X.K X.B₀ F' H' σ' sd'/\Same F F'):=⟨PGd.run⟩
def _root_.L2.PG.to{t:TG}{Q:St->Hp->Prop}(h:PG X tg t)(q:t v σ H Q):wG X tg v σ H Q:=λpins s u I r=>h pins s σ H v u Q I r q
def aHI(j:Nat)(h:PG X tg (aDI j)):PGd X sd tg d (sd.set j<|.val d):=.mk λσ F H v S q=>h.to ⟨F,S.set j q,Same.refl _⟩
def gNs:List Nat->TGs
 |[]=>aSa
 |j::js=>aOd (aDI j)<|gNs js
noncomputable def aDS:List Slot->List Nat->List D->List Slot
 |sd,j::js,d::ds=>aDS (sd.set j<|.val d) js ds
 |sd,_,_=>sd
theorem aJk{Q:St->Hp->Prop}:∀ {js:List Nat}{ds:List D}{vs:List V}{σ:St}{sd:List Slot},js.length=ds.length->RepL K F ds vs->StF K H₀ F H σ sd->(∀σ',StF K H₀ F H σ' (aDS sd js ds)->Q σ' H)->gNs js vs σ H Q
 |[],[],vs,σ,sd,_,r,S,k=>by exact⟨r,k σ S⟩
 |j::js,d::ds,vs,σ,sd,hl,r,S,k=>by obtain⟨y,ys,rfl,q,rl⟩:=r.uncons;exact⟨y,ys,rfl,aJk (by simpa using hl) rl (S.set j q) k⟩
 |[],_::_,_,_,_,hl,_,_,_=>by simp at hl
 |_::_,[],_,_,_,hl,_,_,_=>by simp at hl
def iD(hc:X.calm=true)(h:PGs X es (gNs js))(hl:js.length=ds.length)(hn:(BR es X.env).length=ds.length)(hst:(BR es X.env).findIdx? (·.1)=none:=by rfl):PGd X sd (.Tuple es k pos) (.tup ds) (aDS sd js ds):=.mk λσ F H v S q=>
 (aOT hc h hn hst).to (by
  obtain⟨a,xs,rfl,ha,rl⟩:=q
  exact⟨a,xs,rfl,.of (S.sub _ _ ha),rl.len,aJk hl rl S λσ' S'=>⟨F,S',Same.refl _⟩⟩)
theorem aMO(h:PEd X sd e (.val d))(hg:PGd X sd tg d sd')(hE:E.nx sd')(hs:swapsWithSole [tg] e pos.line X.env=pure false:=by rfl)(hw:swappedStores [tg] e X.env=pure none:=by rfl)(h1:(BR [tg] X.env).map (·.2)=[assign tg X.env]:=by rfl):PSd1 X sd (.Assign [tg] e pos) E:=.mk λσ F H S=>
 (aPg fH aQv hs hw h1).to ((h σ F H S).imp λv H1 ⟨F1,S1,s1,q1⟩=>(hg σ F1 H1 v S1 q1).imp λσ' H' ⟨F',S',s'⟩=>⟨sd',F',S',s1.trans s',hE⟩)
theorem vX(Sd Td:Nat->List Slot)(hi:PId X sd P tg iter ds)(h0:Le sd (Sd 0))(hg:∀k d,ds[k]? =some d->PGd X (Sd k) tg d (Td k))(hb:∀k d,ds[k]? =some d->PSd X (Td k) body {E with nx:=λsd'=>Le sd' (Sd<|k+1),ct:=λsd'=>Le sd' (Sd<|k+1),bk:=E.nx}) (hE:E.nx (Sd ds.length)) (hP:∀k σ F H,StF X.K X.B₀ F H σ (Sd k)->P F H:=by intros;trivial)(hc:X.calm=true:=by rfl) (hp:PassesOwn (AD X.prog X.w) X.A X.env X.xe:=by exact PassesOwn.never) (hs:∀x,BP iter X.env x=pure x:=by intro _;rfl):PSd1 X sd (.For tg iter body [] pos) E:=.mk λσ F H S=>
 (aJC hp hc aSf aQv vH hs).to (by
  intro pins s I;refine thn (hi σ F H S pins s I) λv s1 h1=>thn h1 λitv s2 h2=>?_
  obtain⟨it,fp,tn,J,H2,e,I2,T,st2,f2,F1,S1,s1',itd⟩:=h2;refine⟨it,fp,tn,J,H2,e,I2,T,st2,f2,?_⟩;refine⟨λi m σ' H'=>m=ds.length-i/\i<=ds.length/\∃F',StF X.K X.B₀ F' H' σ' (Sd i)/\Same F1 F',⟨ds.length,by simp,bM _,F1,S1.le h0,Same.refl _⟩,?_⟩;rintro i m σ' H' ⟨rfl,hil,F',S',s'⟩;obtain⟨g1,g2,g3⟩:=itd F' H' s' S'.sub S'.smp (hP _ _ _ _ S') i
  by_cases hlt:i<ds.length
  ·refine .inr ⟨g1 hlt,λσ2 H2=>∃F2,StF X.K X.B₀ F2 H2 σ2 (Sd<|i+1)/\Same F1 F2,λσ2 H2 ⟨F2,S2,s2⟩=>⟨ds.length-(i+1),by lia,rfl,hlt,F2,S2,s2⟩,λx H2 y=>?_⟩;have hd:ds[i]? =some ds[i]:=by simp[hlt]
   obtain⟨F2,s2,rp,up⟩:=g3 x H2 ds[i] hd y;refine(hg i _ hd σ' F2 H2 x (up _ _ _ S') rp).imp λσ3 H3 ⟨F3,S3,s3⟩=>?_
   have base:=(s'.trans s2).trans s3;refine(hb i _ hd σ3 F3 H3 S3).imp ?_ ?_ ?_ ?_
   ·rintro σ4 H4 ⟨sd4,F4,S4,s4,le⟩;exact⟨F4,S4.le le,base.trans s4⟩
   ·exact λv H4 q=>q
   ·rintro σ4 H4 ⟨sd4,F4,S4,s4,q⟩;exact⟨sd4,F4,S4,(s1'.trans base).trans s4,q⟩
   ·rintro σ4 H4 ⟨sd4,F4,S4,s4,le⟩;exact⟨F4,S4.le le,base.trans s4⟩
  ·have e:i=ds.length:=by lia
   subst e
   exact .inl ⟨g2 (aK _),Sd ds.length,F',S',s1'.trans s',hE⟩)
def Inv.retrack(I0:Inv X pins σ H s):∀ (ls:List BZ),ls.Nodup->(∀l∈ls,F l=none/\(∃xs,H l=some xs/\Wr l xs)/\∀o,s.heap.get? l=some o->s'.heap.get? l=some o)->Inv X pins σ F s'->Inv X pins σ (λb=>if b∈ls then H b else F b) s'
 |[],_,_,I=>by simpa using I
 |l::ls,nd,h,I=>by
  obtain⟨nl,nd'⟩:=bE.mp nd;have J:=Inv.retrack I0 ls nd' (λl' hl=>h l'<|aF _ hl) I;obtain⟨n,⟨xs,hx,wx⟩,kp⟩:=h l aG
  have e:(λb=>if b∈l::ls then H b else F b)=upd (λb=>if b∈ls then H b else F b) l xs:=by
   funext b;unfold upd
   by_cases hb:b=l
   ·subst hb;simp[hx]
   ·simp[hb]
  rw[e];have n':(λb=>if b∈ls then H b else F b) l=none:=by simp[nl,n]
  have ob:=I0.hok l _ hx;clear e;generalize (λb=>if b∈ls then H b else F b)=G at J n' ⊢;refine⟨J.ok,J.os,J.bare,⟨J.base.keep,J.base.slot,λb u g n0 hx0=>?_,J.base.there,λb ys g=>?_,λb u ys g=>?_,λb ps g=>?_⟩,J.loc,J.cell,?_,λx c g=>?_,λp hp=>?_,J.hok.track n' ?_,J.len⟩
  ·have hb:b≠l:=λq=>by subst q;have:=I0.base.free b u g n0 hx0;rw[hx] at this;cases this
   rw[bH hb];exact J.base.free b u g n0 hx0
  ·have q:=J.base.tups b ys g;rw[bH<|cD q n'];exact q
  ·have q:=J.base.frzs b u ys g;rw[bH<|cD q n'];exact q
  ·obtain⟨m,q⟩:=J.base.tbls b ps g;exact⟨m,by rw[bH<|cD q n'];exact q⟩
  ·rw[bH λq=>by have:=I0.free;rw[q,hx] at this;cases this];exact J.free
  ·rw[bH λq=>by have:=I0.freeC x c g;rw[q,hx] at this;cases this];exact J.freeC x c g
  ·obtain⟨g,n0,rr⟩:=J.pin p hp;refine⟨g,?_,rr⟩;rw[bH λq=>by have:=(I0.pin p hp).2.1;rw[q,hx] at this;cases this];exact n0
  ·cases xs with
   |lst xs=>obtain⟨z,its,nn,rv,ho⟩:=ob;exact⟨z,its,nn,rv,kp _ ho⟩
   |dK kvs=>obtain⟨z,y,vs,r,o,es,ep,e,c⟩:=ob;exact⟨z,y,vs,r,o,es,ep,kp _ e,c⟩
   |ext φ=>obtain⟨h1,⟨o1,h2⟩,h3⟩:=ob;exact⟨h3 _ _ h1 kp,⟨o1,kp _ h2⟩,h3⟩
   |_=>exact wx.elim
def aOD(wx:Wr l xs)(q:H l=some xs)(ok:ObjOk P w H h l xs):∃ys o,H l=some ys/\Wr l ys/\h.get? l=some o/\∀v,o.data≠ .cell v:=by
 cases xs with
 |lst xs=>obtain⟨_,its,nn,_,ho⟩:=ok;exact⟨_,_,q,trivial,ho,λv z=>by cases z⟩
 |dK kvs=>obtain⟨_,_,_,_,o,es,ep,e,_,d,_⟩:=ok;exact⟨_,_,q,trivial,e,λv z=>by rw[d] at z;cases z⟩
 |ext φ=>obtain⟨o,e,n⟩:=id wx;subst e;exact⟨_,o,q,wx,ok.1,n⟩
 |_=>exact wx.elim
theorem aHG(S:StF X.K X.B₀ F H σ sd)(hr:match r with | .bor _=>False|_=>True)(h:wE X e σ F λv F3=>aHh X.K F F3 r v):wE X e σ H λv H'=>∃F',StF X.K X.B₀ F' H' σ sd/\Same F F'/\ResOk X.K F' H' sd r v:=λpins s I=>by
 have I1:=I.less S.sub S.base<|S.smp.sub S.sub
 have ob:∀l∈dL sd,∃xs o,H l=some xs/\Wr l xs/\s.heap.get? l=some o/\∀v,o.data≠ .cell v:=λl hl=>by obtain⟨n,xs,q,wx⟩:=S.slots.owns hl;exact aOD wx q<|I.hok l _ q
 have I2:=I1.pins_of λp hp=>(aS.mp hp).elim (λz=>I1.pin p<|aU _ z) λz=>by
  obtain⟨hb,g⟩:=uH z;obtain⟨xs,o,q,_,ho,hc⟩:=ob p.1 hb;rw[g] at ho;cases ho;refine⟨g,(S.slots.owns hb).1,λy=>?_,λy=>?_,hc⟩
  ·have:=I.free;rw[<-y,q] at this;cases this
  ·obtain⟨_,o',ho',_⟩:=I.ok.funs.mem y;have:=I.base.free p.1 o' ho' (I.ok.frf p.1 y) λz=>I.ok.exfs p.1 z y
   rw[q] at this;cases this
 refine thn (h _ s I2) λu s' ⟨v,F3,I3,rv,F2,s1,s2,sm3,res⟩=>?_
 have kp:∀l∈dL sd,F3 l=none/\(∃xs,H l=some xs/\Wr l xs)/\∀o,s.heap.get? l=some o->s'.heap.get? l=some o:=λl hl=>by obtain⟨xs,o,q,wx,ho,_⟩:=ob l hl;have:=I3.pin (l,o)<|aU _ (aU _<|jU hl ho);exact⟨this.2.1,⟨xs,q,wx⟩,λo' g=>by rw[ho] at g;cases g;exact this.1⟩
 have I4:=Inv.retrack I (dL sd) S.nd kp I3.unpinned;refine⟨v,_,I4,rv,F2,⟨λb o g=>s1 _ _<|S.base _ _ g,λb o g=>?_,λb o g=>?_,S.slots.mono s1 λl hl=>⟨s2.free (kp l hl).1,λxs g=>by simpa[hl] using g⟩,S.nd⟩,s1,?_⟩
 ·have g3:=s2 _ _ g;have:b∉dL sd:=λhb=>by rw[(kp b hb).1] at g3;cases g3
  simp[this,g3]
 ·by_cases hb:b∈dL sd
  ·simp[hb] at g;exact S.smp _ _ g
  ·simp[hb] at g;exact sm3 _ _ g
 ·cases r with
  |val d=>exact res
  |own ds'=>
   obtain⟨l,xs,e,n,q,rl',_⟩:=res;have:l∉dL sd:=λhl=>by rw[(kp l hl).1] at q;cases q
   exact⟨l,xs,e,n,by simp[this,q],rl',this⟩
  |pr d ls=>
   obtain⟨t,l,xs,y,e,f,g,n,q,rl',_⟩:=res;have:l∉dL sd:=λhl=>by rw[(kp l hl).1] at q;cases q
   exact⟨t,l,xs,y,e,f,g,n,by simp[this,q],rl',this⟩
  |ox G=>
   obtain⟨ls,nd,h,g⟩:=res
   have no:∀l∈ls,l∉dL sd:=λl hl hm=>by obtain⟨n,⟨ob,q,w⟩,_⟩:=h l hl;rw[(kp l hm).1] at q;cases q
   refine⟨ls,nd,λl hl=>?_,λF' H' sF k=>g F' H' sF λl hl ob q=>k l hl ob<|by simp[no l hl,q]⟩;obtain⟨n,⟨ob,q,w⟩,_⟩:=h l hl;exact⟨n,⟨ob,by simp[no l hl,q],w⟩,no l hl⟩
  |bor ds'=>exact hr.elim
noncomputable def aNo:Option Slot->Slot
 |some (.val d)=>.val d
 |some (.ox [] G)=>.ox [] G
 |_=>.un
def tH(cap:List (Option Nat))(sd:List Slot):List Slot:=cap.map λo=>match o with
 |none=>.un
 |some k=>aNo sd[k]?
theorem aFo(h:SlotsOk K F H sd σ)(s:Same F F'):∀cap:List (Option Nat),SlotsOk K F' H' (tH cap sd) (zZ cap σ)
 |[]=>rfl
 |o::cap=>by
  refine⟨_,_,rfl,?_,aFo h s cap⟩;cases o with
  |none=>trivial
  |some k=>
   show iB K F' H' (aNo sd[k]?) _;cases q:sd[k]? with
   |none=>trivial
   |some z=>
    cases z with
    |un=>trivial
    |own l ds=>trivial
    |od l ks ds=>trivial
    |ox ls G=>
     cases ls with
     |cons a ls=>trivial
     |nil=>obtain⟨o,h1,v,h2,h3,h4⟩:=h.get q;subst h2;exact⟨v,by simp[h1],λl hl=>(nomatch hl),λF2 H2 s2 _=>h4 F2 H2 (s.trans s2) λl hl=>(nomatch hl)⟩
    |gh d G=>trivial
    |val d=>obtain⟨o,h1,v,h2,rv⟩:=h.get q;subst h2;exact⟨v,by simp[h1],rv.mono s⟩
theorem yG:∀ (cap:List (Option Nat)) (sd:List Slot),dL (tH cap sd)=[]
 |[],_=>rfl
 |o::cap,sd=>by
  have ih:=yG cap sd;cases o with
  |none=>exact ih
  |some k=>
   show dL (aNo sd[k]? ::tH cap sd)=[];cases q:sd[k]? with
   |none=>exact ih
   |some z=>
    cases z with
    |ox ls G=>cases ls<;>exact ih
    |_=>exact ih
noncomputable def unS:Slot->Slot
 |.own _ _=>.un
 |.od _ _ _=>.un
 |.ox [] G=>.ox [] G
 |.ox _ _=>.un
 |z=>z
def unO(sd:List Slot):List Slot:=sd.map unS
theorem jW:∀sd:List Slot,dL (unO sd)=[]
 |[]=>rfl
 |.un::r=>jW r
 |.val _::r=>jW r
 |.gh _ _::r=>jW r
 |.own _ _::r=>jW r
 |.od _ _ _::r=>jW r
 |.ox [] _::r=>jW r
 |.ox (_::_) _::r=>jW r
def aII(cap:List (Option Nat))(sd:List Slot):tH cap (unO sd)=tH cap sd:=by
 refine bQ λo _=>?_
 cases o with
 |none=>rfl
 |some k=>
  show aNo (unO sd)[k]? =aNo sd[k]?;unfold unO;rw[aY];cases q:sd[k]? with
  |none=>rfl
  |some z=>
   cases z with
   |ox ls G=>cases ls<;>rfl
   |_=>rfl
theorem aAi:∀ {sd:List Slot}{σ:St},SlotsOk K F H sd σ->SlotsOk K F H' (unO sd) σ
 |[],_,h=>h
 |z::zs,σ,h=>by
  obtain⟨o,r,rfl,a,b⟩:=h;refine⟨o,r,rfl,?_,aAi b⟩;cases z with
  |un=>trivial
  |val d=>exact a
  |gh d G=>exact a
  |od l ks ds=>trivial
  |ox ls G=>
   cases ls with
   |cons a ls=>trivial
   |nil=>obtain⟨v,h2,h3,h4⟩:=a;exact⟨v,h2,λl hl=>(nomatch hl),λF2 H2 s2 _=>h4 F2 H2 s2 λl hl=>(nomatch hl)⟩
  |own l ds=>trivial
def uC(p:D->Bool)(h:ds[i]? =some d):(ds.take<|i+1).filter p=(ds.take i).filter p++(if p d then[d] else[]):=by rw[gB,h];cases hp:p d<;>simp[hp]
theorem iZ{Tb:D->List Slot}(p:D->Bool)(f:D->D)(hi:PId X (unO sd) PT0 tg iter ds) (hl:ds.length<=1000)(hsc:X.env.scope=sc) (hcn:qG scope sc=true) (hM:X.N=M) (hcap:nX N M scope sc cap=true) (hk:scope.kind=.function)(hg:∀cl C fp s H d,d∈ds->PGd (cxB X N scope cl C fp s H) (tH cap sd) tg d (Tb d))(hle:∀d,d∈ds->Le (Tb d) (tH cap sd))(ht:∀cl C fp s H d,d∈ds->(ifs=[]/\p d=true)\/∃c,ifs=[c]/\PTd (cxB X N scope cl C fp s H) (Tb d) c (p d))(he:∀cl C fp s H d,d∈ds->p d=true->PEd (cxB X N scope cl C fp s H) (Tb d) elt (.val<|f d))(hc:X.calm=true:=by rfl) (hs:∀x,BP iter X.env x=pure x:=by intro _;rfl):PEd X sd (.ListComp elt [⟨tg,iter,ifs,0⟩] scope pos) (.own<|(ds.filter p).map f):=.mk λσ F H S=>by
 refine aHG S trivial ?_;have S0:StF X.K X.B₀ F F σ (unO sd):=⟨S.base,Same.refl _,S.smp.sub S.sub,aAi S.slots,by rw[jW];exact dS⟩;intro pins s I
 have nm:∀y∈scope.names,(y.2=NameKind.free->sc.names.lookup y.1=some NameKind.cell)/\(y.2=NameKind.local->scope.names.lookup y.1=some NameKind.local):=λy hy=>by have q:=cZ.mp hcn y hy;simp at q;exact⟨λe=>q.1.1.resolve_left λz=>z e,λe=>q.2.resolve_left λz=>z e⟩
 have fre:∀y∈scope.names,y.2=.free->∃c,X.env.cells.lookup y.1=some c:=λy hy e=>I.ok.has y.1 (.inl<|by show X.env.scope.names.lookup y.1=_;rw[hsc];exact(nm y hy).1 e)
 refine wpAny_comprehension_free rfl hs (aCU fre) hk (λy hy=>(nm y hy).2) ?_;refine thn (hi σ F F S0 pins s I) λv s1 h1=>thn h1 λitv s2 h2=>?_
 obtain⟨it,fp,tn,J,H2,e,I2,T,st2,f2,F1,S1,s1',itd⟩:=h2;subst e
 have S1b:StF X.K H2 H2 H2 (zZ cap σ) (tH cap sd):=⟨Same.refl _,Same.refl _,S1.smp,by
  have q:=aFo (H':=H2) S1.slots S1.sub cap;rw[aII] at q
  exact q,by rw[yG];exact dS⟩
 refine aHt (g:=λv σ2 H3 Q=>∀cl C,wG (cxB X N scope cl C fp s2 H2) tg v σ2 H3 Q) (tt:=λσ2 H3 Q=>∀cl C,aQk (cxB X N scope cl C fp s2 H2) ifs σ2 H3 Q) (te:=λσ2 H3 Q=>∀cl C,wE (cxB X N scope cl C fp s2 H2) elt σ2 H3 Q)
  hc hsc hcn (by rw[hM];exact hcap) hk I2 T st2 f2 (λcl C pi s3 σ3 H3 v u Q I3 ru q=>q cl C pi s3 u I3 ru) (λcl C pi s3 σ3 H3 Q I3 q=>q cl C pi s3 I3) (λcl C pi s3 σ3 H3 Q I3 q=>q cl C pi s3 I3)
  (λi m ys σb H3=>m=ds.length-i/\i<=ds.length/\∃Fb,StF X.K H2 Fb H3 σb (tH cap sd)/\RepL X.K Fb (((ds.take i).filter p).map f) ys) ds.length
  ⟨by simp,bM _,H2,S1b,by simpa using RepL.nil⟩ _ ?_
 rintro i m ys σb H3 ⟨rfl,hil,Fb,Sb,rl⟩;have sF1:Same F1 Fb:=λb o g=>Sb.base _ _<|S1.sub _ _ g
 obtain⟨g1,g2,g3⟩:=itd Fb H3 sF1 Sb.sub Sb.smp trivial i
 by_cases hlt:i<ds.length
 ·have hd:ds[i]? =some ds[i]:=by simp[hlt]
  have hm:=fJ hlt
  have ylen:ys.length<=i:=by rw[rl.len,aA];exact cF (aDG _ _) (by simp;lia)
  refine .inr ⟨g1 hlt,gG<|by lia,λys' σ' H'=>∃Fb',StF X.K H2 Fb' H' σ' (tH cap sd)/\RepL X.K Fb' (((ds.take<|i+1).filter p).map f) ys',λys' σ' H' ⟨Fb',Sb',rl'⟩=>⟨ds.length-(i+1),by lia,rfl,hlt,Fb',Sb',rl'⟩,λx H4 y cl C=>?_⟩;obtain⟨F4,s4,rp,up⟩:=g3 x H4 ds[i] hd y;refine(hg cl C fp s2 H2 _ hm σb F4 H4 x (up _ _ _ Sb) rp).imp λσ5 H5 ⟨F5,S5,s5⟩ cl2 C2=>?_
  have rl5:=rl.mono<|s4.trans s5
  have fin:∀ (b:Bool) (H6:Hp) (F6:Hp),b=p ds[i]->StF X.K H2 F6 H6 σ5 (Tb ds[i])->Same F5 F6->if b=true then(∀cl C,wE (cxB X N scope cl C fp s2 H2) elt σ5 H6 λv H5=>∃Fb',StF X.K H2 Fb' H5 σ5 (tH cap sd)/\RepL X.K Fb' (((ds.take<|i+1).filter p).map f) (ys++[v])) else ∃Fb',StF X.K H2 Fb' H6 σ5 (tH cap sd)/\RepL X.K Fb' (((ds.take<|i+1).filter p).map f) ys:=λb H6 F6 eb S6 s6=>by
   rw[uC p hd,<-eb];cases b with
   |false=>exact aKB ⟨F6,S6.le<|hle _ hm,by simpa using rl5.mono s6⟩
   |true=>
    refine aKu λcl3 C3=>(he cl3 C3 fp s2 H2 _ hm eb.symm σ5 F6 H6 S6).imp λv H7 ⟨F7,S7,s7,q7⟩=>⟨F7,S7.le<|hle _ hm,?_⟩
    simp ;exact((rl5.mono s6).mono s7).app<|.one q7
  rcases ht cl2 C2 fp s2 H2 _ hm with⟨e1,e2⟩|⟨c,e1,q⟩
  ·subst e1;exact aHC (fin true H5 F5 e2.symm S5<|Same.refl _)
  ·subst e1;exact aHx<|(q σ5 F5 H5 S5).imp λb H6 ⟨eb,F6,S6,s6⟩=>fin b H6 F6 eb S6 s6
 ·have e:i=ds.length:=by lia
  subst e;refine .inl ⟨g2<|aK _,λD C s' hD hC hDC h0 hL hcc hpp hst ⟨m',ns'⟩ J'=>⟨m',ns',λh' sb=>?_⟩⟩;have J2:Inv X pins σ (upd H3 D<|.lst ys) {s' with heap:=h',toks:=s'.toks}:=J'.turned (λb o hb g=>sb.extBut b o hb g) (by rw[bH<|Ne.symm hDC];exact hC) hL (.inr h0) hcc hpp;refine⟨.ref D,_,J2,rfl,Fb,λb o g=>Sb.base _ _ (S1.sub _ _<|s1' _ _ g),λb o g=>?_,λb o g=>?_,D,ys,rfl,Sb.sub.free hD,bX,?_,by simp[dL]⟩
  ·have g3:=Sb.sub _ _ g;rw[bH<|cD g3 hD];exact g3
  ·by_cases hb:b=D
   ·subst hb;rw[bX] at g;cases g;trivial
   ·rw[bH hb] at g;exact Sb.smp _ _ g
  ·simpa using rl
noncomputable def isIB:D->Bool
 |.int _=>true
 |.bl _=>true
 |_=>false
def isB:D->Bool
 |.bl _=>true
 |_=>false
noncomputable def isT:D->Bool
 |.tup _=>true
 |_=>false
noncomputable def isL:D->Bool
 |.lst _=>true
 |.scr _=>true
 |_=>false
def aLi(K:aB)(d:D):mO K (tyD d) (.type "int")=some (isIB d):=by cases d<;>with_unfolding_all rfl
def aHu(K:aB)(d:D):mO K (tyD d) (.type "bool")=some (isB d):=by cases d<;>with_unfolding_all rfl
def PEd.cast(h:PEd X sd e r)(q:r=r'):PEd X sd e r':=q▸h
def fM(h:PTd X sd c k)(hk:k=false)(h2:PSd X sd o E):PSd1 X sd (.If c x o pos) E:=fR h (λe=>by rw[hk] at e;cases e) λ_=>h2
def iE(h:PTd X sd c k)(hk:k=true)(h2:PSd X sd x E):PSd1 X sd (.If c x o pos) E:=fR h (λ_=>h2) λe=>by rw[hk] at e;cases e
theorem pY(ha:PEd X sd a (.bor ds))(hb:PEd X sd b (.val<|.int i))(h0:0<=i)(hd:ds[i.toNat]? =some d)(hs:oK b):PEd X sd (.Subscript a b pos) (.val d):=by
 have e:i=(i.toNat):=by lia
 rw[e] at hb;exact mI ha hb hd hs
theorem mS(ha:PEd X sd a (.val<|.tup ds))(hb:PEd X sd b (.val<|.int i))(h0:0<=i)(hd:ds[i.toNat]? =some d)(hs:oK b):PEd X sd (.Subscript a b pos) (.val d):=by
 have e:i=(i.toNat):=by lia
 rw[e] at hb;exact rG ha hb hd hs
theorem yJ(h:i.natAbs<2^250):Builtin.Int.intBits i<=2^20:=by
 unfold Builtin.Int.intBits
 split
 ·exact bM _
 ·rename_i hz
  have hne:i.natAbs≠0:=by
   intro z;apply hz;have:i=0:=by lia
   subst this;rfl
  have:=(Nat.log2_lt hne).mpr h;lia
def jC(h1:i.natAbs<2^250)(h2:j.natAbs<2^250):IntMulOk i j:=.of_bits (yJ h1)<|yJ h2
def most:Int:=1000*10^64
noncomputable def bS:List (Int×Int):=[(2,2),(1,1),(1,2),(2,1),(1,3),(3,1),(2,3),(3,2),(1,4),(4,1),(1,5),(5,1),(1,6),(6,1)]
noncomputable def dI(p:Int×Int):D:=.tup [.int p.1,.int p.2]
def aCg{ns:List Int}(h:(ns.map D.int)[k]? =some d):k<ns.length/\d=.int (ns.getD k 0):=by
 rw[aY] at h;cases e:ns[k]? with
 |none=>rw[e] at h;cases h
 |some z=>rw[e] at h;refine⟨(aE.mp e).1,?_⟩;rw[<-bW.inj h,bV,e];rfl
def getD_mem{α:Type}{l:List α}{d:α}(h:i<l.length):l.getD i d∈l:=by
 have e:l.getD i d=l[i]:=by simp[bV,h]
 rw[e];exact fJ h
def aID(h:aQE H):Smp H:=λb o e=>by
 rcases h b with z|⟨o',xs,z⟩
 ·rw[z] at e;cases e
 ·rw[z] at e;cases e;trivial
mutual
noncomputable def deq:D->D->Bool
 |.non,.non=>true
 |.bl a,.bl b=>a==b
 |.bl a,.int b=>(if a then 1 else 0)==b
 |.int a,.bl b=>a==(if b then 1 else 0)
 |.int a,.int b=>a==b
 |.str a,.str b=>a==b
 |.tup a,.tup b=>jV a b
 |.lst a,.lst b=>jV a b
 |_,_=>false
noncomputable def jV:List D->List D->Bool
 |[],[]=>true
 |x::xs,y::ys=>deq x y&&jV xs ys
 |_,_=>false
end
mutual
noncomputable def pl:D->Bool
 |.dic=>false
 |.dki _ _=>false
 |.any _=>false
 |.scr _=>false
 |.tup ds=>plL ds
 |.lst ds=>plL ds
 |_=>true
noncomputable def plL:List D->Bool
 |[]=>true
 |d::ds=>pl d&&plL ds
end
mutual
noncomputable def dep:D->Nat
 |.tup ds=>jI ds+1
 |.lst ds=>jI ds+1
 |_=>0
noncomputable def jI:List D->Nat
 |[]=>0
 |d::ds=>max (dep d)<|jI ds
end
theorem aAT:∀ {ds:List D}{i:Nat}{d:D},plL ds=true->ds[i]? =some d->pl d=true
 |[],i,d,_,e=>by simp at e
 |d'::ds,i,d,h,e=>by
  simp only[plL,bL] at h;cases i with
  |zero=>simp at e;subst e;exact h.1
  |succ i=>exact aAT h.2 (by simpa using e)
theorem yT:∀ {ds:List D}{i:Nat}{d:D},ds[i]? =some d->dep d<=jI ds
 |[],i,d,e=>by simp at e
 |d'::ds,i,d,e=>by
  cases i with
  |zero=>simp at e;subst e;exact Nat.le_max_left _ _
  |succ i=>exact cF (yT<|by simpa using e)<|Nat.le_max_right _ _
theorem deqL_iff:∀ {xs ys:List D},jV xs ys=true↔xs.length=ys.length/\∀ (j:Nat) (x y:D),xs[j]? =some x->ys[j]? =some y->deq x y=true
 |[],[]=>by simp[jV]
 |[],y::ys=>by simp[jV]
 |x::xs,[]=>by simp[jV]
 |x::xs,y::ys=>by
  simp only[jV,bL,bZ,deqL_iff]
  constructor
  ·rintro⟨h1,h2,h3⟩;refine⟨by lia,λj a b ea eb=>?_⟩;cases j with
   |zero=>simp at ea eb;subst ea eb;exact h1
   |succ j=>exact h3 j a b (by simpa using ea) (by simpa using eb)
  ·rintro⟨h1,h2⟩;exact⟨h2 0 x y rfl rfl,by lia,λj a b ea eb=>h2 (j+1) a b (by simpa using ea)<|by simpa using eb⟩
mutual
theorem xA{K:aB}{H:Hp}:∀ {d1 d2:D}{v:V},pl d1=true->Rep K H d1 v->Rep K H d2 v->pl d2=true->deq d1 d2=true
 |.non,d2,v,_,r1,r2,_=>by subst r1;cases d2<;>simp_all[Rep,deq]
 |.bl b,d2,v,_,r1,r2,_=>by subst r1;cases d2<;>simp_all[Rep,deq]
 |.int b,d2,v,_,r1,r2,_=>by subst r1;cases d2<;>simp_all[Rep,deq]
 |.str b,d2,v,_,r1,r2,_=>by subst r1;cases d2<;>simp_all[Rep,deq]
 |.dic,_,_,h,_,_,_=>by simp[pl] at h
 |.dki _ _,_,_,h,_,_,_=>by simp[pl] at h
 |.any _,_,_,h,_,_,_=>by simp[pl] at h
 |.scr _,_,_,h,_,_,_=>by simp[pl] at h
 |.tup ds,d2,v,p1,r1,r2,p2=>by
  obtain⟨a,xs,rfl,ha,rl⟩:=r1;cases d2 with
  |tup es=>obtain⟨a',xs',e,ha',rl'⟩:=r2;cases e;rw[ha] at ha';cases ha';exact pU (by simpa[pl] using p1) rl rl' (by simpa[pl] using p2)
  |lst es=>obtain⟨a',xs',e,ha',rl'⟩:=r2;cases e;rw[ha] at ha';cases ha'
  |dic=>simp[pl] at p2
  |dki=>simp[pl] at p2
  |any=>simp[pl] at p2
  |scr=>simp[pl] at p2
  |_=>simp[Rep] at r2
 |.lst ds,d2,v,p1,r1,r2,p2=>by
  obtain⟨a,xs,rfl,ha,rl⟩:=r1;cases d2 with
  |lst es=>obtain⟨a',xs',e,ha',rl'⟩:=r2;cases e;rw[ha] at ha';cases ha';exact pU (by simpa[pl] using p1) rl rl' (by simpa[pl] using p2)
  |tup es=>obtain⟨a',xs',e,ha',rl'⟩:=r2;cases e;rw[ha] at ha';cases ha'
  |dic=>simp[pl] at p2
  |dki=>simp[pl] at p2
  |any=>simp[pl] at p2
  |scr=>simp[pl] at p2
  |_=>simp[Rep] at r2
theorem pU{K:aB}{H:Hp}:∀ {ds es:List D}{xs:List V},plL ds=true->RepL K H ds xs->RepL K H es xs->plL es=true->jV ds es=true
 |[],es,xs,_,r1,r2,_=>by
  simp only[RepL] at r1;subst r1;cases es with
  |nil=>rfl
  |cons e es=>obtain⟨y,ys,z,_⟩:=r2.uncons;cases z
 |d::ds,es,xs,p1,r1,r2,p2=>by
  obtain⟨y,ys,rfl,a,rl⟩:=r1.uncons;cases es with
  |nil=>simp only[RepL] at r2;cases r2
  |cons e es=>obtain⟨y',ys',z,a',rl'⟩:=r2.uncons;cases z;simp only[plL,bL] at p1 p2;simp only[jV,bL];exact⟨xA p1.1 a a' p2.1,pU p1.2 rl rl' p2.2⟩
end
noncomputable def sY:D->Bool
 |.non=>true
 |.bl _=>true
 |.int _=>true
 |.str _=>true
 |_=>false
def wK(h:sY d=true)(r:Rep K H d v):oW v=true/\flt d=some v:=by cases d<;>simp_all[sY,Rep,oW,flt]
variable {P:AF}{w:AL}{s:BY}
def iK(hok:HOk P w H s.heap)(r:Rep K H (.tup ds) v)(ru:RelV v u):∃a xs its,u=.ref a/\v=.ref a/\RepL K H ds xs/\Vals xs its/\s.heap.IsTuple a its.toArray:=by obtain⟨a,xs,rfl,ha,rl⟩:=r;cases ru;obtain⟨_,its,rv,p⟩:=(hok a _ ha);exact⟨a,xs,its,rfl,rfl,rl,rv,p.tup⟩
def lP(hok:HOk P w H s.heap)(r:Rep K H (.lst ds) v)(ru:RelV v u):∃a xs its,u=.ref a/\v=.ref a/\RepL K H ds xs/\Vals xs its/\s.heap.IsList a its.toArray:=by obtain⟨a,xs,rfl,ha,rl⟩:=r;cases ru;obtain⟨_,its,n,rv,p⟩:=(hok a _ ha);exact⟨a,xs,its,rfl,rfl,rl,rv,_,p,rfl,n,rfl⟩
def dAt(ds es:List D)(j:Nat):Bool:=match ds[j]?,es[j]? with
 |some x,some y=>deq x y
 |_,_=>false
theorem rX(ds es:List D):((bI<|min ds.length es.length).all (dAt ds es)&&ds.length==es.length)=jV ds es:=by
 rw[gY,deqL_iff,bL,cZ,beq_iff_eq]
 constructor
 ·rintro⟨h1,h2⟩;refine⟨h2,λj x y ex ey=>?_⟩;have hj:=(aE.mp ex).1;have:=h1 j (bR.mpr<|by lia);unfold dAt at this;rw[ex,ey] at this;exact this
 ·rintro⟨h1,h2⟩;refine⟨λj hj=>?_,h1⟩;have hj':=bR.mp hj;have e1:ds[j]? =some (ds[j]'(by lia)):=by simp
  have e2:es[j]? =some (es[j]'(by lia)):=by simp
  unfold dAt;rw[e1,e2];exact h2 j _ _ e1 e2
def uV{es:List D}(h:ds.length=es.length):(bI ds.length).all (dAt ds es)=jV ds es:=by have:=rX ds es;rw[h] at this ⊢;simpa using this
def yF{es:List D}(h:ds.length≠es.length):jV ds es=false:=by
 cases e:jV ds es with
 |false=>rfl
 |true=>exact absurd (deqL_iff.mp e).1 h
mutual
theorem aBP(hok:HOk P w H s.heap):∀ (d1:D) {d2:D}{v1 v2:V}{u1 u2:BX}{A:CA},pl d1=true->pl d2=true->Rep K H d1 v1->Rep K H d2 v2->RelV v1 u1->RelV v2 u2->A.units+dep d1<AR->SeqAt.EqAt A s u1 u2 (deq d1 d2)
 |.tup ds,d2,v1,v2,u1,u2,A,p1,p2,r1,r2,ru1,ru2,hu=>by
  have hu':A.units<AR:=by lia
  obtain⟨a,xs,its,rfl,rfl,rl,rv,ht⟩:=iK hok r1 ru1;cases d2 with
  |non=>simp only[Rep] at r2;subst r2;cases ru2;exact SeqAt.EqAt.tuple_none ht hu'
  |bl b=>simp only[Rep] at r2;subst r2;cases ru2;exact SeqAt.EqAt.tuple_bool b ht hu'
  |int b=>simp only[Rep] at r2;subst r2;obtain⟨t,rfl⟩:=ru2;exact SeqAt.EqAt.tuple_int b t ht hu'
  |str b=>simp only[Rep] at r2;subst r2;obtain⟨t,rfl⟩:=ru2;exact SeqAt.EqAt.tuple_str b t ht hu'
  |dic=>simp[pl] at p2
  |dki=>simp[pl] at p2
  |any=>simp[pl] at p2
  |scr=>simp[pl] at p2
  |lst es=>obtain⟨b,ys,jts,rfl,rfl,rl2,rv2,hl2⟩:=lP hok r2 ru2;exact SeqAt.EqAt.tuple_list ht hl2 hu'
  |tup es=>
   obtain⟨b,ys,jts,rfl,e2,rl2,rv2,ht2⟩:=iK hok r2 ru2
   by_cases hab:a=b
   ·subst hab;have:=xA p1 r1 (e2▸r2) p2;rw[this];exact SeqAt.EqAt.same _
   ·simp only[deq];rw[<-rX];have l1:its.toArray.size=ds.length:=by rw[bB,<-rv.length,rl.len]
    have l2:jts.toArray.size=es.length:=by rw[bB,<-rv2.length,rl2.len]
    rw[<-l1,<-l2];simp only[pl] at p1 p2;simp only[dep] at hu;refine .of_refs hab<|.tuples ht ht2 hu' λj h1 h2=>?_;exact qS hok ds p1 p2 rl rl2 rv rv2 (by show A.units+1+_<AR;lia) (by simp)<|by simp
 |.lst ds,d2,v1,v2,u1,u2,A,p1,p2,r1,r2,ru1,ru2,hu=>by
  have hu':A.units<AR:=by lia
  obtain⟨a,xs,its,rfl,rfl,rl,rv,ht⟩:=lP hok r1 ru1;cases d2 with
  |non=>simp only[Rep] at r2;subst r2;cases ru2;exact SeqAt.EqAt.list_none ht hu'
  |bl b=>simp only[Rep] at r2;subst r2;cases ru2;exact SeqAt.EqAt.list_bool b ht hu'
  |int b=>simp only[Rep] at r2;subst r2;obtain⟨t,rfl⟩:=ru2;exact SeqAt.EqAt.list_int b t ht hu'
  |str b=>simp only[Rep] at r2;subst r2;obtain⟨t,rfl⟩:=ru2;exact SeqAt.EqAt.list_str b t ht hu'
  |dic=>simp[pl] at p2
  |dki=>simp[pl] at p2
  |any=>simp[pl] at p2
  |scr=>simp[pl] at p2
  |tup es=>obtain⟨b,ys,jts,rfl,rfl,rl2,rv2,hl2⟩:=iK hok r2 ru2;exact SeqAt.EqAt.list_tuple ht hl2 hu'
  |lst es=>
   obtain⟨b,ys,jts,rfl,e2,rl2,rv2,ht2⟩:=lP hok r2 ru2
   by_cases hab:a=b
   ·subst hab;have:=xA p1 r1 (e2▸r2) p2;rw[this];exact SeqAt.EqAt.same _
   ·simp only[deq];have l1:its.toArray.size=ds.length:=by rw[bB,<-rv.length,rl.len]
    have l2:jts.toArray.size=es.length:=by rw[bB,<-rv2.length,rl2.len]
    simp only[pl] at p1 p2;simp only[dep] at hu
    by_cases hl:ds.length=es.length
    ·rw[<-uV hl,<-l1];refine .of_refs hab<|.lists ht ht2 (by rw[l1,l2,hl]) hu' λj h1 h2=>?_;exact qS hok ds p1 p2 rl rl2 rv rv2 (by show A.units+1+_<AR;lia) (by simp)<|by simp
    ·rw[yF hl];exact .of_refs hab<|.lists_lengths ht ht2 (by rw[l1,l2];simpa using hl) hu'
 |.dic,_,_,_,_,_,_,p1,_,_,_,_,_,_=>by simp[pl] at p1
 |.dki _ _,_,_,_,_,_,_,p1,_,_,_,_,_,_=>by simp[pl] at p1
 |.any _,_,_,_,_,_,_,p1,_,_,_,_,_,_=>by simp[pl] at p1
 |.scr _,_,_,_,_,_,_,p1,_,_,_,_,_,_=>by simp[pl] at p1
 |.non,d2,v1,v2,u1,u2,A,p1,p2,r1,r2,ru1,ru2,hu=>by
  have hu':A.units<AR:=by omega
  simp only[Rep] at r1;subst r1;cases hf:sY d2 with
  |true=>obtain⟨h1,h2⟩:=wK hf r2;have:=xX (A:=A) (s:=s) ru1 ru2 rfl h1;cases d2<;>simp_all[sY,flt,Rep,deq,eqV]
  |false=>
   cases ru1;cases d2 with
   |tup es=>obtain⟨b,ys,jts,rfl,e2,rl2,rv2,ht2⟩:=iK hok r2 ru2;exact SeqAt.EqAt.none_tuple ht2 hu'
   |lst es=>obtain⟨b,ys,jts,rfl,e2,rl2,rv2,ht2⟩:=lP hok r2 ru2;exact SeqAt.EqAt.none_list ht2 hu'
   |dic=>simp[pl] at p2
   |dki=>simp[pl] at p2
   |any=>simp[pl] at p2
   |scr=>simp[pl] at p2
   |_=>simp[sY] at hf
 |.bl q,d2,v1,v2,u1,u2,A,p1,p2,r1,r2,ru1,ru2,hu=>by
  have hu':A.units<AR:=by omega
  simp only[Rep] at r1;subst r1;cases hf:sY d2 with
  |true=>obtain⟨h1,h2⟩:=wK hf r2;have:=xX (A:=A) (s:=s) ru1 ru2 rfl h1;cases d2<;>simp_all[sY,flt,Rep,deq,eqV]
  |false=>
   cases ru1;cases d2 with
   |tup es=>obtain⟨b,ys,jts,rfl,e2,rl2,rv2,ht2⟩:=iK hok r2 ru2;exact SeqAt.EqAt.bool_tuple q ht2 hu'
   |lst es=>obtain⟨b,ys,jts,rfl,e2,rl2,rv2,ht2⟩:=lP hok r2 ru2;exact SeqAt.EqAt.bool_list q ht2 hu'
   |dic=>simp[pl] at p2
   |dki=>simp[pl] at p2
   |any=>simp[pl] at p2
   |scr=>simp[pl] at p2
   |_=>simp[sY] at hf
 |.int q,d2,v1,v2,u1,u2,A,p1,p2,r1,r2,ru1,ru2,hu=>by
  have hu':A.units<AR:=by omega
  simp only[Rep] at r1;subst r1;cases hf:sY d2 with
  |true=>obtain⟨h1,h2⟩:=wK hf r2;have:=xX (A:=A) (s:=s) ru1 ru2 rfl h1;cases d2<;>simp_all[sY,flt,Rep,deq,eqV]
  |false=>
   obtain⟨t,rfl⟩:=ru1;cases d2 with
   |tup es=>obtain⟨b,ys,jts,rfl,e2,rl2,rv2,ht2⟩:=iK hok r2 ru2;exact SeqAt.EqAt.int_tuple q t ht2 hu'
   |lst es=>obtain⟨b,ys,jts,rfl,e2,rl2,rv2,ht2⟩:=lP hok r2 ru2;exact SeqAt.EqAt.int_list q t ht2 hu'
   |dic=>simp[pl] at p2
   |dki=>simp[pl] at p2
   |any=>simp[pl] at p2
   |scr=>simp[pl] at p2
   |_=>simp[sY] at hf
 |.str q,d2,v1,v2,u1,u2,A,p1,p2,r1,r2,ru1,ru2,hu=>by
  have hu':A.units<AR:=by omega
  simp only[Rep] at r1;subst r1;cases hf:sY d2 with
  |true=>obtain⟨h1,h2⟩:=wK hf r2;have:=xX (A:=A) (s:=s) ru1 ru2 rfl h1;cases d2<;>simp_all[sY,flt,Rep,deq,eqV]
  |false=>
   obtain⟨t,rfl⟩:=ru1;cases d2 with
   |tup es=>obtain⟨b,ys,jts,rfl,e2,rl2,rv2,ht2⟩:=iK hok r2 ru2;exact SeqAt.EqAt.str_tuple q t ht2 hu'
   |lst es=>obtain⟨b,ys,jts,rfl,e2,rl2,rv2,ht2⟩:=lP hok r2 ru2;exact SeqAt.EqAt.str_list q t ht2 hu'
   |dic=>simp[pl] at p2
   |dki=>simp[pl] at p2
   |any=>simp[pl] at p2
   |scr=>simp[pl] at p2
   |_=>simp[sY] at hf
theorem qS(hok:HOk P w H s.heap):∀ (ds:List D) {es:List D}{xs ys:List V}{its jts:List BX}{j:Nat}{x y:BX}{A:CA},plL ds=true->plL es=true->RepL K H ds xs->RepL K H es ys->Vals xs its->Vals ys jts->A.units+jI ds<AR->its[j]? =some x->jts[j]? =some y->SeqAt.EqAt A s x y (dAt ds es j)
 |[],es,xs,ys,its,jts,j,x,y,A,_,_,r1,_,v1,_,_,e1,_=>by simp only[RepL] at r1;subst r1;cases v1;simp at e1
 |d::ds,es,xs,ys,its,jts,j,x,y,A,p1,p2,r1,r2,v1,v2,hu,e1,e2=>by
  obtain⟨a,as,rfl,ra,rl⟩:=r1.uncons;cases v1 with
  |cons va vas=>
   cases es with
   |nil=>simp only[RepL] at r2;subst r2;cases v2;simp at e2
   |cons e es=>
    obtain⟨b,bs,rfl,rb,rl2⟩:=r2.uncons;cases v2 with
    |cons vb vbs=>
     simp only[plL,bL] at p1 p2;simp only[jI] at hu;cases j with
     |zero=>simp at e1 e2;subst e1 e2;exact aBP hok d p1.1 p2.1 ra rb va vb<|by lia
     |succ j=>exact qS hok ds p1.2 p2.2 rl rl2 vas vbs (by lia) (by simpa using e1) (by simpa using e2)
end
theorem rc_D(I:Inv X pins σ H s)(hs:(isT d1=true/\isT d2=true)\/(isL d1=true/\isL d2=true))(p1:pl d1=true)(p2:pl d2=true)(r1:Rep K H d1 v)(r2:Rep K H d2 u)(rx:RelV v x)(ry:RelV u y)(hu:X.A.units+dep d1+1<AR) (q:Q (.bool<|deq d1 d2) s):AH (AD X.prog X.w) X.A (AU .Eq x y) Q X.xe s:=by
 have hu':X.A.units<AR:=by lia
 rcases hs with⟨t1,t2⟩|⟨t1,t2⟩
 ·cases d1<;>first|(simp[isT] at t1;done)|skip
  cases d2<;>first|(simp[isT] at t2;done)|skip
  rename_i ds es;obtain⟨a,xs,its,rfl,rfl,rl,rv,ht⟩:=iK I.hok r1 rx;obtain⟨b,ys,jts,rfl,rfl,rl2,rv2,ht2⟩:=iK I.hok r2 ry;have l1:its.toArray.size=ds.length:=by rw[bB,<-rv.length,rl.len]
  have l2:jts.toArray.size=es.length:=by rw[bB,<-rv2.length,rl2.len]
  simp only[dep] at hu;simp only[deq] at q;rw[<-rX,<-l1,<-l2] at q;exact SeqAt.eq_tupleAt ht ht2 hu' (λj h1 h2=>qS I.hok ds p1 p2 rl rl2 rv rv2 (by show X.A.units+1+_<AR;lia) (by simp)<|by simp) q
 ·cases d1<;>first|(simp[isL] at t1;done)|(simp[pl] at p1;done)|skip
  cases d2<;>first|(simp[isL] at t2;done)|(simp[pl] at p2;done)|skip
  rename_i ds es;obtain⟨a,xs,its,rfl,rfl,rl,rv,ht⟩:=lP I.hok r1 rx;obtain⟨b,ys,jts,rfl,rfl,rl2,rv2,ht2⟩:=lP I.hok r2 ry;have l1:its.toArray.size=ds.length:=by rw[bB,<-rv.length,rl.len]
  have l2:jts.toArray.size=es.length:=by rw[bB,<-rv2.length,rl2.len]
  simp only[dep] at hu;simp only[deq] at q
  by_cases hl:ds.length=es.length
  ·rw[<-uV hl,<-l1] at q;exact SeqAt.eq_listAt ht ht2 (by rw[l1,l2,hl]) hu' (λj h1 h2=>qS I.hok ds p1 p2 rl rl2 rv rv2 (by show X.A.units+1+_<AR;lia) (by simp)<|by simp) q
  ·rw[yF hl] at q;exact SeqAt.eq_list_lengthsAt ht ht2 (by rw[l1,l2];simpa using hl) hu' q
theorem aRi(I:Inv X pins σ H s)(hs:(isT d1=true/\isT d2=true)\/(isL d1=true/\isL d2=true))(p1:pl d1=true)(p2:pl d2=true)(r1:Rep K H d1 v)(r2:Rep K H d2 u)(rx:RelV v x)(ry:RelV u y)(hu:X.A.units+dep d1+1<AR) (q:Q (.bool<|!deq d1 d2) s):AH (AD X.prog X.w) X.A (AU .NotEq x y) Q X.xe s:=by
 have hu':X.A.units<AR:=by lia
 rcases hs with⟨t1,t2⟩|⟨t1,t2⟩
 ·cases d1<;>first|(simp[isT] at t1;done)|skip
  cases d2<;>first|(simp[isT] at t2;done)|skip
  rename_i ds es;obtain⟨a,xs,its,rfl,rfl,rl,rv,ht⟩:=iK I.hok r1 rx;obtain⟨b,ys,jts,rfl,rfl,rl2,rv2,ht2⟩:=iK I.hok r2 ry;have l1:its.toArray.size=ds.length:=by rw[bB,<-rv.length,rl.len]
  have l2:jts.toArray.size=es.length:=by rw[bB,<-rv2.length,rl2.len]
  simp only[dep] at hu;simp only[deq] at q;rw[<-rX,<-l1,<-l2] at q;exact SeqAt.RcNeAt.tuples ht ht2 hu' (λj h1 h2=>qS I.hok ds p1 p2 rl rl2 rv rv2 (by show X.A.units+1+_<AR;lia) (by simp)<|by simp) _ _ _ _ q
 ·cases d1<;>first|(simp[isL] at t1;done)|(simp[pl] at p1;done)|skip
  cases d2<;>first|(simp[isL] at t2;done)|(simp[pl] at p2;done)|skip
  rename_i ds es;obtain⟨a,xs,its,rfl,rfl,rl,rv,ht⟩:=lP I.hok r1 rx;obtain⟨b,ys,jts,rfl,rfl,rl2,rv2,ht2⟩:=lP I.hok r2 ry;have l1:its.toArray.size=ds.length:=by rw[bB,<-rv.length,rl.len]
  have l2:jts.toArray.size=es.length:=by rw[bB,<-rv2.length,rl2.len]
  simp only[dep] at hu;simp only[deq] at q
  by_cases hl:ds.length=es.length
  ·rw[<-uV hl,<-l1] at q;exact SeqAt.RcNeAt.lists ht ht2 (by rw[l1,l2,hl]) hu' (λj h1 h2=>qS I.hok ds p1 p2 rl rl2 rv rv2 (by show X.A.units+1+_<AR;lia) (by simp)<|by simp) _ _ _ _ q
  ·rw[yF hl] at q;exact SeqAt.RcNeAt.lists_lengths ht ht2 (by rw[l1,l2];simpa using hl) hu' _ _ _ _ q
theorem ResOk.rep(S:StF K H₀ F H σ sd)(hk:r.keeps)(q:ResOk K F H sd r v):Rep K H r.toD v:=by
 cases r with
 |val d=>exact Rep.mono S.sub q
 |own ds=>exact hk.elim
 |pr d ls=>exact hk.elim
 |ox G=>exact hk.elim
 |bor ds=>obtain⟨l,xs,e,hl,rl,_⟩:=q;exact⟨l,xs,e,hl,rl.mono S.sub⟩
def aPQ(K:aB)(d1 d2:D)(hs:(isT d1=true/\isT d2=true)\/(isL d1=true/\isL d2=true))(p1:pl d1=true)(p2:pl d2=true)(hu:X.A.units+dep d1+1<AR):OpR X (AU .Eq) (λx y H Q=>Rep K H d1 x/\Rep K H d2 y/\Q (.bl<|deq d1 d2) H):=by intro pins s σ H x y v u Q I rx ry h;obtain⟨h1,h2,q⟩:=h;exact rc_D I hs p1 p2 h1 h2 rx ry hu ⟨.bl<|deq d1 d2,H,I,rfl,q⟩
def aOG(K:aB)(d1 d2:D)(hs:(isT d1=true/\isT d2=true)\/(isL d1=true/\isL d2=true))(p1:pl d1=true)(p2:pl d2=true)(hu:X.A.units+dep d1+1<AR):OpR X (AU .NotEq) (λx y H Q=>Rep K H d1 x/\Rep K H d2 y/\Q (.bl<|!deq d1 d2) H):=by intro pins s σ H x y v u Q I rx ry h;obtain⟨h1,h2,q⟩:=h;exact aRi I hs p1 p2 h1 h2 rx ry hu ⟨.bl<|!deq d1 d2,H,I,rfl,q⟩
def aDO(ha:PEd X sd a ra)(hb:PEd X sd b rb)(ka:ra.keeps)(kb:rb.keeps)(hs:(isT ra.toD=true/\isT rb.toD=true)\/(isL ra.toD=true/\isL rb.toD=true))(p1:pl ra.toD=true)(p2:pl rb.toD=true)(hu:X.A.units+dep ra.toD+1<AR):PEd X sd (.Compare a [.Eq] [b] pos) (.val (.bl<|deq ra.toD rb.toD)):=
 sL (aPQ X.K _ _ hs p1 p2 hu) ha hb ka (gR _) λσ F H v u Q S q1 q2 k=>⟨q1.rep S ka,q2.rep S kb,k F H S<|Same.refl _⟩
def aBc(ha:PEd X sd a ra)(hb:PEd X sd b rb)(ka:ra.keeps)(kb:rb.keeps)(hs:(isT ra.toD=true/\isT rb.toD=true)\/(isL ra.toD=true/\isL rb.toD=true))(p1:pl ra.toD=true)(p2:pl rb.toD=true)(hu:X.A.units+dep ra.toD+1<AR):PTd X sd (.Compare a [.NotEq] [b] pos) (!deq ra.toD rb.toD):=
 mF (aOG X.K _ _ hs p1 p2 hu) ha hb ka (gR _) λσ F H v u Q S q1 q2 k=>⟨q1.rep S ka,q2.rep S kb,k F H S<|Same.refl _⟩
def aPD(K:aB):R2:=λx y H Q=>∃a b ys,x=.ref a/\y=.ref b/\SqT K H a []/\SqT K H b ys/\Q (.ref b) H
def op_catT0:OpR X (Ar .Add) (aPD X.K):=by
 intro pins s σ H x y v u Q I rx ry h;obtain⟨a,b,ys,rfl,rfl,ha,hb,q⟩:=h;cases rx;cases ry;obtain⟨its,r1,p1,_⟩:=I.tuple ha;obtain⟨its2,r2,p2,_⟩:=I.tuple hb;cases r1;obtain⟨⟨cls,dd,data,sl⟩,ho,hc,n,hd⟩:=id p1;obtain⟨⟨cls2,dd2,data2,sl2⟩,ho2,hc2,n2,hd2⟩:=id p2;subst hc hd hc2 hd2
 exact concat_meets ⟨_,ho,rfl⟩ ⟨_,ho2,rfl⟩ noFill_tuple_add seq_tuple_add oV oA (nE _ _)
  (tuple_addW0 a b ([]).toArray its2.toArray n n2 dd dd2 sl sl2<|by simp) ⟨ho,ho2,⟨.ref b,H,I,rfl,q⟩⟩
def mD(ha:PEd X sd a (.val<|.tup d1))(hb:PEd X sd b (.val<|.tup d2))(hl:d1.length+d2.length<=1000):PEd X sd (.BinOp a .Add b pos) (.val (.tup<|d1++d2)):=
 aEr (op_catT0.or aML) ha hb trivial λσ F H v u Q S q1 q2 k=>by
  obtain⟨p,xs,e1,hp,rl⟩:=q1;obtain⟨q,ys,e2,hq,rl2⟩:=q2;cases d1 with
  |nil=>subst rl;refine .inl ⟨p,q,ys,e1,e2,.of<|S.sub _ _ hp,.of<|S.sub _ _ hq,k _ F H S (Same.refl _) ?_⟩;exact⟨q,ys,rfl,hq,rl2⟩
  |cons z zs=>
   refine .inr ⟨p,q,xs,ys,e1,e2,.of<|S.sub _ _ hp,.of<|S.sub _ _ hq,?_,by rw[rl.len,rl2.len];exact cX<|gG hl,λhy=>?_,λhy p2 hp2=>?_⟩
   ·intro hx;subst hx;obtain⟨_,_,w,_⟩:=rl.uncons;cases w
   ·subst hy
    have:d2=[]:=by
     cases d2 with
     |nil=>rfl
     |cons w ws=>obtain⟨_,_,w,_⟩:=rl2.uncons;cases w
    subst this;refine k _ F H S (Same.refl _) ?_;simp ;exact⟨p,xs,rfl,hp,rl⟩
   ·obtain⟨S2,s2⟩:=S.lay (o:=.tup<|xs++ys) hp2 trivial;refine k _ _ _ S2 s2 ?_;exact⟨p2,_,rfl,bX,(rl.app rl2).mono s2⟩
def kP(hg:Gl X "tuple")(hm:X.mg "tuple"=none)(ha:PEd X sd e (.bor ds))(hst:AE [e] X.env=(false,eval e X.env)::AE [] X.env:=by rfl):PEd X sd (.Call (.Name "tuple" p) [e] [] pos) (.val<|.tup ds):=
 aAe (he:=hst) zX hg hm PyProof.Rows.boot_tuple (aC ha aN trivial hst) λσ F H vs Q S q k=>by
  cases q with
  |cons q1 q2=>cases q2;obtain⟨p,xs,rfl,hp,rl,_⟩:=q1;refine⟨p,xs,rfl,.inl ⟨.of hp,λl hl=>?_⟩⟩;obtain⟨S2,s2⟩:=S.lay (o:=.tup xs) hl trivial;refine k _ _ _ S2 s2 ?_;exact⟨l,xs,rfl,bX,rl.mono s2⟩
def Ite(K:aB)(a:BZ):It:=
 ⟨λi H=>∃xs x,SqL K H a xs/\xs[i]? =some x,λi H x H'=>∃p v,x=.ref p/\H p=none/\H'=upd H p (.tup [.int i,v])/\∀xs,SqL K H a xs->xs[i]? =some v,λi H=>∃xs,SqL K H a xs/\xs.length<=i⟩
def aMC{e it:BZ}(I:Inv X pins σ H s)(k:∀b o,b≠e->b≠it->s.heap.get? b=some o->h'.get? b=some o)(f1:vO X pins H e)(f2:vO X pins H it):Inv X pins σ H {s with heap:=h',toks:=t'}:=by
 have nit:∀b u,H b=some u->b≠e/\b≠it:=λb u q=>⟨λz=>(by rw[z,f1.1] at q;cases q),λz=>(by rw[z,f2.1] at q;cases q)⟩
 have ne:∀b,b∉[e,it]->b≠e/\b≠it:=λb hc=>⟨λz=>hc (by simp[z]),λz=>hc<|by simp[z]⟩
 refine I.step (λb hb=>?_) (λb o _ _ hc q _=>k b o (ne b hc).1 (ne b hc).2 q) (λb o _ _ hc q _=>⟨o.slots,k b o (ne b hc).1 (ne b hc).2 q⟩) (λ_ _ _ _ n=>n)
  (λb o hc q=>⟨o,k b o (ne b hc).1 (ne b hc).2 q⟩) (λ_ _ q=>q) (λ_ _ _ q=>q) (λb ps q=>⟨#[],by rw[q];simp⟩) (λm hm=>?_) (λb u q=>?_) I.bare
 ·rcases aP.mp hb with z|hb
  ·subst z;exact⟨f1.2.2.2.1,f1.2.1,f1.2.2.2.2.1,f1.2.2.2.2.2⟩
  ·have z:=by simpa using hb
   subst z;exact⟨f2.2.2.2.1,f2.2.1,f2.2.2.2.2.1,f2.2.2.2.2.2⟩
 ·obtain⟨o,es,ep,ho,r⟩:=hm;exact⟨o,es,ep,k _ o (Ne.symm f1.2.1) (Ne.symm f2.2.1) ho,r⟩
 ·refine(I.hok b u q).stay (λc v hc g=>?_) (λ_ g=>g) λ_ _ g=>g
  rcases hc with z|z
  ·rw[z] at g ⊢;exact k b v (nit b u q).1 (nit b u q).2 g
  ·exact k c v (nit c _ z).1 (nit c _ z).2 g
theorem aGI(a e it:BZ)(hei:e≠it):zT P w K (.Tuple elts kk pos) (Ite K a) [e,it] e (λi h=>(∃old,IsEnum h e it i old)/\h.IsListIter it a i) where
 mem:=by simp
 obj:=λi h st b hb=>by
  obtain⟨⟨old,he⟩,hit⟩:=st
  rcases aP.mp hb with z|hb
  ·subst z;exact⟨_,he,λv z=>by cases z⟩
  ·have z:=by simpa using hb
   subst z;obtain⟨o,q,c,d⟩:=hit;exact⟨o,q,λv z=>by rw[d] at z;cases z⟩
 keep:=λi h h' st k=>by obtain⟨⟨old,he⟩,hit⟩:=st;exact⟨⟨old,k e (by simp) _ he⟩,hit.at λo q=>k it (by simp) o q⟩
 item:=by
  intro X hP hw hK hc i pins s σ H E I hf st hg;subst hP hw hK;obtain⟨⟨old,he⟩,hit⟩:=st;obtain⟨xs,x,hq,hx⟩:=hg;obtain⟨its,rv,p,hz⟩:=I.list hq;obtain⟨u,hu,ru⟩:=rv.get hx;have f1:=hf e (by simp);have f2:=hf it (by simp);refine wpAny_pyNext_enum_item he hit p.isList (by simpa using hu) hei λh1 heo hit1 ht1 hz1 hk1=>?_
  refine⟨_,rfl,wpAny_letOwnedTupleGo_enum heo λh2 he2 hs2=>?_⟩;have esz:=aM he;have isz:it<s.heap.objs.size:=by obtain⟨_,q,_⟩:=hit;exact aM q
  have I1:Inv X pins σ H {s with heap:=h2,toks:=s.toks+1}:=aMC I (λb o h1' h2' q=>(hs2.2 b h1').trans<|hk1 b o h1' h2' q) f1 f2;have hn:=I.hok.fresh<|aK _;have g2:=(hs2.2 _<|eJ esz).trans ht1
  have I2:Inv X pins σ (upd H s.heap.objs.size<|.tup [.int i,x]) {s with heap:=h2,toks:=s.toks+1}:=by
   refine I1.track hn I.sz (eJ I.lt) (λy c q=>?_) (λy hy=>?_) ⟨by show 2<=AM;decide,[.int i s.toks,u],.cons ⟨_,rfl⟩<|.cons ru .nil,⟨_,g2,rfl,⟨_,rfl⟩,rfl⟩⟩
   ·obtain⟨v,o,ho,_⟩:=I.cell y c q;exact bC<|aM ho
   ·exact bC<|aM (I.pin y hy).1
  refine⟨.ref s.heap.objs.size,_,I2,rfl,⟨_,x,rfl,hn,rfl,λys hy=>by rw[I.list_inj hy hq];exact hx⟩,⟨⟨u,?_⟩,?_⟩,λb hb=>?_⟩
  ·have:((i+1))=(i)+1:=by push_cast;rfl
   exact he2
  ·exact hit1.at λo q=>(hs2.2 it<|Ne.symm hei).trans q
  ·rcases aP.mp hb with z|hb
   ·subst z;rw[bH<|bC esz];exact f1.1
   ·have z:=by simpa using hb
    subst z;rw[bH<|bC isz];exact f2.1
 done:=by intro X hP hw hK hc i pins s σ H E I hf st hg;subst hP hw hK;obtain⟨⟨old,he⟩,hit⟩:=st;obtain⟨xs,hq,hx⟩:=hg;obtain⟨its,rv,p,hz⟩:=I.list hq;obtain⟨f0,f1,f2,f3,f4,f5⟩:=hf it (by simp);have hl:=rv.length;exact wpAny_pyNext_enum_end (I.ok.hd hc) he hit p.isList (by simp;lia) λh' eb=>⟨rfl,I.turned (λb o hb q=>eb b o hb q) f0 f1 f3 f4 f5⟩
 self:=λ_ _ _ _ _ st h=>by obtain⟨⟨old,he⟩,_⟩:=st;exact wpAny_pyIter_enum he h
def aQQ(K:aB)(ta:TA):TI:=λσ H R=>ta σ H λvs H1=>∃l,vs=[.ref l]/\(∃xs,SqL K H1 l xs)/\R (Ite K l) H1
theorem aLz(hg:Gl X "enumerate")(hm:X.mg "enumerate"=none)(ha:PA X [a] ta)(hs:AE [a] X.env=[(false,eval a X.env)]:=by rfl):PI X (.Tuple elts kk tp) (.Call (.Name "enumerate" p) [a] [] pos) (aQQ X.K ta):=by
 intro pins s σ H R I h;refine Call_ (mM I hg hm boot_enumerate<|PyProof.Rows.callWith_type1 (thn (ha pos pins s σ H _ I h) λus s1 ⟨vs,H1,I1,r1,q1⟩=>?_) hs rfl);obtain⟨l,rfl,⟨xs,hq⟩,q⟩:=q1;cases r1 with
 |cons r rr=>
  cases rr;cases r;obtain⟨its,rv,p,hz⟩:=I1.list hq;refine call_enumerate_list p.isList λh' he hit hsz hk=>?_
  refine wpAny_pyIter_enum he ?_;have I2:Inv X pins σ H1 {s1 with heap:=h'}:=I1.kept hk;refine⟨s1.heap.objs.size+1,[s1.heap.objs.size+1,s1.heap.objs.size],_,Ite X.K l,H1,rfl,I2,aGI l _ _<|Nat.succ_ne_self _,⟨⟨_,he⟩,hit⟩,λb hb=>?_,q⟩
  rcases aP.mp hb with z|hb
  ·subst z;exact I1.fpOk (jK _) (I1.hok.fresh<|jK _)
  ·have z:=by simpa using hb
   subst z;exact I1.fpOk (aK _) (I1.hok.fresh<|aK _)
noncomputable def aCN(ds:List D):List D:=(bI ds.length).map λ(i:Nat)=>D.tup [.int (i:Int),ds.getD i .non]
def pW(ds:List D):(aCN ds).length=ds.length:=by simp[aCN]
def uM{i:Nat}(h:(aCN ds)[i]? =some d):∃x,ds[i]? =some x/\d=.tup [.int (i:Int),x]:=by
 unfold aCN at h;rw[aY] at h
 by_cases hi:i<ds.length
 ·rw[rO hi] at h;refine⟨ds[i],by simp[hi],?_⟩;rw[<-bW.inj h];simp[bV,hi]
 ·rw[cV<|by simpa using hi] at h;cases h
def LP(K:aB)(l:BZ)(ds:List D):Hp->Hp->Prop:=λF H=>∃xs,H l=some (.lst xs)/\RepL K F ds xs
def aIK:ItD X.K F₁ (LP X.K l ds) (Ite X.K l) (aCN ds):=λF H _ sH sm hP i=>by
 obtain⟨xs,hl,rl⟩:=hP;refine⟨λhi=>?_,λhi=>?_,λx H' d hd y=>?_⟩
 ·rw[pW] at hi;exact⟨xs,xs[i]'(by rw[rl.len];exact hi),.of hl,by simp[rl.len,hi]⟩
 ·rw[pW] at hi;exact⟨xs,.of hl,by rw[rl.len];exact hi⟩
 ·obtain⟨p,v,rfl,hp,rfl,hv⟩:=y;obtain⟨z,hz,rfl⟩:=uM hd;have hv:=hv xs<|.of hl;obtain⟨v',h1,rz⟩:=rl.get hz;rw[hv] at h1;cases h1;have fp:=sH.free hp;have s1:Same F (upd F p<|.tup [.int i,v]):=λb u q=>by rw[bH<|cD q fp];exact q
  refine⟨upd F p<|.tup [.int i,v],s1,?_,λH₀ σ sd S=>(S.lay (o:=.tup [.int i,v]) hp trivial).1⟩;exact⟨p,_,rfl,bX,.cons (by simp only[Rep]) (.one<|rz.mono s1)⟩
theorem aCq(hg:Gl X "enumerate")(hm:X.mg "enumerate"=none)(ha:PEd X sd a (.val<|.lst ds))(hst:AE [a] X.env=[(false,eval a X.env)]:=by rfl):PId X sd PT0 (.Tuple elts kk tp) (.Call (.Name "enumerate" p) [a] [] pos) (aCN ds):=.mk λσ F H S=>
 (aLz hg hm zV hst).to ((aC ha aN trivial (by rw [hst]; rfl) σ F H S).imp fun vs H1 ⟨F1,S1,s1,q1⟩=>by
  cases q1 with
  |cons q1 q2=>
   cases q2;obtain⟨l,xs,rfl,hl,rl⟩:=q1;refine⟨l,rfl,⟨xs,.of<|S1.sub _ _ hl⟩,F1,S1,s1,λF' H' sF sH sm _ i=>?_⟩
   exact aIK F' H' sF sH sm ⟨xs,sH _ _ (sF _ _ hl),rl.mono sF⟩ i)
theorem aMP{ns:List Int}(r:Vals (ns.map V.int) us)(h:us[i]? =some u):i<ns.length/\∃t,u=.int (ns.getD i 0) t:=by
 have hl:=r.length;rw[aA] at hl;have hi:=(aE.mp h).1
 have e:(ns.map V.int)[i]? =some (.int<|ns.getD i 0):=by
  have:i<ns.length:=by lia
  simp[bV,this]
 obtain⟨u',h1,t,h2⟩:=r.get e;rw[h] at h1;cases h1;exact⟨by lia,t,h2⟩
def cutD(ds:List D)(lo hi:Option Int):List D:=(ds.drop<|HT.sIx ds.length 0 lo).take<|HT.sIx ds.length ds.length hi-HT.sIx ds.length 0 lo
def RepL.cut(r:RepL K H ds xs)(lo hi:Option Int):RepL K H (cutD ds lo hi) (aKA xs lo hi):=by unfold cutD aKA;rw[r.len];exact(r.drop _).take _
def POd(X:Cx)(sd:List Slot)(e:Option Expr)(o:Option Int):Prop:=match e,o with
 |none,none=>True
 |some e,some i=>PEd X sd e (.val<|.int i)
 |_,_=>False
theorem oD(h:POd X sd eo o):∃t:TO,PO X eo t/\∀ (σ:St) (F H:Hp),StF X.K X.B₀ F H σ sd->∀Q:Option Int->Hp->Prop,(∀F' H',StF X.K X.B₀ F' H' σ sd->Same F F'->Q o H')->t σ H Q:=by
 cases eo with
 |none=>
  cases o with
  |none=>exact⟨_,aMy,λσ F H S Q k=>k F H S<|Same.refl _⟩
  |some i=>exact h.elim
 |some e=>
  cases o with
  |none=>exact h.elim
  |some i=>have h:PEd X sd e (.val<|.int i):=h;refine⟨_,aLV fH,λσ F H S Q k=>(h σ F H S).imp λv H1 ⟨F1,S1,s1,q1⟩=>?_⟩;exact⟨i,q1,k F1 H1 S1 s1⟩
theorem aBF{lo hi:Option Expr}(ha:PEd X sd a (.val<|.tup ds))(hl:POd X sd lo ol)(hh:POd X sd hi oh)(hn:¬ (HT.sIx ds.length 0 ol=0/\HT.sIx ds.length ds.length oh=ds.length)):PEd X sd (.Subscript a (.Slice lo hi none p2) pos) (.val (.tup<|cutD ds ol oh)):=.mk λσ F H S=>by obtain⟨tl,pl,kl⟩:=oD hl;obtain⟨th,ph,kh⟩:=oD hh;refine(aCb aPP fH pl ph).to<|(ha σ F H S).imp λv H1 ⟨F1,S1,s1,q1⟩=>kl σ F1 H1 S1 _ λF2 H2 S2 s2=>kh σ F2 H2 S2 _ λF3 H3 S3 s3=>?_;have q1:=Rep.mono (s2.trans s3) q1;obtain⟨l,xs,rfl,hl',rl⟩:=q1;refine⟨l,xs,rfl,.of<|S3.sub _ _ hl',by rw[rl.len];exact hn,λp hp=>?_⟩;obtain⟨S4,s4⟩:=S3.lay (o:=.tup<|aKA xs ol oh) hp trivial;refine⟨_,S4,((s1.trans s2).trans s3).trans s4,?_⟩;exact⟨p,_,rfl,bX,(rl.cut ol oh).mono s4⟩
theorem aJB(ha:PEd X sd a (.val<|.int i)):PEd X sd (.UnaryOp .USub a pos) (.val<|.int (-i)):=.mk λσ F H S=>(aQT aPw fH).to<|(ha σ F H S).imp λv H1 ⟨F1,S1,s1,q1⟩=>by exact⟨i,q1,F1,S1,s1,by simp only[ResOk,Rep]⟩
theorem fE{P:Hp->Hp->Prop}(Sd:Nat->List Slot->Prop)(hi:PId X sd P tg iter ds)(h0:∃sd0,Le sd sd0/\Sd 0 sd0)(hb:∀k d sdk,ds[k]? =some d->Sd k sdk->∃sdt,PGd X sdk tg d sdt/\PSd X sdt body {E with nx:=λsd'=>∃sd2,Le sd' sd2/\Sd (k+1) sd2,ct:=λsd'=>∃sd2,Le sd' sd2/\Sd (k+1) sd2,bk:=E.nx}) (hE:∀sdn,Sd ds.length sdn->E.nx sdn) (hP:∀k sdk σ F H,Sd k sdk->StF X.K X.B₀ F H σ sdk->P F H:=by intros;trivial)(hc:X.calm=true:=by rfl) (hp:PassesOwn (AD X.prog X.w) X.A X.env X.xe:=by exact PassesOwn.never) (hs:∀x,BP iter X.env x=pure x:=by intro _;rfl):PSd1 X sd (.For tg iter body [] pos) E:=.mk λσ F H S=>
 (aJC hp hc aSf aQv vH hs).to (by
  intro pins s I;refine thn (hi σ F H S pins s I) λv s1 h1=>thn h1 λitv s2 h2=>?_
  obtain⟨it,fp,tn,J,H2,e,I2,T,st2,f2,F1,S1,s1',itd⟩:=h2;refine⟨it,fp,tn,J,H2,e,I2,T,st2,f2,?_⟩;obtain⟨sd0,le0,q0⟩:=h0;refine⟨λi m σ' H'=>m=ds.length-i/\i<=ds.length/\∃sdi F',StF X.K X.B₀ F' H' σ' sdi/\Same F1 F'/\Sd i sdi,⟨ds.length,by simp,bM _,sd0,F1,S1.le le0,Same.refl _,q0⟩,?_⟩;rintro i m σ' H' ⟨rfl,hil,sdi,F',S',s',qi⟩;obtain⟨g1,g2,g3⟩:=itd F' H' s' S'.sub S'.smp (hP _ _ _ _ _ qi S') i
  by_cases hlt:i<ds.length
  ·refine .inr ⟨g1 hlt,λσ2 H2=>∃sd2 F2,StF X.K X.B₀ F2 H2 σ2 sd2/\Same F1 F2/\Sd (i+1) sd2,λσ2 H2 ⟨sd2,F2,S2,s2,q2⟩=>⟨ds.length-(i+1),by lia,rfl,hlt,sd2,F2,S2,s2,q2⟩,λx H2 y=>?_⟩;have hd:ds[i]? =some ds[i]:=by simp[hlt]
   obtain⟨F2,s2,rp,up⟩:=g3 x H2 ds[i] hd y;obtain⟨sdt,hg,hbb⟩:=hb i _ sdi hd qi;refine(hg σ' F2 H2 x (up _ _ _ S') rp).imp λσ3 H3 ⟨F3,S3,s3⟩=>?_
   have base:=(s'.trans s2).trans s3;refine(hbb σ3 F3 H3 S3).imp ?_ ?_ ?_ ?_
   ·rintro σ4 H4 ⟨sd4,F4,S4,s4,sd5,le,q5⟩;exact⟨sd5,F4,S4.le le,base.trans s4,q5⟩
   ·exact λv H4 q=>q
   ·rintro σ4 H4 ⟨sd4,F4,S4,s4,q⟩;exact⟨sd4,F4,S4,(s1'.trans base).trans s4,q⟩
   ·rintro σ4 H4 ⟨sd4,F4,S4,s4,sd5,le,q5⟩;exact⟨sd5,F4,S4.le le,base.trans s4,q5⟩
  ·have e:i=ds.length:=by lia
   subst e
   exact .inl ⟨g2 (aK _),sdi,F',S',s1'.trans s',hE sdi qi⟩)
noncomputable def iV(m:Nat):Nat->List (List Int)
 |0=>[[]]
 |k+1=>(iV m k).flatMap λs=>(bI m).map λ(w:Nat)=>s++[(w:Int)]
noncomputable def bF(s:List Int):D:=.tup<|s.map D.int
noncomputable def vP(m:Int)(ws:List Int):Int:=ws.foldl (λn w=>n*m+w) 0
def aQJ(b k:Nat):Bool:=let L:=iV (2^b) k;L.length==2^(b*k)&&(bI L.length).all λi=>let f:=L.getD i [];f.length==k&&f.all (λw=>decide (0<=w)&&decide (w<2^b))&&decide (vP (2^b) f=i)&&(i==0||HT.lexLt (L.getD (i-1) []) f)
def aOi:∀p∈bS,aQJ p.1.toNat p.2.toNat=true:=by decide+kernel
def yN:∀p∈bS,1<=p.1/\p.1<=6/\1<=p.2/\p.2<=6/\p.1*p.2<=6:=by decide+kernel
theorem aEv{m:Nat}:∀ {k:Nat}{ws:List Int},ws.length=k->(∀w∈ws,0<=w/\w<m)->ws∈iV m k
 |0,ws,h,_=>by have:=aCG.mp h;subst this;simp[iV]
 |k+1,ws,h,hw=>by
  have hne:ws≠[]:=by intro z;subst z;simp at h
  have e:=(iQ hne).symm;have hl:=hw (ws.getLast hne)<|List.getLast_mem hne;have ih:ws.dropLast∈iV m k:=aEv (by rw[List.length_dropLast,h];rfl) λw hm=>hw w<|List.dropLast_subset _ hm
  refine dM.mpr ⟨_,ih,aJ.mpr ⟨(ws.getLast hne).toNat,bR.mpr<|by lia,?_⟩⟩;have:(((ws.getLast hne).toNat))=ws.getLast hne:=by lia
  rw[this];exact e.symm
structure aNS(b k:Nat):Prop where
 len:(iV (2^b) k).length=2^(b*k)
 at_:∀i,i<2^(b*k)->((iV (2^b) k).getD i []).length=k/\(∀w∈(iV (2^b) k).getD i [],0<=w/\w<2^b)/\vP (2^b) ((iV (2^b) k).getD i [])=i/\(i=0\/HT.lexLt ((iV (2^b) k).getD (i-1) []) ((iV (2^b) k).getD i [])=true)
theorem aJJ{b k:Nat}(h:aQJ b k=true):aNS b k:=by unfold aQJ at h;simp at h;obtain⟨h1,h2⟩:=h;refine⟨h1,λi hi=>?_⟩;obtain⟨⟨⟨a,b⟩,c⟩,d⟩:=h2 i (by lia);exact⟨a,b,c,d⟩
theorem aOr{b k:Nat}(h:aNS b k)(hl:ws.length=k)(hw:∀w∈ws,0<=w/\w<((2^b:Nat):Int)):0<=vP (2^b) ws/\(vP (2^b) ws).toNat<2^(b*k)/\(iV (2^b) k).getD (vP (2^b) ws).toNat []=ws:=by
 have hm:=aEv hl hw;obtain⟨i,hi,e⟩:=List.mem_iff_getElem.mp hm;have e':(iV (2^b) k).getD i []=ws:=by simp[bV,hi,e]
 rw[h.len] at hi;have hn:=(h.at_ i hi).2.2.1;rw[e'] at hn;rw[hn];refine⟨by lia,by simpa using hi,?_⟩;simpa using e'
theorem aCi:∀ (ws vs:List Int),jV (ws.map D.int) (vs.map D.int)=decide (ws=vs)
 |[],[]=>by simp[jV]
 |[],_::_=>by simp[jV]
 |_::_,[]=>by simp[jV]
 |w::ws,v::vs=>by
  simp only[bG,jV,deq,aCi ws vs]
  by_cases h1:w=v<;>by_cases h2:ws=vs<;>simp[h1,h2]
def sX(ws vs:List Int):deq (bF ws) (bF vs)=decide (ws=vs):=by unfold bF;simp only[deq,aCi]
theorem aCn:∀ws:List Int,plL (ws.map D.int)=true
 |[]=>rfl
 |w::ws=>by simp[plL,pl,aCn ws]
theorem aAf:∀ws:List Int,jI (ws.map D.int)=0
 |[]=>rfl
 |w::ws=>by simp[jI,dep,aAf ws]
def sD(ws:List Int):pl (bF ws)=true:=by simp[bF,pl,aCn]
def yS(ws:List Int):dep (bF ws)=1:=by simp[bF,dep,aAf]
theorem lI:∀L:List (List Int),plL (L.map bF)=true
 |[]=>rfl
 |w::ws=>by simp[plL,sD,lI ws]
theorem kS:∀L:List (List Int),jI (L.map bF)<=1
 |[]=>by simp[jI]
 |w::ws=>by have:=kS ws;simp only[bG,jI,yS];lia
theorem wX:∀ (L M:List (List Int)),jV (L.map bF) (M.map bF)=decide (L=M)
 |[],[]=>by simp[jV]
 |[],_::_=>by simp[jV]
 |_::_,[]=>by simp[jV]
 |w::ws,v::vs=>by
  simp only[bG,jV,sX,wX ws vs]
  by_cases h1:w=v<;>by_cases h2:ws=vs<;>simp[h1,h2]
def aKM(h1: -(2^64)<j)(h2:j<2^64):IntMulOk i j:=.of_right<|intBits_le_64 h1 h2
def nJ{L:List (List Int)}(h:(L.map bF)[k]? =some d):k<L.length/\d=bF (L.getD k []):=by
 rw[aY] at h;cases e:L[k]? with
 |none=>rw[e] at h;cases h
 |some z=>rw[e] at h;refine⟨(aE.mp e).1,?_⟩;rw[<-bW.inj h,bV,e];rfl
theorem aFg{ad:BZ}(hg:Gl X g)(hm:X.mg g=some (.ref ad))(hq:∀H,SqT X.K H ad xs)(ha:PEd X sd a (.val d))(hd:flt d=some v)(fv:oW v=true)(fx:xs.all oW=true)(hk:AY .In (.Name g p)=false:=by with_unfolding_all rfl) (hdb:(g==("__debug__":Str))=false:=by decide):PTd X sd (.Compare a [.In] [.Name g p] pos) (inV v xs):=.mk λσ F H S=>
 (wM aFP fH (aFu (v:= .ref ad) hg hm rfl hdb) hk).to ((ha σ F H S).imp fun x H1 ⟨F1,S1,s1,q1⟩=>by
  have e:=tU hd q1;subst e
  exact⟨ad,xs,rfl,.inr (hq H1),fv,fx,_,rfl,rfl,F1,S1,s1⟩)
def stepNames:List Str:=["and","or","xor","add","take","copy","put","not","up","down"]
def nm(k:Nat):Str:=stepNames.getD k "down"
noncomputable def jT(k:Nat)(i j n:Int):D:=if k<6 then .tup [.str<|nm k,.int i,.int j] else if k=6 then .tup [.str<|nm k,.int i,.int n] else .tup [.str<|nm k,.int i]
noncomputable def aNA(k:Nat)(m a:Int):Int:=match k with
 |7=>m-1-a
 |8=>a*2%m
 |_=>a / 2
noncomputable def aGZ(k:Nat)(m a c:Int):Int:=match k with
 |0=>Builtin.bitAnd a c
 |1=>Builtin.bitOr a c
 |2=>Builtin.bitXor a c
 |3=>(a+c)%m
 |4=>(a-c)%m
 |_=>c
def newW(k:Nat)(m a c n:Int):Int:=if k=6 then n else if 7<=k then aNA k m a else aGZ k m a c
def aDP:∀k,k<10->decide (V.str (nm k)=V.str "and")=decide (k=0):=by decide+kernel
def aKW:∀k,k<10->decide (V.str (nm k)=V.str "or")=decide (k=1):=by decide+kernel
def aEd:∀k,k<10->decide (V.str (nm k)=V.str "xor")=decide (k=2):=by decide+kernel
def aDR:∀k,k<10->decide (V.str (nm k)=V.str "add")=decide (k=3):=by decide+kernel
def aAZ:∀k,k<10->decide (V.str (nm k)=V.str "take")=decide (k=4):=by decide+kernel
def uW:∀k,k<10->decide (V.str (nm k)=V.str "put")=decide (k=6):=by decide+kernel
def aBT:∀k,k<10->decide (V.str (nm k)=V.str "not")=decide (k=7):=by decide+kernel
def aHf:∀k,k<10->decide (V.str (nm k)=V.str "up")=decide (k=8):=by decide+kernel
def aFx:∀k,k<10->inV (V.str<|nm k) [V.str "not",V.str "up",V.str "down"]=decide (7<=k):=by decide+kernel
def aHT:∀b,b<7->∀a,a<2^b->∀c,c<2^b->∀k,k<3->0<=aGZ k 0 ((a:Nat):Int) ((c:Nat):Int)/\aGZ k 0 ((a:Nat):Int) ((c:Nat):Int)<((2^b:Nat):Int):=by decide+kernel
def aRt(h:k<3)(m a c:Int):aGZ k m a c=aGZ k 0 a c:=by
 match k,h with
 |0,_=>rfl
 |1,_=>rfl
 |2,_=>rfl
theorem aHP{b k:Nat}{a c n:Int}(hb:b<7)(hk:k<10)(ha:0<=a/\a<((2^b:Nat):Int))(hc:0<=c/\c<((2^b:Nat):Int))(hn:0<=n/\n<((2^b:Nat):Int)):0<=newW k ((2^b:Nat):Int) a c n/\newW k ((2^b:Nat):Int) a c n<((2^b:Nat):Int):=by
 have ea:a=((a.toNat)):=by lia
 have ec:c=((c.toNat)):=by lia
 have la:a.toNat<2^b:=by generalize 2^b=q at *;lia
 have lc:c.toNat<2^b:=by generalize 2^b=q at *;lia
 have tab:∀k,k<3->0<=aGZ k ((2^b:Nat)) a c/\aGZ k ((2^b:Nat)) a c<((2^b)):=λk hk=>by rw[aRt hk,ea,ec];exact aHT b hb _ la _ lc k hk
 have mpos:(0)<((2^b:Nat):Int):=by lia
 match k,hk with
 |0,_=>exact tab 0<|by decide
 |1,_=>exact tab 1<|by decide
 |2,_=>exact tab 2<|by decide
 |3,_=>exact⟨dU _<|lA mpos,dE _ mpos⟩
 |4,_=>exact⟨dU _<|lA mpos,dE _ mpos⟩
 |5,_=>exact hc
 |6,_=>exact hn
 |7,_=>show 0<=((2^b:Nat))-1-a/\((2^b:Nat))-1-a<((2^b:Nat));generalize ((2^b))=q at *;lia
 |8,_=>exact⟨dU _<|lA mpos,dE _ mpos⟩
 |9,_=>show 0<=a / 2/\a / 2<((2^b:Nat));generalize ((2^b))=q at *;lia
theorem aGk{g g':Int->Int->Bool}(ho:OpR X (AU op) (rI0 λi j=>.bl<|g i j))(ho':OpR X (AU op') (rI0 λi j=>.bl<|g' i j))(ha:PEd X sd a (.val<|.int i))(hb:PEd X sd b (.val<|.int j))(hc:PEd X sd c (.val<|.int l))(hm:lastMarks [op,op'] [b,c]=false:=by with_unfolding_all rfl):PEd X sd (.Compare a [op,op'] [b,c] pos) (.val (.bl<|g i j&&g' j l)):=.mk λσ F H S=>
 (aHO ho ho' fH fH fH hm).to ((ha σ F H S).imp fun v H1 ⟨F1,S1,s1,q1⟩=>(hb σ F1 H1 S1).imp fun u H2 ⟨F2,S2,s2,q2⟩=>by
  refine⟨i,j,q1,q2,g i j,rfl,?_⟩;cases hk:g i j with
  |true=>
   refine(hc σ F2 H2 S2).imp λw H3 ⟨F3,S3,s3,q3⟩=>?_
   exact⟨j,l,q2,q3,F3,S3,s1.trans<|s2.trans s3,by simp only[ResOk,Rep,aQf]⟩
  |false=>exact⟨F2,S2,s1.trans s2,by simp only[ResOk,Rep,aPU]⟩)
def aEq(ha:PEd X sd a (.val<|.int i))(hb:PEd X sd b (.val<|.int j)):PEd X sd (.Compare a [.Eq] [b] pos) (.val<|.bl (decide<|i=j)):=
 sL aNw ha hb trivial (gR _) λσ F H v u Q S q1 q2 k=>by
  subst q1;subst q2;refine⟨rfl,?_⟩;have e:decide (V.int i=V.int j)=decide (i=j):=by rw[wJ,aDH]
  rw[e];exact k F H S<|Same.refl _
variable {o:Expr}
def PEd.ic(h:PEd X sd e (.val<|.int i))(q:i=j):PEd X sd e (.val<|.int j):=q▸h
mutual
noncomputable def noL:D->Bool
 |.tup ds=>aMT ds
 |.lst _=>false
 |.scr _=>false
 |.dic=>false
 |.dki _ _=>false
 |.any _=>false
 |_=>true
noncomputable def aMT:List D->Bool
 |[]=>true
 |d::ds=>noL d&&aMT ds
end
noncomputable def del(F:Hp)(l:BZ):Hp:=λb=>if b=l then none else F b
def xK{l b:BZ}(h:b≠l):del F l b=F b:=by unfold del;rw[if_neg h]
def aCx:del F l l=none:=by unfold del;rw[if_pos rfl]
mutual
theorem Rep.del{K:aB}{F:Hp}{l:BZ}{xs:List V}(hl:F l=some (.lst xs)):∀ {d:D}{v:V},noL d=true->Rep K F d v->Rep K (del F l) d v
 |.non,_,_,r=>by simpa only[Rep] using r
 |.bl _,_,_,r=>by simpa only[Rep] using r
 |.int _,_,_,r=>by simpa only[Rep] using r
 |.str _,_,_,r=>by simpa only[Rep] using r
 |.tup ds,v,h,r=>by
  obtain⟨a,ys,e,q,rl⟩:=r
  have ne:a≠l:=λz=>by rw[z,hl] at q;cases q
  exact⟨a,ys,e,by rw[xK ne];exact q,RepL.del hl (by simpa only[noL] using h) rl⟩
 |.lst _,_,h,_=>by simp[noL] at h
 |.dic,_,h,_=>by simp[noL] at h
 |.dki _ _,_,h,_=>by simp[noL] at h
 |.any _,_,h,_=>by simp[noL] at h
 |.scr _,_,h,_=>by simp[noL] at h
theorem RepL.del{K:aB}{F:Hp}{l:BZ}{xs:List V}(hl:F l=some (.lst xs)):∀ {ds:List D}{ys:List V},aMT ds=true->RepL K F ds ys->RepL K (del F l) ds ys
 |[],_,_,r=>by simpa only[RepL] using r
 |d::ds,ys,h,r=>by simp only[aMT,bL] at h;obtain⟨y,zs,rfl,a,rl⟩:=r.uncons;exact .cons (Rep.del hl h.1 a)<|RepL.del hl h.2 rl
end
theorem aCe:∀ {sd:List Slot}{σ:St},σ.length=sd.length->(∀ (k:Nat) (z:Slot),sd[k]? =some z->∃o,σ[k]? =some o/\iB K F H z o)->SlotsOk K F H sd σ
 |[],[],_,_=>rfl
 |z::zs,o::r,hl,h=>by
  obtain⟨o',e,q⟩:=h 0 z rfl;have:=by simpa using e
  subst this
  exact ⟨o,r,rfl,q,aCe (by simpa using hl) fun k z hz=>by
   obtain⟨o',e,q⟩:=h (k+1) z (by simpa using hz)
   exact⟨o',by simpa using e,q⟩⟩
 |[],_::_,hl,_=>by simp at hl
 |_::_,[],hl,_=>by simp at hl
def okS:Slot->Bool
 |.own _ ds=>aMT ds
 |.od _ _ ds=>aMT ds
 |.ox _ _=>false
 |_=>true
def Oth(sd:List Slot)(i:Nat):Prop:=∀ (k:Nat) (z:Slot),k≠i->sd[k]? =some z->okS z=true
variable {i:Nat}{l:BZ}{xs:List V}
def StF.lend(S:StF K H₀ F H σ sd)(hs:sd[i]? =some (.own l ds))(hx:H l=some (.lst xs)):StF K H₀ (upd F l<|.lst xs) H σ (sd.set i (.val<|.lst ds)):=by obtain⟨o,h1,h2,n,ys,q,rl⟩:=S.slots.get hs;rw[hx] at q;cases q;have S0:=S.le<|gS sd i;obtain⟨S1,s1⟩:=S0.freeze hx n<|pX S.nd hs;have S2:=S1.set (d:=.lst ds) i (by exact⟨l,xs,rfl,bX,rl.mono s1⟩);rw[jD,lH<|by rw[h1,h2]] at S2;exact S2
def StF.back(S:StF K H₀ F H σ sd)(hs:sd[i]? =some (.own l ds))(hx:H l=some (.lst xs))(ho:Oth sd i)(S':StF K H₀ F' H' σ (sd.set i (.val<|.lst ds)))(s:Same (upd F l<|.lst xs) F'):StF K H₀ (del F' l) H' σ sd/\Same F (del F' l)/\F' l=some (.lst xs):=by
 obtain⟨o,h1,h2,n,ys,q,rl⟩:=S.slots.get hs;rw[hx] at q;cases q;have fl:=s _ _ bX
 have sF:Same F (del F' l):=λb u e=>by have ne:=cD e n;rw[xK ne];exact s _ _ (by rw[bH ne];exact e)
 refine⟨⟨λb u e=>sF _ _<|S.base _ _ e,λb u e=>?_,S'.smp,?_,S.nd⟩,sF,fl⟩
 ·by_cases h:b=l
  ·subst h;rw[aCx] at e;cases e
  ·rw[xK h] at e;exact S'.sub _ _ e
 ·refine aCe S.slots.len λk z hz=>?_
  by_cases hk:k=i
  ·subst hk;rw[hs] at hz;cases hz;exact⟨o,h1,h2,aCx,xs,S'.sub _ _ fl,rl.mono sF⟩
  ·obtain⟨o1,g1,g2⟩:=S.slots.get hz;obtain⟨o2,g3,g4⟩:=S'.slots.get (by rw[lX<|Ne.symm hk];exact hz);rw[g1] at g3;cases g3;refine⟨o1,g1,?_⟩;cases z with
   |un=>trivial
   |val d=>obtain⟨v,e,r⟩:=g2;exact⟨v,e,r.mono sF⟩
   |gh d G=>obtain⟨v,e,r,g⟩:=g2;exact⟨v,e,r.mono sF,λF2 s2=>g F2<|sF.trans s2⟩
   |own l' ds'=>
    obtain⟨e,n',ys,q',rl'⟩:=g4
    have ne:l'≠l:=λe2=>by rw[e2,fl] at n';cases n'
    exact⟨e,by rw[xK ne];exact n',ys,q',RepL.del fl (ho k _ hk hz) rl'⟩
   |od l' ks ds'=>
    obtain⟨e,n',ys,q',ln,rl'⟩:=g4
    have ne:l'≠l:=λe2=>by rw[e2,fl] at n';cases n'
    exact⟨e,by rw[xK ne];exact n',ys,q',ln,RepL.del fl (ho k _ hk hz) rl'⟩
   |ox ls G=>exact absurd (ho k _ hk hz) (by simp[okS])
def PTd.lend(i:Nat)(hs:sd[i]? =some (.own l ds))(ho:Oth sd i)(h:PTd X (sd.set i (.val<|.lst ds)) e k):PTd X sd e k:=.mk λσ F H S=>by
 obtain⟨o,h1,h2,n,xs,q,rl⟩:=S.slots.get hs;refine(h σ _ H<|S.lend hs q).imp λv H' ⟨e,F',S',s'⟩=>?_
 obtain⟨S2,s2,fl⟩:=S.back hs q ho S' s';exact⟨e,del F' l,S2,s2⟩
def PTd.cast(h:PTd X sd e k)(q:k=k'):PTd X sd e k':=q▸h
def aQH:List Slot->Nat->Bool
 |[],_=>true
 |_::zs,0=>zs.all okS
 |z::zs,i+1=>okS z&&aQH zs i
theorem aOj:∀ {sd:List Slot}{i:Nat},aQH sd i=true->Oth sd i
 |[],_,_,k,y,_,hz=>by simp at hz
 |z::zs,0,h,k,y,hk,hz=>by
  cases k with
  |zero=>exact absurd rfl hk
  |succ k=>exact cZ.mp (h) _ (aQ<|by simpa using hz)
 |z::zs,i+1,h,k,y,hk,hz=>by
  have h':(okS z&&aQH zs i)=true:=h;rw[bL] at h';cases k with
  |zero=>
   have:=by simpa using hz
   subst this;exact h'.1
  |succ k=>exact aOj h'.2 k y (λq=>hk<|by rw[q]) (by simpa using hz)
def aHs(i j:Nat)(hs:sd[j]? =some (.own l ds))(hN:X.N.Nodup)(hi:X.N[i]? =some x)(hx:Loc X.env.scope x)(hy:PE X (.Name y q) (kU j))(hE:E.nx ((sd.set j .un).set i<|.own l ds))(hsw:Af (.Name y q) (some<|.Name x p) pos.line X.env=pure false:=by rfl)(hf:X.fn x=true\/X.env.scope.names.lookup x=some .local:=by first|exact .inl rfl|exact .inr rfl|assumption):PSd1 X sd (.Assign [.Name x p] (.Name y q) pos) E:=.mk λσ F H S=>
 (qZ hN hi hx hy hsw hf).to (by
  obtain⟨o,h1,h2,n,xs,g,rl⟩:=S.slots.get hs
  exact⟨.ref l,by rw[h1,h2],_,F,(S.le (gS sd j)).setO i n g rl (pX S.nd hs),Same.refl _,hE⟩)
def aFS:mG X (.type "int") (λxs H Q=>∃k,xs=[.bl k]/\Q (.int (if k then 1 else 0)) H):=by intro pins s σ H xs us Q I r h;obtain⟨k,rfl,q⟩:=h;obtain⟨u,rfl,ru⟩:=oX r;cases(ru);exact call_int_bool ⟨.int _,H,I.kept λb o g=>g,⟨_,rfl⟩,q⟩
def aMo(hg:Gl X "int")(hm:X.mg "int"=none)(ha:PEd X sd e (.val<|.bl k))(hst:AE [e] X.env=(false,eval e X.env)::AE [] X.env:=by rfl):PEd X sd (.Call (.Name "int" p) [e] [] pos) (.val<|.int (if k then 1 else 0)):=
 aAe (he:=hst) aFS hg hm PyProof.Rows.boot_int (aC ha aN trivial hst) λσ F H vs Q S q kk=>by
  cases q with
  |cons q1 q2=>cases q2;subst q1;exact⟨k,rfl,kk _ F H S (Same.refl _)<|by simp only[ResOk,Rep]⟩
theorem aPp{lo hi:Option Expr}(ha:PEd X sd a (.val<|.scr ns))(hl:POd X sd lo ol)(hh:POd X sd hi oh):PEd X sd (.Subscript a (.Slice lo hi none p2) pos) (.own<|DL.cutD (ns.map D.int) ol oh):=.mk λσ F H S=>by
 obtain⟨tl,pl,kl⟩:=oD hl;obtain⟨th,ph,kh⟩:=oD hh;refine(aCb aMa fH pl ph).to<|(ha σ F H S).imp λv H1 ⟨F1,S1,s1,q1⟩=>kl σ F1 H1 S1 _ λF2 H2 S2 s2=>kh σ F2 H2 S2 _ λF3 H3 S3 s3=>?_;have q1:=Rep.mono (s2.trans<|s3.trans S3.sub) q1;obtain⟨l,rfl,hl'⟩:=q1;refine⟨l,_,rfl,hl',λp hp=>?_⟩;obtain⟨S4,fp,no⟩:=S3.layO hp
 have rl:=by
  have g:∀l:List Int,RepL X.K F3 (l.map D.int) (l.map V.int):=λl=>by
   induction l with
   |nil=>exact .nil
   |cons k l ih=>exact .cons (by simp only[Rep]) ih
  exact g ns
 exact⟨F3,S4,(s1.trans s2).trans s3,p,_,rfl,fp,bX,rl.cut ol oh,no⟩
def aGt(hc:X.calm=true):mG X (.builtin "sum") (λxs H Q=>∃ (a:BZ) (ns:List Int),xs=[.ref a]/\SqL X.K H a (ns.map V.int)/\Q (.int<|preSum (λi=>ns.getD i 0) ns.length) H):=by
 intro pins s σ H xs us Q I r h;obtain⟨a,ns,rfl,ha,q⟩:=h;obtain⟨u,rfl,ru⟩:=oX r;cases ru;obtain⟨its,rv,p,hz⟩:=I.list ha;have hl:=rv.length;rw[aA] at hl;have isl:=p.isList;have alt:a<s.heap.objs.size:=by obtain⟨o,ho,_⟩:=isl;exact aM ho
 refine call_sum_walkAnyS<|Au isl ?_;refine⟨s.heap.objs.size,_,_,_,its.toArray.size,_,_,λi=>ns.getD i 0,rfl,(Walks.list (A:=X.A.in1) (I.ok.hd hc) s.heap.objs.size a (bC alt) its.toArray).toS,⟨⟨_,aR _ rfl,rfl,rfl⟩,isl.push _⟩,λb hb=>?_,λi v hv=>(aMP rv<|by simpa using hv).2,λs' t' hm=>?_⟩
 ·rw[size_push']
  rcases aP.mp hb with e|hb
  ·rw[e];exact jQ _
  ·have e:=by simpa using hb
   rw[e];exact oC alt
 ·rw[Moved.eq_with hm];have sz:its.toArray.size=ns.length:=by rw[bB,hl]
  rw[sz];refine⟨.int _,H,I.kept λb o g=>hm.heap b o (λhI=>?_)<|aD _ g,⟨_,rfl⟩,q⟩;have e:=by simpa using hI
  exact absurd (aM g) (by rw[e];exact dH _)
def aED{p:Pos}{ns:List Int}(hg:Gl X "sum")(hm:X.mg "sum"=none)(ha:PEd X sd e (.bor<|ns.map D.int))(hc:X.calm=true:=by rfl)(hst:AE [e] X.env=(false,eval e X.env)::AE [] X.env:=by rfl):PEd X sd (.Call (.Name "sum" p) [e] [] pos) (.val (.int<|preSum (λi=>ns.getD i 0) ns.length)):=
 lG (he:=hst) (aGt hc) hg hm boot_sum (aC ha aN trivial hst) λσ F H vs Q S q k=>by
  cases q with
  |cons q1 q2=>cases q2;obtain⟨p,xs,rfl,hp,rl,_⟩:=q1;exact⟨p,ns,rfl,.of (by rw[<-rl.ints];exact hp),k _ F H S (Same.refl _)<|by simp only[ResOk,Rep]⟩
def aHq:List D->R->Prop:=λds r=>∃ (ns:List Int) (k:Nat),ds=[.scr ns,.int (k:Int)]/\k<=1000/\r=.val (.int<|ns.getD k 0)
abbrev SQ:=Nat×Int×Int×Int
def sqD(q:SQ):D:=jT q.1 q.2.1 q.2.2.1 q.2.2.2
structure rA(p:Int×Int)(q:SQ):Prop where
 sz:p∈bS
 k10:q.1<10
 i0:0<=q.2.1/\q.2.1<p.2
 j0:0<=q.2.2.1/\q.2.2.1<p.2
 n0:0<=q.2.2.2/\q.2.2.2<((2^p.1.toNat:Nat):Int)
theorem pw0(n:Nat):(0:Int)<((2^n:Nat):Int):=by have:0<2^n:=Nat.pow_pos (by decide);generalize 2^n=q at this ⊢;lia
abbrev SK:=SQ×Int
def skD(s:SK):D:=.tup [sqD s.1,.int s.2]
structure StkOk(p:Int×Int)(L:List SK):Prop where
 pos:0<L.length
 le:L.length<=8
 st:∀s∈L,rA p s.1/\1<=s.2/\s.2<=9
structure Fil(p:Int×Int)(ws:List Int):Prop where
 len:ws.length=p.2.toNat
 wd:∀w∈ws,0<=w/\w<((2^p.1.toNat:Nat):Int)
def nwQ(p:Int×Int)(q:SQ)(ws:List Int):Int:=newW q.1 ((2^p.1.toNat:Nat):Int) (ws.getD q.2.1.toNat 0) (ws.getD q.2.2.1.toNat 0) q.2.2.2
def onQ(p:Int×Int)(q:SQ)(ws:List Int):List Int:=ws.set q.2.1.toNat<|nwQ p q ws
theorem aLr(O:rA p q)(G:Fil p ws):0<=nwQ p q ws/\nwQ p q ws<((2^p.1.toNat:Nat):Int):=by obtain⟨h1,h2,h3,h4,h5⟩:=yN p O.sz;exact aHP (by lia) O.k10 (G.wd _ (getD_mem<|by have:=O.i0;rw[G.len];lia)) (G.wd _ (getD_mem<|by have:=O.j0;rw[G.len];lia)) O.n0
def aBb(O:rA p q)(G:Fil p ws):Fil p (onQ p q ws):=by
 refine⟨by unfold onQ;rw[List.length_set];exact G.len,λw hw=>?_⟩
 rcases List.mem_or_eq_of_mem_set hw with hw|rfl
 ·exact G.wd w hw
 ·exact aLr O G
theorem lF(hp:p∈bS)(h:ws∈iV (2^p.1.toNat) p.2.toNat):Fil p ws:=by
 have g:∀ (m k:Nat),∀s∈iV m k,s.length=k/\∀x∈s,0<=x/\x<(m):=λm k=>by
  induction k with
  |zero=>
   intro s h;have:=by simpa[iV] using h
   subst this;exact⟨rfl,λx hx=>by cases hx⟩
  |succ k ih=>
   intro s h;obtain⟨t,ht,hs⟩:=dM.mp h;obtain⟨w,hw,rfl⟩:=aJ.mp hs;obtain⟨a,b⟩:=ih t ht;refine⟨by rw[aV,a];rfl,λx hx=>?_⟩
   rcases aS.mp hx with hx|hx
   ·exact b x hx
   ·have e:=by simpa using hx
    have:=bR.mp hw;lia
 obtain⟨a,b⟩:=g _ _ ws h;exact⟨a,b⟩
noncomputable def cS(row:List Nat):List D:=row.map λ(t:Nat)=>D.int (t:Int)
noncomputable def aKz(L:List SK)(row:List Nat):List Int:=row.map λt=>(L.getD t AN).2
noncomputable def aNa(l:List Int):Int:=preSum (λi=>l.getD i 0) l.length
def aJZ:List D->R->Prop:=λds r=>∃ (L:List SK) (row:List Nat),(∀t∈row,t<L.length)/\row.length<=500/\ds=[.lst<|L.map skD,.tup<|cS row]/\r=.val (.int (aNa<|aKz L row))
theorem xO:∀n,(∀i,i<n->f i=g i)->preSum f n=preSum g n
 |0,_=>rfl
 |n+1,h=>by show preSum f n+f n=preSum g n+g n;rw[xO n λi hi=>h i<|by lia,h n<|by omega]
def aGx(l:List Int)(x:Int):aNa (l++[x])=aNa l+x:=by unfold aNa;rw[aV];show preSum _ l.length+_=_;rw[xO (g:=λi=>l.getD i 0) l.length λi hi=>by simp[bV,cO hi]];simp[bV]
mutual
theorem xU:∀d:D,pl d=true->deq d d=true
 |.non,_=>rfl
 |.bl b,_=>by simp[deq]
 |.int i,_=>by simp[deq]
 |.str x,_=>by simp[deq]
 |.tup ds,h=>by exact qE ds (by simpa only[pl] using h)
 |.lst ds,h=>by exact qE ds (by simpa only[pl] using h)
 |.dic,h=>by simp[pl] at h
 |.dki _ _,h=>by simp[pl] at h
 |.any _,h=>by simp[pl] at h
 |.scr _,h=>by simp[pl] at h
theorem qE:∀ds:List D,plL ds=true->jV ds ds=true
 |[],_=>rfl
 |d::ds,h=>by simp only[plL,bL] at h;simp only[jV,bL];exact⟨xU d h.1,qE ds h.2⟩
end
def aMA(h:(cS row)[k]? =some d):k<row.length/\d=.int ((row.getD k 0:Nat):Int):=by
 unfold cS at h;rw[aY] at h;cases e:row[k]? with
 |none=>rw[e] at h;cases h
 |some z=>rw[e] at h;refine⟨(aE.mp e).1,?_⟩;rw[<-bW.inj h,bV,e];rfl
def aEp{L:List SK}(h:t<L.length):(L.map skD)[t]? =some (skD<|L.getD t AN):=by simp[bV,h]
def ItAt(tp:Bool)(h:CB)(it src:BZ)(i:Nat):Prop:=match tp with
 |true=>h.IsTupleIter it src i
 |false=>h.IsListIter it src i
def SqAt(tp:Bool)(h:CB)(src:BZ)(xs:Array BX):Prop:=match tp with
 |true=>h.IsTuple src xs
 |false=>h.IsList src xs
def ItAt.ex(x:ItAt tp h it src i):∃o,h.get? it=some o/\∀v,o.data≠ .cell v:=by
 cases tp with
 |true=>obtain⟨o,e,_,d⟩:=(x);exact⟨o,e,λv z=>by rw[d] at z;cases z⟩
 |false=>obtain⟨o,e,_,d⟩:=(x);exact⟨o,e,λv z=>by rw[d] at z;cases z⟩
def ItAt.keep(x:ItAt tp h it src i)(k:∀o,h.get? it=some o->h'.get? it=some o):ItAt tp h' it src i:=by
 cases tp with
 |true=>exact Heap.IsTupleIter.at (x) k
 |false=>exact Heap.IsListIter.at (x) k
def SqAt.keep{xs:Array BX}(x:SqAt tp h src xs)(k:∀o,h.get? src=some o->h'.get? src=some o):SqAt tp h' src xs:=by
 cases tp with
 |true=>exact Heap.IsTuple.at (x) k
 |false=>exact Heap.IsList.at (x) k
def SqAt.lt{xs:Array BX}(x:SqAt tp h src xs):src<h.objs.size:=by
 cases tp with
 |true=>obtain⟨o,e,_⟩:=(x);exact aM e
 |false=>obtain⟨o,e,_⟩:=(x);exact aM e
variable {prog:AF}{A:CA}{E:BX->BY->Prop}
theorem aHR(hit:s.heap.IsTupleIter it t i)(hl:s.heap.IsTuple t items)(hx:items[i]? =some x)(hQ:∀h',h'.IsTupleIter it t (i+1)->Heap.SameBut it s.heap h'->Q x {s with heap:=h'}):AH (AD prog w) A (Builtin.SmallTypes.nextOf<|.ref it) Q E s:=by obtain⟨o,ho,hc,hd⟩:=id hit;obtain⟨ol,hol,_,nl,hdl⟩:=hl;refine AA<|AS hit.typeIs F.slot_tuple_iterator_next (AQ F.slot_tuple_iterator_next hit.typeIs F.entry_tuple_iterator_next ?_<|F.args_tuple_iterator_next_1 _);show AH _ _ (field (.ref it) 0>>=λl=>if(l==Value.none)=true then _ else field (.ref it) 1>>=_) _ _ s;refine AA<|Aa ho hd rfl ?_;refine AA<|Aa ho hd rfl (AA<|AW hol hdl ?_);simp only[eM,hx];refine AA (Az ho hd (by simp)<|AB ⟨x,rfl,AB (hQ _ ⟨_,eE _ ho (Obj.isFreed_of_fields<|Obj.data_mapFields hd _),(Obj.cls_mapFields ..).trans hc,?_⟩<|Heap.SameBut.update ..)⟩);rw[Obj.data_mapFields hd];simp[BJ]
theorem aLo(hh:A.handled=none)(hit:s.heap.IsTupleIter it t i)(hl:s.heap.IsTuple t items)(hx:items[i]? =none)(hE:∀h' e,Heap.ExtBut it s.heap h'->(∃o,h'.get? e=some o/\o.cls=.type "StopIteration")->E (.ref e) {s with heap:=h'}):AH (AD prog w) A (Builtin.SmallTypes.nextOf<|.ref it) Q E s:=by
 obtain⟨o,ho,hc,hd⟩:=id hit;obtain⟨ol,hol,_,nl,hdl⟩:=hl;refine AA<|AS hit.typeIs F.slot_tuple_iterator_next (AQ F.slot_tuple_iterator_next hit.typeIs F.entry_tuple_iterator_next ?_<|F.args_tuple_iterator_next_1 _);show AH _ _ (field (.ref it) 0>>=λl=>if(l==Value.none)=true then _ else field (.ref it) 1>>=_) _ _ s;refine AA<|Aa ho hd rfl ?_;refine AA<|Aa ho hd rfl (AA<|AW hol hdl ?_);simp only[eM,hx];refine AA (Av<|AA (Az ho hd (by simp)<|AA ?_));refine AA (AO (AA<|wpAny_of_eq (by first|rfl|(rfl)) (AO ?_<|by size_fits))<|by size_fits);refine AA<|wpAny_handled ?_;rw[hh];exact AA<|AB (wpAny_throw<|hE _ _ (((Heap.SameBut.update ..).extBut.push _).push _) ⟨_,aR _ rfl,rfl⟩)
def aBd(hit:ItAt tp s.heap it t i)(hl:SqAt tp s.heap t items)(hx:items[i]? =some x)(hQ:∀h',ItAt tp h' it t (i+1)->Heap.SameBut it s.heap h'->Q x {s with heap:=h'}):AH (AD prog w) A (Builtin.SmallTypes.nextOf<|.ref it) Q E s:=by
 cases tp with
 |true=>exact aHR hit hl hx hQ
 |false=>exact wpAny_nextOf_list_item hit hl hx hQ
def aJm(hh:A.handled=none)(hit:ItAt tp s.heap it t i)(hl:SqAt tp s.heap t items)(hx:items[i]? =none)(hE:∀h' e,Heap.ExtBut it s.heap h'->(∃o,h'.get? e=some o/\o.cls=.type "StopIteration")->E (.ref e) {s with heap:=h'}):AH (AD prog w) A (Builtin.SmallTypes.nextOf<|.ref it) Q E s:=by
 cases tp with
 |true=>exact aLo hh hit hl hx hE
 |false=>exact wpAny_nextOf_list_end hh hit hl hx hE
def aLO{z TI TO i1 i2 l1 l2:BZ}{xs ys:Array BX}{x y a b:BX}{Q:BX->BY->Prop}(D:ZipApart z TI TO i1 i2 l1 l2)(hz:IsZip s.heap z TI TO .none) (hTI:IsPair s.heap TI (.ref i1) (.ref i2)) (hTO:IsPair s.heap TO a b) (h1:ItAt p1 s.heap i1 l1 k1) (h2:ItAt p2 s.heap i2 l2 k2) (hl1:SqAt p1 s.heap l1 xs) (hl2:SqAt p2 s.heap l2 ys) (hx:xs[k1]? =some x) (hy:ys[k2]? =some y)(hQ:∀h',IsZip h' z TI TO (BJ s.heap.objs.size)->IsPair h' TO x y->ItAt p1 h' i1 l1 (k1+1)->ItAt p2 h' i2 l2 (k2+1)->IsPair h' s.heap.objs.size x y->h'.objs.size=s.heap.objs.size+1->(∀c o,c≠z->c≠TO->c≠i1->c≠i2->s.heap.get? c=some o->h'.get? c=some o)->Q (.ref s.heap.objs.size) {s with heap:=h'}):AH (AD prog w) A (Builtin.«zip.__next__» ⟨[.ref z],[]⟩) (λfin s'=>∃v,fin=.done (.ret v)/\Q v s') E s:=by
 refine(show AH _ _ (field (.ref z) 2>>=λ_=>field (.ref z) 3>>=_) _ _ _ from AA (Aa hz rfl rfl (AA<|Aa hz rfl rfl (AA<|AW hTI rfl ?_))));refine(AA ?_);unfold Builtin.SmallTypes.ownedTupleIsFree;refine AA (Aa hz rfl rfl<|AB ?_);simp only[if_true];refine AA<|Av (AA<|Aa hz rfl rfl (AA<|AZ hz (by simp) λg1 hz1 s1=>?_))
 replace hz1:=hz1
 refine AA ?_;simp only[aMQ,List.zipIdx_nil,aNb,List.forIn_nil];have s1':=s1.extBut;refine AA (AA<|wpAny_onRaise (AA<|aBd (h1.keep λo e=>s1' _ _ D.i1z e) (hl1.keep λo e=>s1' _ _ D.l1z e) hx λg2 n1 s2=>AB ?_));have s2':=s2.extBut;have o2:=s2' _ _ D.TOi1<|s1' _ _ D.TOz hTO;refine AA (AW o2 rfl<|AA (wpAny_updateSeq_pair o2 λg3 o3 s3=>AA (BF<|AB ?_)))
 replace o3:=o3
 have s3':=s3.extBut;refine AA (AA<|wpAny_onRaise (AA<|aBd (h2.keep λo e=>s3' _ _ D.TOi2.symm (s2' _ _ D.i12.symm<|s1' _ _ D.i2z e)) (hl2.keep λo e=>s3' _ _ D.l2TO (s2' _ _ D.l2i1<|s1' _ _ D.l2z e)) hy λg4 n2 s4=>AB ?_));have s4':=s4.extBut;have o4:=s4' _ _ D.TOi2 o3;refine AA (AW o4 rfl<|AA (wpAny_updateSeq_pair o4 λg5 o5 s5=>AA<|BF (AB<|AB ?_)))
 replace o5:IsPair g5 TO x y:=o5
 have s5':=s5.extBut;refine AA<|AW o5 rfl (AA<|wpAny_newTuple ?_);have sz:g5.objs.size=s.heap.objs.size:=by rw[s5.1,s4.1,s3.1,s2.1,s1.1]
 have z5:=s5' _ _ D.TOz.symm<|s4' _ _ D.i2z.symm (s3' _ _ D.TOz.symm<|s2' _ _ D.i1z.symm hz1);have k5:∀c o,c≠z->c≠TO->c≠i1->c≠i2->s.heap.get? c=some o->g5.get? c=some o:=λc o c1 c2 c3 c4 e=>s5' _ _ c2 (s4' _ _ c4<|s3' _ _ c2 (s2' _ _ c3<|s1' _ _ c1 e))
 have m1:=n1.keep λo e=>s5' _ _ D.TOi1.symm (s4' _ _ D.i12<|s3' _ _ D.TOi1.symm e)
 have m2:=n2.keep λo e=>s5' _ _ D.TOi2.symm e
 have zlt:=aM z5;refine(AA ?_);unfold Builtin.SmallTypes.ownedTupleHandOut;refine AA<|AZ (aD _ z5) (by simp) λg7 z7 s7=>?_
 replace z7:IsZip g7 z TI TO (BJ g5.objs.size):=z7
 refine AZ z7 (by simp) λg8 z8 s8=>?_
 replace z8:=z8
 have up:∀c o,c≠z->g5.get? c=some o->g8.get? c=some o:=λc o c1 e=>s8.extBut _ _ c1 (s7.extBut _ _ c1<|aD _ e)
 have t8:=s8.extBut _ _ (eJ zlt) (s7.extBut _ _ (eJ zlt)<|aR _ rfl);have q8:g8.objs.size=g5.objs.size+1:=by rw[s8.1,s7.1,gQ]
 rw[sz] at z8 t8 q8;refine AB ⟨_,rfl,show Q (.ref g5.objs.size) _ from ?_⟩;rw[sz];exact hQ g8 z8 (up _ _ D.TOz o5) (m1.keep λo e=>up _ o D.i1z e) (m2.keep λo e=>up _ o D.i2z e) t8 q8 λc o c1 c2 c3 c4 e=>up c o c1<|k5 c o c1 c2 c3 c4 e
def aPG{z TI TO i1 i2 l1 l2:BZ}{xs ys:Array BX}{a b:BX}(hh:A.handled=none)(D:ZipApart z TI TO i1 i2 l1 l2)(hz:IsZip s.heap z TI TO .none) (hTI:IsPair s.heap TI (.ref i1) (.ref i2)) (hTO:IsPair s.heap TO a b) (h1:ItAt p1 s.heap i1 l1 k1) (h2:ItAt p2 s.heap i2 l2 k2) (hl1:SqAt p1 s.heap l1 xs) (hl2:SqAt p2 s.heap l2 ys) (hend:xs[k1]? =none\/ys[k2]? =none)(hE:∀h' e,(∀c o,c≠z->c≠TO->c≠i1->c≠i2->s.heap.get? c=some o->h'.get? c=some o)->(∃o,h'.get? e=some o/\o.cls=.type "StopIteration")->E (.ref e) {s with heap:=h'}):AH (AD prog w) A (Builtin.«zip.__next__» ⟨[.ref z],[]⟩) Q E s:=by
 refine(show AH _ _ (field (.ref z) 2>>=λ_=>field (.ref z) 3>>=_) _ _ _ from AA (Aa hz rfl (x:=.bool false) rfl (AA<|Aa hz rfl rfl (AA<|AW hTI rfl ?_))));refine(AA ?_);refine AA (Aa hz rfl rfl<|AB ?_);refine AA<|Av (AA<|Aa hz rfl rfl (AA<|AZ hz (by simp) λg1 hz1 s1=>?_))
 replace hz1:=hz1
 refine AA ?_;have s1':=s1.extBut;refine AA<|AA (wpAny_onRaise<|?_);cases hx:xs[k1]? with
 |none=>
  refine AA<|aJm hh (h1.keep λo e=>s1' _ _ D.i1z e) (hl1.keep λo e=>s1' _ _ D.l1z e) hx λg2 e s2 he=>?_;obtain⟨oe,hoe,hce⟩:=he;have z2:=s2 _ _ D.i1z.symm hz1;have ne:e≠z:=λx=>by subst x;rw[z2] at hoe;cases hoe;simp at hce
  exact AZ z2 (by simp) λg3 _ s3=>hE g3 e (λc o c1 _ c3 _ x=>s3.extBut _ _ c1 (s2 _ _ c3<|s1' _ _ c1 x)) ⟨oe,s3.extBut _ _ ne hoe,hce⟩
 |some x=>
  have hy:ys[k2]? =none:=by
   rcases hend with h|h
   ·rw[hx] at h;cases h
   ·exact h
  refine AA<|aBd (h1.keep λo e=>s1' _ _ D.i1z e) (hl1.keep λo e=>s1' _ _ D.l1z e) hx λg2 n1 s2=>AB ?_;have s2':=s2.extBut;have o2:=s2' _ _ D.TOi1<|s1' _ _ D.TOz hTO;refine AA (AW o2 rfl<|AA (wpAny_updateSeq_pair o2 λg3 o3 s3=>AA (BF<|AB ?_)));have s3':=s3.extBut;refine AA (AA<|wpAny_onRaise (AA<|aJm hh (h2.keep λo e=>s3' _ _ D.TOi2.symm (s2' _ _ D.i12.symm<|s1' _ _ D.i2z e)) (hl2.keep λo e=>s3' _ _ D.l2TO (s2' _ _ D.l2i1<|s1' _ _ D.l2z e)) hy λg4 e s4 he=>?_));obtain⟨oe,hoe,hce⟩:=he;have z4:=s4 _ _ D.i2z.symm (s3' _ _ D.TOz.symm<|s2' _ _ D.i1z.symm hz1);have ne:e≠z:=λx=>by subst x;rw[z4] at hoe;cases hoe;simp at hce
  exact AZ z4 (by simp) λg5 _ s5=>hE g5 e (λc o c1 c2 c3 c4 x=>s5.extBut _ _ c1 (s4 _ _ c4<|s3' _ _ c2 (s2' _ _ c3<|s1' _ _ c1 x))) ⟨oe,s5.extBut _ _ ne hoe,hce⟩
theorem aIh{z TI TO i1 i2 l1 l2:BZ}{k1 k2:Nat}{xs ys:Array BX}{x y a b:BX}{Q:Option BX->BY->Prop}(D:ZipApart z TI TO i1 i2 l1 l2)(hz:IsZip s.heap z TI TO .none) (hTI:IsPair s.heap TI (.ref i1) (.ref i2)) (hTO:IsPair s.heap TO a b) (h1:ItAt p1 s.heap i1 l1 k1) (h2:ItAt p2 s.heap i2 l2 k2) (hl1:SqAt p1 s.heap l1 xs) (hl2:SqAt p2 s.heap l2 ys) (hx:xs[k1]? =some x) (hy:ys[k2]? =some y)(hQ:∀h',IsZip h' z TI TO (BJ s.heap.objs.size)->IsPair h' TO x y->ItAt p1 h' i1 l1 (k1+1)->ItAt p2 h' i2 l2 (k2+1)->IsPair h' s.heap.objs.size x y->h'.objs.size=s.heap.objs.size+1->(∀c o,c≠z->c≠TO->c≠i1->c≠i2->s.heap.get? c=some o->h'.get? c=some o)->Q (some<|.ref s.heap.objs.size) {s with heap:=h'}):AH (AD prog w) A (pyNext<|.ref z) Q E s:=by
 have hT:s.TypeIs (.ref z) "zip":=⟨_,hz,rfl⟩;exact AA (BG<|AS hT F.slot_zip_next (AQ F.slot_zip_next hT F.entry_zip_next (aLO D hz hTI hTO h1 h2 hl1 hl2 hx hy λh' a1 a2 a3 a4 a5 a6 a7=>AB<|hQ h' a1 a2 a3 a4 a5 a6 a7)<|F.args_zip_next_1 _))
theorem aLY{z TI TO i1 i2 l1 l2:BZ}{k1 k2:Nat}{xs ys:Array BX}{a b:BX}(hh:A.handled=none)(D:ZipApart z TI TO i1 i2 l1 l2)(hz:IsZip s.heap z TI TO .none) (hTI:IsPair s.heap TI (.ref i1) (.ref i2)) (hTO:IsPair s.heap TO a b) (h1:ItAt p1 s.heap i1 l1 k1) (h2:ItAt p2 s.heap i2 l2 k2) (hl1:SqAt p1 s.heap l1 xs) (hl2:SqAt p2 s.heap l2 ys) (hend:xs[k1]? =none\/ys[k2]? =none)(hQ:∀h',(∀c o,c≠z->c≠TO->c≠i1->c≠i2->s.heap.get? c=some o->h'.get? c=some o)->Q none {s with heap:=h'}):AH (AD prog w) A (pyNext<|.ref z) Q E s:=by
 have hT:s.TypeIs (.ref z) "zip":=⟨_,hz,rfl⟩;refine AA (BG<|AS hT F.slot_zip_next (AQ F.slot_zip_next hT F.entry_zip_next (aPG hh D hz hTI hTO h1 h2 hl1 hl2 hend λh' e hk he=>?_)<|F.args_zip_next_1 _));obtain⟨o,ho,hc⟩:=he;exact AA<|Ax ⟨o,ho,hc⟩ isSubtype_stop (AB<|hQ _ hk)
def aJL{ch:List BZ}(I:Inv X pins σ H s)(k:∀b o,b∉ch->s.heap.get? b=some o->h'.get? b=some o)(f:∀b∈ch,vO X pins H b):Inv X pins σ H {s with heap:=h',toks:=t'}:=by
 have nit:∀b u,H b=some u->b∉ch:=λb u q hb=>by rw[(f b hb).1] at q;cases q
 refine I.step (λb hb=>?_) (λb o _ _ hc q _=>k b o hc q) (λb o _ _ hc q _=>⟨o.slots,k b o hc q⟩) (λ_ _ _ _ n=>n) (λb o hc q=>⟨o,k b o hc q⟩) (λ_ _ q=>q) (λ_ _ _ q=>q) (λb ps q=>⟨#[],by rw[q];simp⟩) (λm hm=>?_) (λb u q=>?_) I.bare
 ·have z:=f b hb;exact⟨z.2.2.2.1,z.2.1,z.2.2.2.2.1,z.2.2.2.2.2⟩
 ·obtain⟨o,es,ep,ho,r⟩:=hm;exact⟨o,es,ep,k _ o (λhb=>(f _ hb).2.1 rfl) ho,r⟩
 ·refine(I.hok b u q).stay (λc v hc g=>?_) (λ_ g=>g) λ_ _ g=>g
  rcases hc with z|z
  ·rw[z] at g ⊢;exact k b v (nit b u q) g
  ·exact k c v (nit c _ z) g
def SqB(tp:Bool)(K:aB)(H:Hp)(a:BZ)(xs:List V):Prop:=match tp with
 |true=>SqT K H a xs
 |false=>SqL K H a xs
def uR{a:BZ}(I:Inv X pins σ H s)(h:SqB tp X.K H a xs):∃its:List BX,Vals xs its/\SqAt tp s.heap a its.toArray:=by
 cases tp with
 |true=>obtain⟨its,rv,p,_⟩:=I.tuple<|h;exact⟨its,rv,p⟩
 |false=>obtain⟨its,rv,p,_⟩:=I.list<|h;exact⟨its,rv,p.isList⟩
def aFf{a:BZ}(I:Inv X pins σ H s)(h:SqB tp X.K H a xs)(g:SqB tp X.K H a ys):xs=ys:=by
 cases tp with
 |true=>exact I.tuple_inj h g
 |false=>exact I.list_inj h g
def Itz(p1 p2:Bool)(K:aB)(a b:BZ):It:=
 ⟨λi H=>∃xs ys x y,SqB p1 K H a xs/\SqB p2 K H b ys/\xs[i]? =some x/\ys[i]? =some y,λi H v H'=>∃p x y,v=.ref p/\H p=none/\H'=upd H p (.tup [x,y])/\(∀xs,SqB p1 K H a xs->xs[i]? =some x)/\∀ys,SqB p2 K H b ys->ys[i]? =some y,λi H=>∃xs ys,SqB p1 K H a xs/\SqB p2 K H b ys/\(xs.length<=i\/ys.length<=i)⟩
theorem aHV(a b z TI TO i1 i2:BZ)(D:ZipApart z TI TO i1 i2 a b):zT P w K (.Tuple elts kk pos) (Itz p1 p2 K a b) [z,TO,i1,i2,TI] z (λi h=>IsZip h z TI TO .none/\IsPair h TI (.ref i1) (.ref i2)/\(∃c d,IsPair h TO c d)/\ItAt p1 h i1 a i/\ItAt p2 h i2 b i) where
 mem:=by simp
 obj:=λi h st c hc=>by
  obtain⟨hz,hTI,⟨x,y,hTO⟩,h1,h2⟩:=st;simp at hc
  rcases hc with rfl|rfl|rfl|rfl|rfl
  ·exact⟨_,hz,λv q=>by cases q⟩
  ·exact⟨_,hTO,λv q=>by cases q⟩
  ·exact h1.ex
  ·exact h2.ex
  ·exact⟨_,hTI,λv q=>by cases q⟩
 keep:=λi h h' st k=>by obtain⟨hz,hTI,⟨x,y,hTO⟩,h1,h2⟩:=st;exact⟨k z (by simp) _ hz,k TI (by simp) _ hTI,⟨x,y,k TO (by simp) _ hTO⟩,h1.keep λo q=>k i1 (by simp) o q,h2.keep λo q=>k i2 (by simp) o q⟩
 item:=by
  intro X hP hw hK hc i pins s σ H E I hf st hg;subst hP hw hK;obtain⟨hz,hTI,⟨c,d,hTO⟩,h1,h2⟩:=st;obtain⟨xs,ys,x,y,qx,qy,ex,ey⟩:=hg;obtain⟨its,rv,sx⟩:=uR I qx;obtain⟨jts,rw',sy⟩:=uR I qy;obtain⟨u,hu,ru⟩:=rv.get ex;obtain⟨v,hv,rv'⟩:=rw'.get ey;refine aIh D hz hTI hTO h1 h2 sx sy (by simpa using hu) (by simpa using hv) λg1 z1 o1 n1 n2 t1 sz1 k1=>?_
  refine⟨_,rfl,wpAny_letOwnedTupleGo_zip z1 λg2 z2 s2=>?_⟩;have s2':=s2.extBut
  have lt:∀b∈[z,TO,i1,i2,TI],b<s.heap.objs.size:=λb hb=>by
   simp at hb
   rcases hb with rfl|rfl|rfl|rfl|rfl
   ·exact aM hz
   ·exact aM hTO
   ·obtain⟨_,q,_⟩:=h1.ex;exact aM q
   ·obtain⟨_,q,_⟩:=h2.ex;exact aM q
   ·exact aM hTI
  have I1:Inv X pins σ H {s with heap:=g2}:=aJL (ch:=[z,TO,i1,i2]) I (fun b o hb q=>by
   simp at hb
   exact s2' _ _ hb.1 (k1 b o hb.1 hb.2.1 hb.2.2.1 hb.2.2.2 q)) λb hb=>hf b (by simp at hb ⊢;rcases hb with q|q|q|q<;>simp[q])
  have hn:=I.hok.fresh<|aK _;have t2:=s2' _ _ (eJ (lt z<|by simp)) t1
  have I2:Inv X pins σ (upd H s.heap.objs.size<|.tup [x,y]) {s with heap:=g2}:=by
   refine I1.track hn I.sz (eJ I.lt) (λy c q=>?_) (λy hy=>?_) ⟨by show 2<=AM;decide,[u,v],.cons ru<|.cons rv' .nil,⟨_,t2,rfl,⟨_,rfl⟩,rfl⟩⟩
   ·obtain⟨v,o,ho,_⟩:=I.cell y c q;exact bC<|aM ho
   ·exact bC<|aM (I.pin y hy).1
  refine⟨.ref s.heap.objs.size,_,I2,rfl,⟨_,x,y,rfl,hn,rfl,λzs hz=>by rw[aFf I hz qx];exact ex,λzs hz=>by rw[aFf I hz qy];exact ey⟩,⟨z2,s2' _ _ D.TIz<|k1 _ _ D.TIz D.TITO D.TIi1 D.TIi2 hTI,⟨_,_,s2' _ _ D.TOz o1⟩,n1.keep λo q=>s2' _ _ D.i1z q,n2.keep λo q=>s2' _ _ D.i2z q⟩,λb hb=>?_⟩;rw[bH (bC<|lt b hb)];exact(hf b hb).1
 done:=by
  intro X hP hw hK hc i pins s σ H E I hf st hg;subst hP hw hK;obtain⟨hz,hTI,⟨c,d,hTO⟩,h1,h2⟩:=st;obtain⟨xs,ys,qx,qy,hl⟩:=hg;obtain⟨its,rv,sx⟩:=uR I qx;obtain⟨jts,rw',sy⟩:=uR I qy;have l1:=rv.length;have l2:=rw'.length
  refine aLY (I.ok.hd hc) D hz hTI hTO h1 h2 sx sy (by
   rcases hl with q|q
   ·left;simp;lia
   ·right;simp
    lia) λh' k=>⟨rfl,?_⟩
  exact aJL (ch:=[z,TO,i1,i2]) I (fun b o hb q=>by
   simp at hb
   exact k b o hb.1 hb.2.1 hb.2.2.1 hb.2.2.2 q) λb hb=>hf b (by simp at hb ⊢;rcases hb with q|q|q|q<;>simp[q])
 self:=λ_ _ _ _ _ st h=>by obtain⟨hz,_⟩:=st;exact wpAny_pyIter_zip hz h
noncomputable def itO(tp:Bool)(l:BZ):CC:=match tp with
 |true=>{cls:=.type "tuple_iterator",data:=.fields #[.ref l,.int 0 0]}
 |false=>{cls:=.type "list_iterator",data:=.fields #[.ref l,.int 0 0]}
def aJS(e:h.get? it=some (itO tp l)):ItAt tp h it l 0:=by
 cases tp with
 |true=>exact⟨_,e,rfl,rfl⟩
 |false=>exact⟨_,e,rfl,rfl⟩
def aJq(tp:Bool)(l:BZ):(itO tp l).isFreed=false:=by cases tp<;>rfl
def pyI{xs:Array BX}(h:SqAt tp s.heap l xs)(hQ:Q (.ref s.heap.objs.size) {s with heap:=s.heap.push (itO tp l)}):AH (AD prog w) A (pyIter<|.ref l) Q E s:=by
 cases tp with
 |true=>exact wpAny_pyIter_tuple h hQ
 |false=>exact Au h hQ
abbrev zA(p:Bool)(h:CB)(l:BZ):CB:=h.push<|itO p l
abbrev zB(p q:Bool)(h:CB)(l m:BZ):CB:=(zA p h l).push<|itO q m
abbrev zC(p q:Bool)(h:CB)(l m:BZ):CB:=(zB p q h l m).push {cls:=.type "tuple",data:=.seq #[.ref h.objs.size,.ref (zA p h l).objs.size]}
abbrev zD(p q:Bool)(h:CB)(l m:BZ):CB:=(zC p q h l m).push {cls:=.type "tuple",data:=.seq #[.none,.none]}
abbrev zE(p q:Bool)(h:CB)(l m:BZ):CB:=(zD p q h l m).push {cls:=.type "zip",data:=.fields #[.none,.bool false,.bool false,.ref (zB p q h l m).objs.size,.ref (zC p q h l m).objs.size]}
def aPC(p q:Bool)(l m:BZ)(xs ys:Array BX):Meets (Builtin.«zip.__new__» ⟨[.type "zip",.ref l,.ref m],[]⟩) (λ_ R s=>SqAt p s.heap l xs/\SqAt q s.heap m ys/\R (.ok (.ret<|.ref (zD p q s.heap l m).objs.size)) {s with heap:=zE p q s.heap l m}):=
 .of_wp λprog w A R s h=>by
  obtain⟨hp,g,d,tk,os⟩:=s;obtain⟨a1,a2,h⟩:=h;have hsub:=sub_zip;have b1:=a1;have b2:SqAt q (Shared.heap ⟨hp.push<|itO p l,g,d,tk,os⟩) m ys:=SqAt.keep a2 λo e=>aD _ e
  wp_walk using pyI b1,pyI b2
  exact⟨_,rfl,h⟩
theorem aMk{xs ys:Array BX}(a1:SqAt p s.heap l xs)(a2:SqAt q s.heap m ys)(h:∀h',IsZip h' (s.heap.objs.size+4) (s.heap.objs.size+2) (s.heap.objs.size+3) .none->IsPair h' (s.heap.objs.size+2) (.ref s.heap.objs.size) (.ref<|s.heap.objs.size+1)->IsPair h' (s.heap.objs.size+3) .none .none->ItAt p h' s.heap.objs.size l 0->ItAt q h' (s.heap.objs.size+1) m 0->(∀c o,s.heap.get? c=some o->h'.get? c=some o)->Q (.ref<|s.heap.objs.size+4) {s with heap:=h'}):AH (AD prog w) A (call (.type "zip") [.ref l,.ref m]) Q E s:=by
 refine callType_new F.called_zip (by decide) (F.typeCall_zip_2 _ _) (F.newCall_zip_2 _ _) (λobj=>F.args_object_init_3 obj _ _) F.entry_zip_new (aPC p q l m xs ys) ⟨a1,a2,?_⟩;have z1:(zA p s.heap l).objs.size=s.heap.objs.size+1:=gQ ..;have z2:(zB p q s.heap l m).objs.size=s.heap.objs.size+2:=by rw[gQ,z1]
 have z3:(zC p q s.heap l m).objs.size=s.heap.objs.size+3:=by rw[gQ,z2]
 have z4:(zD p q s.heap l m).objs.size=s.heap.objs.size+4:=by rw[gQ,z3]
 have g5:(zE p q s.heap l m).get? (zD p q s.heap l m).objs.size=some _:=aR _ rfl;have g4:(zE p q s.heap l m).get? (zC p q s.heap l m).objs.size=some _:=aD _<|aR _ rfl;have g3:(zE p q s.heap l m).get? (zB p q s.heap l m).objs.size=some _:=aD _ (aD _<|aR _ rfl);have g2:(zE p q s.heap l m).get? (zA p s.heap l).objs.size=some (itO q m):=aD _ (aD _<|aD _ (aR _<|aJq q m));have g1:(zE p q s.heap l m).get? s.heap.objs.size=some (itO p l):=aD _<|aD _ (aD _<|aD _ (aR _<|aJq p l));show _/\_;rw[z2,z3,z4] at g5;rw[z1,z2] at g3;rw[z3] at g4;rw[z1] at g2;rw[z4];exact⟨⟨_,g5,rfl⟩,h _ g5 g3 g4 (aJS g1) (aJS g2) λc o x=>aD _ (aD _<|aD _ (aD _<|aD _ x))⟩
variable {E:jJ}
def aOX{elts:List Expr}{kk:Nat}{tp:Pos}{p:Pos}{p1 p2:Bool}(hg:Gl X "zip")(hm:X.mg "zip"=none)(ha:PA X [a,b] ta)(hs:AE [a,b] X.env=[(false,eval a X.env),(false,eval b X.env)]:=by rfl)(hs2:AE [b] X.env=[(false,eval b X.env)]:=by rfl):PI X (.Tuple elts kk tp) (.Call (.Name "zip" p) [a,b] [] pos) (λσ H R=>ta σ H λvs H1=>∃l m,vs=[.ref l,.ref m]/\(∃xs,SqB p1 X.K H1 l xs)/\(∃ys,SqB p2 X.K H1 m ys)/\R (Itz p1 p2 X.K l m) H1):=by
 intro pins s σ H R I h;refine Call_<|mM I hg hm PyProof.Rows.boot_zip (PyProof.Rows.callWith_type1 (thn (ha pos pins s σ H _ I h) λus s1 ⟨vs,H1,I1,r1,q1⟩=>?_) (by rw[hs,hs2])<|by rw[hs2];rfl);obtain⟨l,m,rfl,⟨xs,qx⟩,⟨ys,qy⟩,k⟩:=q1;cases r1 with
 |cons r rr=>
  cases rr with
  |cons r2 rr2=>
   cases rr2;cases r;cases r2;obtain⟨its,rv,sx⟩:=uR I1 qx;obtain⟨jts,rw',sy⟩:=uR I1 qy;refine aMk sx sy λh' a1 a2 a3 a4 a5 kp=>wpAny_pyIter_zip a1 ?_
   have I2:Inv X pins σ H1 {s1 with heap:=h'}:=I1.kept kp;have lx:=sx.lt;have ly:=sy.lt
   have ap:ZipApart (s1.heap.objs.size+4) (s1.heap.objs.size+2) (s1.heap.objs.size+3) s1.heap.objs.size (s1.heap.objs.size+1) l m:=by
    refine⟨?_,?_,?_,?_,?_,?_,?_,?_,?_,?_,?_,?_,?_,?_,?_,?_,?_,?_⟩
    all_goals first|(exact bC<|by omega)|(exact eJ<|by omega)|(exact bC lx)|(exact bC ly)|(exact bC (aZ lx<|lR _ _))|(exact bC (aZ ly<|lR _ _))
   refine⟨s1.heap.objs.size+4,_,_,Itz p1 p2 X.K l m,H1,rfl,I2,aHV l m _ _ _ _ _ ap,⟨a1,a2,⟨_,_,a3⟩,a4,a5⟩,λb hb=>?_,k⟩
   have hb2:s1.heap.objs.size<=b:=by
    simp at hb
    rcases hb with rfl|rfl|rfl|rfl|rfl<;>omega
   exact I1.fpOk hb2<|I1.hok.fresh hb2
noncomputable def aNl(ds es:List D):List D:=(bI<|min ds.length es.length).map λ(i:Nat)=>D.tup [ds.getD i .non,es.getD i .non]
def yD(ds es:List D):(aNl ds es).length=min ds.length es.length:=by simp[aNl]
theorem aCh{es:List D}(h:(aNl ds es)[i]? =some d):∃x y,ds[i]? =some x/\es[i]? =some y/\d=.tup [x,y]:=by
 unfold aNl at h;rw[aY] at h
 by_cases hi:i<min ds.length es.length
 ·rw[rO hi] at h;have h1:i<ds.length:=by lia
  have h2:i<es.length:=by lia
  refine⟨ds[i],es[i],by simp[h1],by simp[h2],?_⟩;rw[<-bW.inj h];simp[bV,h1,h2]
 ·rw[cV<|by simpa using hi] at h;cases h
noncomputable def aQL(tp:Bool)(ds:List D):D:=match tp with
 |true=>.tup ds
 |false=>.lst ds
def aEz(h:Rep K F (aQL tp ds) v):∃a xs,v=.ref a/\RepL K F ds xs/\∀ {F' H:Hp},Same F F'->Same F' H->SqB tp K H a xs:=by
 cases tp with
 |true=>obtain⟨a,xs,e,ha,rl⟩:=h;exact⟨a,xs,e,rl,λs1 s2=>.of (s2 _ _<|s1 _ _ ha)⟩
 |false=>obtain⟨a,xs,e,ha,rl⟩:=h;exact⟨a,xs,e,rl,λs1 s2=>.of (s2 _ _<|s1 _ _ ha)⟩
theorem aLG{elts:List Expr}{kk:Nat}{tp p:Pos}(p1 p2:Bool)(hg:Gl X "zip")(hm:X.mg "zip"=none)(ha:PEd X sd a (.val<|aQL p1 ds))(hb:PEd X sd b (.val<|aQL p2 es2))(hst:AE [a,b] X.env=[(false,eval a X.env),(false,eval b X.env)]:=by rfl)(hst2:AE [b] X.env=[(false,eval b X.env)]:=by rfl):PId X sd PT0 (.Tuple elts kk tp) (.Call (.Name "zip" p) [a,b] [] pos) (aNl ds es2):=.mk λσ F H S=>
 (aOX hg hm zV hst hst2).to ((aC ha (aC hb aN trivial (by rw [hst2]; rfl)) trivial (by rw [hst,hst2]) σ F H S).imp fun vs H1 ⟨F1,S1,s1,q1⟩=>by
  cases q1 with
  |cons q1 q2=>
   cases q2 with
   |cons q2 q3=>
    cases q3;obtain⟨l,xs,rfl,rx,sx⟩:=aEz<|q1;obtain⟨m,ys,rfl,ry,sy⟩:=aEz<|q2;refine⟨l,m,rfl,⟨xs,sx (Same.refl _) S1.sub⟩,⟨ys,sy (Same.refl _) S1.sub⟩,F1,S1,s1,λF' H' sF sH sm _ i=>⟨λhi=>?_,λhi=>?_,λx H2 d hd y=>?_⟩⟩
    ·rw[yD] at hi;exact⟨xs,ys,xs[i]'(by rw[rx.len];lia),ys[i]'(by rw[ry.len];lia),sx sF sH,sy sF sH,by simp,by simp⟩
    ·rw[yD] at hi;refine⟨xs,ys,sx sF sH,sy sF sH,?_⟩;rw[rx.len,ry.len];lia
    ·obtain⟨q,u,v,rfl,hq,rfl,hu,hv⟩:=y;obtain⟨du,dv,e1,e2,rfl⟩:=aCh hd;have hu:=hu xs<|sx sF sH;have hv:=hv ys<|sy sF sH;obtain⟨u',h1,ru⟩:=rx.get e1;obtain⟨v',h2,rv⟩:=ry.get e2;rw[hu] at h1;rw[hv] at h2;cases h1;cases h2;have fq:=sH.free hq;have s2:Same F' (upd F' q<|.tup [u,v]):=λb o g=>by rw[bH<|cD g fq];exact g
     refine⟨upd F' q<|.tup [u,v],s2,?_,λH₀ σ sd S=>(S.lay (o:=.tup [u,v]) hq trivial).1⟩
     exact⟨q,_,rfl,bX,.cons ((ru.mono sF).mono s2) (.one ((rv.mono sF).mono s2))⟩)
def pF(L:List (List Int))(m:Nat):(L.flatMap λs=>(bI m).map λ(w:Nat)=>s++[(w:Int)]).length=L.length*m:=by
 induction L with
 |nil=>simp
 |cons s L ih=>rw[List.flatMap_cons,aV,ih,aA,eG,bZ,aGN,Nat.add_comm]
theorem rV:∀ (m k:Nat),(iV m k).length=m^k
 |_,0=>rfl
 |m,k+1=>by show((iV m k).flatMap _).length=_;rw[pF,rV m k,pR]
theorem yA:∀ (m k:Nat),∀s∈iV m k,s.length=k
 |_,0,s,h=>by
  have:=by simpa[iV] using h
  subst this;rfl
 |m,k+1,s,h=>by obtain⟨t,ht,hs⟩:=dM.mp h;obtain⟨w,_,rfl⟩:=aJ.mp hs;rw[aV,yA m k t ht];rfl
def aAk:∀p∈bS,∀k,k<p.2.toNat->((2^p.1.toNat)^k)*2^p.1.toNat<=900:=by decide+kernel
def jR(hp:p∈bS):(iV (2^p.1.toNat) p.2.toNat).length<=64:=by
 have:∀p∈bS,(2^p.1.toNat)^p.2.toNat<=64:=by decide+kernel
 rw[rV];exact this p hp
def tR{L:List (List Int)}(h:d∈L.map bF):∃ws∈L,d=bF ws:=by obtain⟨ws,hw,rfl⟩:=aJ.mp h;exact⟨ws,hw,rfl⟩
noncomputable def kQ:D->List Int
 |.tup ds=>ds.map λd=>match d with | .int i=>i|_=>0
 |_=>[]
def iT(ws:List Int):kQ (bF ws)=ws:=by
 show(ws.map D.int).map _=ws;rw[aW]
 induction ws with
 |nil=>rfl
 |cons w ws ih=>rw[bG,ih];rfl
def isN:D->Bool
 |.non=>true
 |_=>false
def aAU(h:Rep K H d v):decide (v=.non)=isN d:=by
 cases d with
 |non=>subst h;rfl
 |bl=>subst h;rfl
 |int=>subst h;rfl
 |str=>subst h;rfl
 |tup=>obtain⟨a,xs,rfl,_⟩:=h;rfl
 |lst=>obtain⟨a,xs,rfl,_⟩:=h;rfl
 |dic=>obtain⟨a,rfl,_⟩:=h;rfl
 |dki=>obtain⟨a,xs,rfl,_⟩:=h;rfl
 |any=>obtain⟨⟨a,rfl⟩,_⟩:=h;rfl
 |scr=>obtain⟨a,rfl,_⟩:=h;rfl
def vY(ha:PEd X sd a (.val d))(hb:PEd X sd b (.val .non)):PTd X sd (.Compare a [.Is] [b] pos) (isN d):=
 mF aJH ha hb trivial (gR _) λσ F H v u Q S q1 q2 k=>by exact⟨q2,by rw[aAU q1];exact k F H S<|Same.refl _⟩
def tI(ha:PEd X sd a (.val d))(hb:PEd X sd b (.val .non)):PTd X sd (.Compare a [.IsNot] [b] pos) (!isN d):=
 mF aMD ha hb trivial (gR _) λσ F H v u Q S q1 q2 k=>by exact⟨q2,by rw[aAU q1];exact k F H S<|Same.refl _⟩
def aJy(ha:PEd X sd a (.val d))(hb:PEd X sd b (.val .non)):PEd X sd (.Compare a [.Is] [b] pos) (.val (.bl<|isN d)):=
 sL aJH ha hb trivial (gR _) λσ F H v u Q S q1 q2 k=>by exact⟨q2,by rw[aAU q1];exact k F H S<|Same.refl _⟩
theorem aNV{u d n c:Nat}(h:u+n<c)(hd:d+1<=n):u+d+1<c:=by lia
def bU(p:Int×Int):List (List Int):=iV (2^p.1.toNat) p.2.toNat
def aRN:Option (List Int)->D
 |none=>.non
 |some ws=>bF ws
structure aCK(p:Int×Int)(T:List (List Int)):Prop where
 len:T.length=(bU p).length
 fil:∀ws∈T,Fil p ws
def sA{V:List (List Int)}(h:k<V.length):(V.map bF)[k]? =some (bF<|V.getD k []):=by simp[bV,h]
def aAs{α:Type}{L:List α}(d:α)(h:k<L.length):L.take (k+1)=L.take k++[L.getD k d]:=by simp[bV,h]
theorem aGw(d:D)(ds:List D)(p1:pl d=true)(p2:plL ds=true)(hu:X.A.units+1+jI ds<AR):OpR X (AU .NotIn) (λx y H Q=>Rep X.K H (.lst ds) y/\Rep X.K H d x/\Q (.bl<|!ds.any λz=>deq z d) H):=by
 intro pins s σ H x y v u Q I rx ry h;obtain⟨hl,hd,k⟩:=h;obtain⟨a,xs,its,rfl,rfl,rl,rv,ht⟩:=lP I.hok hl ry
 have hat:∀ (j:Nat) (w:BX),its[j]? =some w->∃z v,ds[j]? =some z/\xs[j]? =some v/\Rep X.K H z v/\RelV v w:=λj w hw=>by
  have hj:=(aE.mp hw).1;have hx:j<xs.length:=by rw[Vals.length rv];exact hj
  have hd:j<ds.length:=by rw[<-rl.len];exact hx
  obtain⟨v,hv,rz⟩:=rl.get (i:=j) (d:=ds[j]) (by simp[hd])
  exact ⟨ds[j],v,by simp [hd],hv,rz,by
   have:=rv.get hv;obtain⟨w',hw',r⟩:=this;rw[hw] at hw';cases hw'
   exact r⟩
 have dc:=λw=>Classical.propDecidable (∃ (j:Nat) (z:D),its[j]? =some w/\ds[j]? =some z/\deq z d=true)
 refine SeqAt.notIn_listAt (λw=> @decide _<|dc w) ht (λw hw=>?_) ⟨.bl _,H,I,rfl,?_⟩
 ·by_cases q:∃ (j:Nat) (z:D),its[j]? =some w/\ds[j]? =some z/\deq z d=true
  ·obtain⟨j,z,e1,e2,e3⟩:=q;obtain⟨z',v,f1,f2,f3,f4⟩:=hat j w e1;rw[e2] at f1;cases f1;have: @decide _ (dc w)=true:=by rw[decide_eq_true_eq];exact⟨j,z,e1,e2,e3⟩
   rw[this,<-e3];exact aBP I.hok z (aAT p2 e2) p1 f3 hd f4 rx (by have:=yT e2;show X.A.units+1+dep z<AR;lia)
  ·have hw':=by simpa using hw
   obtain⟨j,hj,rfl⟩:=cP hw';obtain⟨z,v,f1,f2,f3,f4⟩:=hat j its[j] (by simp[hj])
   have e3:deq z d=false:=by
    cases h:deq z d with
    |false=>rfl
    |true=>exact(q ⟨j,z,by simp[hj],f1,h⟩).elim
   have: @decide _ (dc its[j])=false:=by rw[decide_eq_false_iff_not];exact q
   rw[this,<-e3];exact aBP I.hok z (aAT p2 f1) p1 f3 hd f4 rx (by have:=yT f1;show X.A.units+1+dep z<AR;lia)
 ·have e:its.toArray.any (λw=> @decide _<|dc w)=ds.any λz=>deq z d:=by
   rw[gY,List.any_toArray,fW,fW]
   constructor
   ·rintro⟨w,hw,q⟩;rw[decide_eq_true_eq] at q;obtain⟨j,z,e1,e2,e3⟩:=q;exact⟨z,aQ e2,e3⟩
   ·rintro⟨z,hz,e3⟩;obtain⟨j,hj,rfl⟩:=cP hz;have hi:j<its.length:=by rw[<-Vals.length rv,rl.len];exact hj
    exact⟨its[j],fJ hi,by rw[decide_eq_true_eq];exact⟨j,ds[j],by simp[hi],by simp[hj],e3⟩⟩
  rw[e];exact k
def zI(ha:PEd X sd a (.val d))(hb:PEd X sd b (.val<|.lst ds))(p1:pl d=true)(p2:plL ds=true)(hu:X.A.units+1+jI ds<AR)(hk:AY .NotIn b=false:=by with_unfolding_all rfl):PTd X sd (.Compare a [.NotIn] [b] pos) (!ds.any λz=>deq z d):=
 mF (aGw d ds p1 p2 hu) ha hb trivial hk λσ F H x u Q S q1 q2 k=>⟨Rep.mono S.sub q2,Rep.mono S.sub q1,k F H S<|Same.refl _⟩
variable {es:List D}
def RepL.atI{i:Int}(r:RepL K H ds xs)(h:L2.atI ds i=some d):∃v,L2.atI xs i=some v/\Rep K H d v:=by
 unfold L2.atI at h ⊢;rw[r.len];cases e:ixN ds.length i with
 |none=>rw[e] at h;cases h
 |some j=>rw[e] at h;exact r.get h
def aOA{b:Nat}(h:b<τ.length):(cS τ)[b]? =some (.int ((τ.getD b 0:Nat):Int)):=by unfold cS;simp[bV,h]
theorem wD{k:Nat}(hb:PEd X sd b (.val<|.int (k:Int)))(hk:k<=1000):PEd X sd (.BinOp (.Constant (.int 1) q p) .LShift b pos) (.val<|.int ((2^k:Nat):Int)):=
 PEd.ic (cN aKo bO hb ⟨by lia,by lia,by decide⟩) (by rw[Int.one_mul];push_cast;rfl)
noncomputable def byT(w:AL):Bool:=w.params.followText "set-order"
noncomputable def aRP(led:Bool)(m mv:Nat)(ks:List Nat):CG:={mask:=m,place:=ks.toArray,dummies:= #[],finger:=0,led:=led,moves:=mv,plain:=true}
def aRO(led:Bool)(ks:List Nat):CG:=if ks.length<5 then aRP led 7 0 ks else aRP led 31 1 ks
def aOn(l:List α)(p:Nat)(y:α):iM l.toArray p y=(l.take p++y::l.drop p).toArray:=by unfold iM;apply jL.mp;simp;exact eZ<|by simp
abbrev aHd(w:AL):CC:={cls:=.type "set",dict:=none,data:=.set #[] 0 (aRO (!byT w) [])}
theorem newK{E:BX->BY->Prop}(a:BX)(h:Q₁ (.ref s.heap.objs.size) {s with heap:=s.heap.push (aHd w)}):codeAny (AD prog w) A (.call (.builtin "set.__new__") ⟨[.type "set",a],[]⟩) (wants Q₁ E) s:=by
 refine codeAny_of_tree ?_;refine AA (wpAny_of_eq (F.newCall_set_1 a)<|AB ⟨BO F.plain_set_new _,An F.entry_set_new ?_⟩);unfold Builtin.«set.__new__» Builtin.Frozenset.newClass;have q:=sub_set_self;obtain⟨hp,g,d,tk,os⟩:=s
 wp_walk
 refine BU<|AB ?_;refine AA<|wpAny_alloc (AB<|AB ?_);exact h
def aBy:isSubtype (.type "list") (.type "set")=pure false:=by rw[isSubtype_type];kernel_rfl
def aDC:isSubtype (.type "list") (.type "frozenset")=pure false:=by rw[isSubtype_type];kernel_rfl
def slot_sit_next:PySem.Slot "set_iterator" "__next__" "set_iterator.__next__":=
 .of (owner:="set_iterator") (n:="__next__") (by kernel_rfl) (by decide+kernel) (by decide+kernel) (by decide+kernel) (by first|exact .inl (by decide+kernel)|exact .inr (by decide+kernel)) (by kernel_rfl)
def xQ:entryFor table "set_iterator.__next__"=some Builtin.«set_iterator.__next__»:=entryFor_of_tree (by kernel_rfl)
def aAa(a:BX):argsOk "set_iterator.__next__" ⟨[a],[]⟩:=by kernel_rfl
def qL:PySem.Slot "set_iterator" "__iter__" "set_iterator.__iter__":=
 .of (owner:="set_iterator") (n:="__iter__") (by rw[];kernel_rfl) (by decide+kernel) (by decide+kernel) (by decide+kernel) (by first|exact .inl (by decide+kernel)|exact .inr (by decide+kernel)) (by rw[isSubtype_type];kernel_rfl)
def yP:entryFor table "set_iterator.__iter__"=some Builtin.«dict_keyiterator.__iter__»:=entryFor_alias (id':="dict_keyiterator.__iter__") (by kernel_rfl) rfl (by decide+kernel) (by kernel_rfl)
def zU(a:BX):argsOk "set_iterator.__iter__" ⟨[a],[]⟩:=by kernel_rfl
def aCZ:entryFor table "set.__iter__"=some Builtin.«frozenset.__iter__»:=entryFor_alias (id':="frozenset.__iter__") (by kernel_rfl) rfl (by decide+kernel) (by kernel_rfl)
def pA(w:AL)(S:BZ)(ep:Nat)(es:List (Int×BX)):List (Int×BX):=if byT w then(pickOrder (w.params.setOrder S ep) es.toArray).toList else es
theorem vB{α:Type}:∀ (l:List α) (i:Nat) (h:i<l.length),(l[i]::l.eraseIdx i).Perm l
 |[],_,h=>by simp at h
 |a::l,0,_=>.refl _
 |a::l,i+1,h=>by exact(List.Perm.swap a _ _).trans (.cons a (vB l i<|by simpa using h))
theorem aEA(f:Nat->Nat):∀ (n k:Nat) (left:List α) (out:Array α),left.length=n->(pickOrder.go f n k left out).toList.Perm (out.toList++left)
 |0,_,left,out,h=>by have:=cI h;subst this;rw[dD];exact List.Perm.refl _
 |n+1,k,left,out,h=>by have hlt:f k%left.length<left.length:=uY _ (by lia);unfold pickOrder.go;rw[dN hlt];refine(aEA f n (k+1) _ _<|by rw[List.length_eraseIdx_of_lt hlt];lia).trans ?_;rw[iS,dW];exact List.Perm.append_left _<|vB left _ hlt
def aAu(es:List (Int×BX)):(pA w S ep es).Perm es:=by
 unfold pA
 split
 ·have:=aEA (w.params.setOrder S ep) es.toArray.size 0 es.toArray.toList #[] (by simp);simpa[pickOrder] using this
 ·exact List.Perm.refl _
def stK(w:AL)(ks:List Nat)(i:Nat):Nat:=if byT w then 0 else match i with
 |0=>0
 |j+1=>ks.getD j 0+1
def itK(w:AL)(S:BZ)(ks:List Nat)(ep i:Nat):CC:={cls:=.type "set_iterator",data:=.fields #[BJ<|stK w ks i,BJ i,.ref S,BJ ks.length,BJ ep]}
variable {E:BX->BY->Prop}
def aAj(h:s.heap.get? I=some (itK w S ks ep i)):s.TypeIs (.ref I) "set_iterator":=⟨_,h,rfl⟩
def aQS(hI:s.heap.get? I=some (itK w S ks ep i))(h:Q (.ref I) s):AH (AD prog w) A (pyIter<|.ref I) Q E s:=by have hT:=aAj hI;refine BQ hT qL (AQ qL hT yP ?_<|zU _);exact AB ⟨_,rfl,"set_iterator",_,hT,slot_sit_next.lookup,h⟩
theorem aQM{r:BZ}(hT:s.TypeIs (.ref r) "set")(h:Q false s):AH (AD prog w) A (Builtin.List.listLengthHint<|.ref r) Q E s:=by
 refine AA<|BD hT F.slot_set_len.lookup ?_;generalize q:("set.__len__")=i0
 wp_delta
 subst q;refine AA (Ax hT sub_set_self<|BE (λz=>absurd z<|by decide) λ_=>?_);refine BE (λ_=>AA (wpAny_typeOf hT<|AB h)) λz=>absurd (by decide+kernel) z
theorem aEM:∀ {ns:List Int}{vs:List BX},Vals (ns.map V.int) vs->IntsAre vs ns
 |[],_,.nil=>.nil
 |n::ns,_::_,.cons r t=>by obtain⟨k,rfl⟩:=r;exact .cons n k<|aEM t
theorem xC:∀ {sd:List Slot}{i:Nat}{z:Slot},(dL sd).Nodup->sd[i]? =some z->(lN z).Nodup
 |[],_,_,_,e=>by simp at e
 |y::zs,0,z,h,e=>by
  have:=by simpa using e
  subst this;exact(bD.mp<|h).1
 |y::zs,i+1,z,h,e=>xC (bD.mp<|h).2.1 (by simpa using e)
variable {ls:List BZ}{nss:List (List Int)}
def StF.reX{o:Option V}(S:StF K H₀ F H σ sd)(hs:sd[i]? =some z)(ho:σ[i]? =some o)(keep:∀b ob,b∉lN z->H b=some ob->H' b=some ob)(sm:Smp H')(q:iB K F H' z' o)(nd:(lN z').Nodup)(no:∀a∈lN z',a∈lN z\/a∉dL sd):StF K H₀ F H' σ (sd.set i z'):=by
 have S0:=S.le<|gS sd i;have mz:∀a∈lN z,a∈dL sd:=λa ha=>dM.mpr ⟨z,aQ hs,ha⟩
 refine⟨S.base,λb u e=>?_,sm,?_,?_⟩
 ·refine keep b u (λhb=>?_)<|S.sub _ _ e;have:=(S.slots.owns<|mz b hb).1;rw[e] at this;cases this
 ·have q1:=S0.slots.mono (Same.refl _) λa ha=>⟨(S0.slots.owns ha).1,λob e=>keep a ob (λhb=>iF S.nd hs hb ha) e⟩
  have q2:=q1.set q i;rw[jD,lH ho] at q2;exact q2
 ·have:=kN i S0.nd (fun a ha=>by
   rcases no a ha with h|h
   ·exact .inl<|iF S.nd hs h
   ·exact .inl λhm=>h ((gS sd i).own.subset hm)) nd
  rw[jD] at this;exact this.1
noncomputable def inF(F H:Hp)(as:List BZ):Hp:=λb=>if b∈as then H b else F b
def aEc{b:BZ}(h:b∈as):inF F H as b=H b:=if_pos h
def aBM{b:BZ}(h:b∉as):inF F H as b=F b:=if_neg h
def aLf(h:∀a∈as,F a=none):Same F (inF F H as):=λb u e=>by rw[aBM λhb=>by rw[h b hb] at e;cases e];exact e
def StF.inN(S:StF K H₀ F H σ sd)(h0:∀a∈l::ls,F a=none)(no:∀a∈l::ls,a∉dL sd):StF K H₀ (inF F H (l::ls)) H σ sd/\Same F (inF F H (l::ls)):=by
 have s1:=aLf (H:=H) h0;refine⟨⟨λb u e=>s1 _ _<|S.base _ _ e,λb u e=>?_,S.smp,S.slots.mono s1 λa ha=>⟨?_,λob e=>e⟩,S.nd⟩,s1⟩
 ·by_cases h:b∈l::ls
  ·rw[aEc h] at e;exact e
  ·rw[aBM h] at e;exact S.sub _ _ e
 ·rw[aBM λhb=>no a hb ha];exact(S.slots.owns ha).1
variable {es:List Expr}{E:jJ}{ns:List Int}
def aLy(h:Smp H)(a:BZ):Smp (upd H a<|.lst xs):=λb u e=>by
 by_cases z:b=a
 ·subst z;rw[bX] at e;cases e;trivial
 ·rw[bH z] at e;exact h _ _ e
def InD(K:aB)(F H:Hp):List BZ->List (List D)->Prop
 |[],[]=>True
 |a::as,ds::dss=>(∃xs,H a=some (.lst xs)/\RepL K F ds xs)/\InD K F H as dss
 |_,_=>False
def InD.len:∀ {as:List BZ}{dss:List (List D)},InD K F H as dss->as.length=dss.length
 |[],[],_=>rfl
 |[],_::_,h=>h.elim
 |_::_,[],h=>h.elim
 |_::as,_::dss,h=>by rw[bZ,bZ,InD.len h.2]
def InD.of:∀ {as:List BZ}{dss:List (List D)},InD K F H as dss->∀a∈as,∃xs,H a=some (.lst xs)
 |[],[],_,a,ha=>by cases ha
 |[],_::_,h,_,_=>h.elim
 |_::_,[],h,_,_=>h.elim
 |b::as,_::dss,h,a,ha=>by
  rcases aP.mp ha with rfl|ha
  ·exact⟨h.1.choose,h.1.choose_spec.1⟩
  ·exact InD.of h.2 a ha
variable {dss:List (List D)}
def InD.mono2:∀ {as:List BZ}{dss:List (List D)},InD K F H as dss->Same F F'->(∀a∈as,∀ob,H a=some ob->H' a=some ob)->InD K F' H' as dss
 |[],[],_,_,_=>trivial
 |[],_::_,h,_,_=>h.elim
 |_::_,[],h,_,_=>h.elim
 |a::as,_::dss,h,s,k=>by obtain⟨⟨xs,e,r⟩,h2⟩:=h;exact⟨⟨xs,k a aG _ e,r.mono s⟩,InD.mono2 h2 s λb hb=>k b<|aF _ hb⟩
def InD.get:∀ {as:List BZ}{dss:List (List D)}{t:Nat}{a:BZ},InD K F H as dss->as[t]? =some a->∃ds xs,dss[t]? =some ds/\H a=some (.lst xs)/\RepL K F ds xs
 |[],[],t,a,_,e=>by simp at e
 |[],_::_,_,_,h,_=>h.elim
 |_::_,[],_,_,h,_=>h.elim
 |b::as,ds::dss,0,a,h,e=>by
  have:=by simpa using e
  subst this;obtain⟨⟨xs,e1,r⟩,_⟩:=h;exact⟨ds,xs,rfl,e1,r⟩
 |b::as,ds::dss,t+1,a,h,e=>by obtain⟨ms,xs,e1,e2⟩:=InD.get h.2 (by simpa using e);exact⟨ms,xs,by simpa using e1,e2⟩
def InD.set:∀ {as:List BZ}{dss:List (List D)}{t:Nat}{a:BZ}{es:List D}{ys:List V},as.Nodup->InD K F H as dss->as[t]? =some a->RepL K F es ys->InD K F (upd H a<|.lst ys) as (dss.set t es)
 |[],[],t,a,_,_,_,_,e,_=>by simp at e
 |[],_::_,_,_,_,_,_,h,_,_=>h.elim
 |_::_,[],_,_,_,_,_,h,_,_=>h.elim
 |b::as,ds::dss,0,a,es,ys,nd,h,e,r=>by
  have:=by simpa using e
  subst this;refine⟨⟨ys,bX,r⟩,h.2.mono2 (Same.refl _) λc hc ob q=>?_⟩;rw[bH (show c≠b from λz=>(bE.mp nd).1<|z▸hc)];exact q
 |b::as,ds::dss,t+1,a,es,ys,nd,h,e,r=>by
  have e':=by simpa using e
  obtain⟨⟨xs,e1,r1⟩,h2⟩:=h;refine⟨⟨xs,?_,r1⟩,InD.set (bE.mp nd).2 h2 e' r⟩;rw[bH (show b≠a from λz=>(bE.mp nd).1<|z▸aQ e')];exact e1
noncomputable def zM(f:Nat->Bool)(A:List (List Int)):Option (List Int):=((bI A.length).find? f).map λk=>A.getD k []
def xI{A:List (List Int)}(hk:k<A.length)(h:f k=true)(hn:∀j,j<k->f j=false):zM f A=some (A.getD k []):=by
 unfold zM
 have:(bI A.length).find? f=some k:=by rw[List.find?_range_eq_some];exact⟨h,bR.mpr hk,λj hj=>by rw[hn j hj];rfl⟩
 rw[this];rfl
def xR{A:List (List Int)}(hn:∀j,j<A.length->f j=false):zM f A=none:=by unfold zM;rw[mY.mpr λk hk=>by rw[hn k<|bR.mp hk];simp];rfl
theorem xD{α:Type}(f:α->D)(h:∀a,pl (f a)=true):∀l:List α,plL (l.map f)=true
 |[]=>rfl
 |a::l=>by show(pl (f a)&&plL (l.map f))=true;rw[h a,xD f h l];rfl
theorem uI{α:Type}(f:α->D)(n:Nat)(h:∀a,dep (f a)<=n):∀l:List α,jI (l.map f)<=n
 |[]=>bM _
 |a::l=>Nat.max_le.mpr ⟨h a,uI f n h l⟩
def wsD:Option (List<|List Int)->D
 |none=>.non
 |some L=>.lst<|L.map bF
def WsOk(p:Int×Int)(o:Option (List<|List Int)):Prop:=∀L,o=some L->0<L.length/\L.length<=100/\∀ws∈L,Fil p ws
structure rJ(p:Int×Int)(w:List (Option (List<|List Int))):Prop where
 len:w.length=(bU p).length
 ok:∀o∈w,WsOk p o
def aNQ{w:List (Option (List<|List Int))}(h:k<w.length):(w.map wsD)[k]? =some (wsD<|w.getD k none):=by simp[bV,h]
def aOY{w:List (Option (List<|List Int))}(h:(w.map wsD)[k]? =some d):k<w.length/\d=wsD (w.getD k none):=by
 have hk:=by have:=(aE.mp h).1;simpa using this
 rw[aNQ hk] at h;exact⟨hk,(bW.inj h).symm⟩
def aKY(o:Option (List Int)):isN (aRN o)=o.isNone:=by cases o<;>rfl
noncomputable def aKw(w:List (Option (List<|List Int)))(T:List (List Int))(k:Nat):Bool:=match w.getD k none with
 |none=>false
 |some L=> !decide (T.getD k []∈L)
def vC(w:List (Option (List<|List Int)))(A T:List (List Int)):Option (List Int):=zM (aKw w T) A
def aNC:List D->R->Prop:=λds r=>∃p w T,p∈bS/\rJ p w/\aCK p T/\ds=[dI p,.lst<|w.map wsD,.tup<|T.map bF]/\r=.val (aRN<|vC w (bU p) T)
def aNT:List D->R->Prop:=λds r=>∃p w T,p∈bS/\rJ p w/\aCK p T/\ds=[dI p,.lst<|w.map wsD,.tup<|T.map bF]/\r=.val (.bl (vC w (bU p) T).isNone)
def aCd(L:List (List Int))(t:List Int):((L.map bF).any λz=>deq z<|bF t)=decide (t∈L):=by
 induction L with
 |nil=>simp
 |cons a L ih=>
  rw[bG,lQ,ih,sX]
  by_cases h:t=a
  ·simp[h]
  ·have h2:¬ a=t:=λq=>h q.symm
   simp[h,h2]
theorem pN:∀a:List Nat,plL (cS a)=true/\jI (cS a)=0
 |[]=>⟨rfl,rfl⟩
 |a::as=>by obtain⟨h1,h2⟩:=pN as;unfold cS at h1 h2 ⊢;simp only[bG,plL,jI,pl,dep,h1,h2];exact⟨rfl,rfl⟩
theorem aFD(ds:List D)(k:Nat):DL.cutD ds (some (k:Int)) none=ds.drop k:=by
 unfold DL.cutD;rw[HT.sIx_nat,HT.sIx_none]
 by_cases q:k<=ds.length
 ·rw[Nat.min_eq_left q];exact eZ<|by simp
 ·rw[Nat.min_eq_right<|by lia,aDD<|aK _,aDD<|by lia];simp
def aIC(h:CB)(vs:List BX)(out:Array BX):(∀b x,h.get? b=some x->(sortedAll h vs out).get? b=some x)/\∃n,(sortedAll h vs out).get? (h.objs.size+1)=some (Aj "list" out n):=by
 have hsz:((h.push<|Aj "list" #[] 0).update h.objs.size (Obj.mapSeq (·++vs.toArray))).objs.size=h.objs.size+1:=by rw[oZ,size_push']
 have hoL:(((h.push<|Aj "list" #[] 0).update h.objs.size (Obj.mapSeq (·++vs.toArray))).push<|Aj "list" vs.toArray 0).get? (h.objs.size+1)=some (Aj "list" vs.toArray 0):=by rw[<-hsz];exact aR _ rfl
 constructor
 ·intro b x g;have lt:=aM g;have n1:h.objs.size≠b:=λz=>absurd lt (by rw[z];exact dH _)
  have n2:h.objs.size+1≠b:=λz=>absurd lt (by rw[<-z];exact aCH.mpr<|jK _)
  unfold sortedAll sortedHeap;rw[cJ _ _ n2];refine aD _<|aD _ ?_;rw[cJ _ _ n2];refine aD _ ?_;rw[cJ _ _ n1];exact aD _ g
 ·obtain⟨n1,g1⟩:∃n1,((((h.push<|Aj "list" #[] 0).update h.objs.size (Obj.mapSeq (·++vs.toArray))).push<|Aj "list" vs.toArray 0).update (h.objs.size+1)<|Obj.mapSeq λ_=> #[]).get? (h.objs.size+1)=some (Aj "list" #[] n1):=⟨_,BW hoL λ_=> #[]⟩;exact⟨_,BW (aD _<|aD _ g1) λ_=>out⟩
def exO(l:BZ)(o:CC):HO:=.ext λh=>h.get? l=some o
def uO{o:CC}(g:h.get? l=some o):ObjOk P w H h l (exO l o):=⟨g,⟨o,g⟩,λ_ _ q k=>k _ q⟩
def TDo(P:AF)(w:AL)(F:Hp)(l:BZ)(o:CC)(kvs:List (List Key×V)):Prop:=
 kvs.length<=AM/\(l==AX)=false/\∃xs,KT F kvs xs/\∃es ep,o.ExactDict/\o.data=.dict es ep/\es.toList=xs.map (entryOfKey (AT<|dQ P w))/\(xs.map (·.1)).Nodup
def TDo.mono{o:CC}(t:TDo P w F l o kvs)(s:Same F F'):TDo P w F' l o kvs:=by obtain⟨z,y,xs,r,q⟩:=t;exact⟨z,y,xs,r.keeps λb ys e=>s _ _ e,q⟩
def KT.all(ok:HOk P w H h){l:List (List Key×V)}(q:KT H l m):∀x∈m,(AT<|dQ P w).is h x.1 x.2.1:=by
 induction q with
 |nil=>intro x hx;exact nomatch hx
 |@cons p q ps qs hq t ih=>
  intro x hx
  rcases aP.mp hx with e|hx
  ·subst e;exact nA ok (by rw[<-hq.1];exact hq.2.1)
  ·exact ih x hx
noncomputable def kD:Key->D
 |.inl i=>.int i
 |.inr x=>.str x
theorem nI:∀ {k:List Key}{xs:List V},RepL K F (k.map kD) xs->xs=k.map kV
 |[],xs,r=>by simpa only[gH,RepL] using r
 |a::k,xs,r=>by
  obtain⟨y,ys,rfl,q,rl⟩:=r.uncons;rw[nI rl];congr 1;cases a with
  |inl i=>exact q
  |inr x=>exact q
def uA{α β:Type}{xs:List α}{ys:List β}(h:xs.length=ys.length)(x:α)(y:β):(xs++[x]).zip (ys++[y])=xs.zip ys++[(x,y)]:=by rw[aNc h];rfl
theorem aAB{ks:List (List Key)}(hk:k∉ks):∀ {ks':List (List Key)}{xs:List V},(∀j∈ks',j∈ks)->fY (ks'.zip xs) k=none
 |[],_,_=>rfl
 |_::_,[],_=>rfl
 |j::js,x::xs,h=>by rw[eV,fZ (p:=(j,x)) (λe=>hk<|(show j=k from e)▸h j aG)];exact aAB hk λi hi=>h i<|aF _ hi
theorem xJ:∀ {sd:List Slot}{i:Nat}{z:Slot},(dL sd).Nodup->sd[i]? =some z->(lN z).Nodup
 |[],_,_,_,e=>by simp at e
 |y::zs,0,z,h,e=>by
  have:=by simpa using e
  subst this;exact(bD.mp<|h).1
 |y::zs,i+1,z,h,e=>xJ (bD.mp<|h).2.1 (by simpa using e)
variable {ks:List (List Key)}
def StF.setT(S:StF K H₀ F H σ sd)(i:Nat)(q:iB K F H (.ox as G) (some v))(nd:as.Nodup)(no:∀a∈as,a∉dL sd):StF K H₀ F H (σ.set i (some v)) (sd.set i<|.ox as G):=
 ⟨S.base,S.sub,S.smp,S.slots.set q i,(kN (z:=.ox as G) i S.nd (λl e=>.inl<|no l e) nd).1⟩
def StF.reT{o:Option V}(S:StF K H₀ F H σ sd)(hs:sd[i]? =some z)(ho:σ[i]? =some o)(keep:∀b ob,b∉lN z->H b=some ob->H' b=some ob)(sm:Smp H')(q:iB K F H' z' o)(nd:(lN z').Nodup)(no:∀a∈lN z',a∈lN z\/a∉dL sd):StF K H₀ F H' σ (sd.set i z'):=by
 have S0:=S.le<|gS sd i;have mz:∀a∈lN z,a∈dL sd:=λa ha=>dM.mpr ⟨z,aQ hs,ha⟩
 refine⟨S.base,λb u e=>?_,sm,?_,?_⟩
 ·refine keep b u (λhb=>?_)<|S.sub _ _ e;have:=(S.slots.owns<|mz b hb).1;rw[e] at this;cases this
 ·have q1:=S0.slots.mono (Same.refl _) λa ha=>⟨(S0.slots.owns ha).1,λob e=>keep a ob (λhb=>iF S.nd hs hb ha) e⟩
  have q2:=q1.set q i;rw[jD,lH ho] at q2;exact q2
 ·have:=kN i S0.nd (fun a ha=>by
   rcases no a ha with h|h
   ·exact .inl<|iF S.nd hs h
   ·exact .inl λhm=>h ((gS sd i).own.subset hm)) nd
  rw[jD] at this;exact this.1
def nM{o:CC}(h:Smp H)(a:BZ):Smp (upd H a<|exO a o):=λb u e=>by
 by_cases z:b=a
 ·subst z;rw[bX] at e;cases e;trivial
 ·rw[bH z] at e;exact h _ _ e
variable {k:List Key}
noncomputable def aKR:CC:={cls:=.type "dict",data:=.dict #[]}
def aCw:PE X (.Dict [] [] pos) (λ_ H Q=>∀p,H p=none->(p==AX)=false->Q (.ref p) (upd H p<|exO p aKR)):=λpins s σ H Q I h=>wpAny_Dict_empty ⟨.ref s.heap.objs.size,_,I.laid (λ_ _ q=>aD _ q) (aK _) (uO<|aR _ rfl),rfl,h _ (I.hok.fresh<|aK _)<|beq_eq_false_iff_ne.mpr (Ne.symm<|bC I.big)⟩
section
variable {prog:AF}{w:AL}{K:Type}[DecidableEq K]{knd:HeapKind prog w K}{A:CA}{E:BX->BY->Prop}{s:BY}
theorem qH{d a:BZ}{xs:List (K×BZ×BX)}{k:K}{v:BX}(hu:knd.room A)(hkey:knd.is s.heap k a)(hm:s.heap.DictOfH knd d xs)(hold:∀u,(atKey xs k).map (·.2)=some u->Q u {s with toks:=s.toks+knd.draws k})(hnew:atKey xs k=none->∀h',h'.DictOfH knd d (storedH xs k a v)->Heap.SameBut d s.heap h'->Q v {s with heap:=h',toks:=s.toks+knd.draws k})(hsz:xs.length<=AM):AH (AD prog w) A (dictSetDefault d (.ref a) v) Q E s:=by
 obtain⟨o,es,ep,ho,hc,hd,he,his,hn⟩:=hm;unfold dictSetDefault
 try with_reducible refine AV ?_
 refine AA<|knd.pyHash hu hkey ?_;refine AA<|wpAny_dictFind_heap hu hkey ho hd he his hn ?_ ?_
 ·intro hno;have hnot:=not_mem_keys_of_get hno
  refine AA (Av (AA (wpAny_updateDictKeys (hz:=by have e:=BM he; lia) ho hd (AB (hnew (atKey_none_of_get hno) _ ⟨_,_,ep+1,eE _ ho (Obj.isFreed_of_dict (Obj.data_mapDictKeys hd _)),
   hc.mapDictKeys _,Obj.data_mapDictKeys hd _,?_,?_,?_⟩ (Heap.SameBut.update ..))))))
  ·rw[storedH_new<|atKey_none_of_get hno];simp[he,entryOfKey]
  ·rw[storedH_new<|atKey_none_of_get hno];intro x hx
   rcases aS.mp hx with hx|hx
   ·exact knd.keeps (his x hx) ho hd<|Heap.SameBut.update ..
   ·simp at hx;subst hx;exact knd.keeps hkey ho hd<|Heap.SameBut.update ..
  ·rw[storedH_new<|atKey_none_of_get hno];rw[aO,bD];refine⟨hn,by simp,?_⟩;intro x hx y hy;simp at hy;subst hy;exact λe=>hnot<|e▸hx
 ·intro j p hj;refine AA<|Ad ho hd ?_;rw[entry_at he j,hj];have:=hold p.2 (by rw[atKey_of_get hn hj];rfl);exact AA (Av<|AB this)
end
section
variable {prog:AF}{w:AL}{K:Type}[DecidableEq K](knd:HeapKind prog w K)(d a:BZ)
def tG(hd:(d==AX)=false)(dflt:BX):MeetsIn prog w (Builtin.«dict.setdefault» ⟨[.ref d, .ref a,dflt],[]⟩) (fun A R s=>knd.room A.in1∧∃k xs,knd.is s.heap k a∧s.heap.DictOfH knd d xs∧xs.length≤AM∧
   (∀u,(atKey xs k).map (·.2)=some u->R (.ok<|.ret u) {s with toks:=s.toks+knd.draws k})/\
   (atKey xs k=none->∀h',h'.DictOfH knd d (storedH xs k a dflt)->Heap.SameBut d s.heap h'->R (.ok (.ret dflt)) {s with heap:=h',toks:=s.toks+knd.draws k})):=
 .of_wp λA R s ⟨hu,k,xs,hkey,hm,hz,h1,h2⟩=>by refine AA ?_;refine AA<|BB hm.typeIs ?_;refine AB ?_;show AH _ _ (if(d==AX)=true then _ else(dictSetDefault d (.ref a) dflt>>=_)) _ _ s;rw[if_neg<|by rw[hd];exact bJ];exact AA<|qH (hsz:=hz) hu hkey hm (λv hv=>AB ⟨v,rfl,h1 v hv⟩) λhn h' hm' hs'=>AB ⟨dflt,rfl,h2 hn h' hm' hs'⟩
end
section
variable {X:Cx}{o e:Expr}{es:List Expr}{to:TE}{t:TA}{name:Str}{apos cpos:Pos}{id:String}{r:V->List V->Hp->VK->Prop}
def aOe(pa:PlainAttrs "dict")(slot:PySem.Slot "dict" name id)(hty:typeOf (.builtin id)=pure (.type "method_descriptor"))(hm:MtR X id r)(ho:PE X o to)(ha:PA X (e::es) t)(hbase:BV o name X.env (eval o X.env)=eval o X.env:=by rfl)(hfew:((BH cpos (AE (e::es) X.env)).all (fun x=> !x.1) && (backToKw cpos (keywordEach [] X.env)).all (fun x=>x.1.isSome)
  &&decide ((e::es).length+([]:List Keyword).length+(if([]:List Keyword).isEmpty then 0 else 1)<30))=true:=by rfl)
  (hline:(apos.endLine==cpos.line)=true:=by rfl) (hs:AE (e::es) X.env=(false,eval e X.env)::AE es X.env:=by rfl) (hplain:(BH cpos<|AE es X.env).any (·.1)=false:=by rfl):
  PE X (.Call (.Attribute o name apos) (e::es) [] cpos) (λσ H Q=>to σ H λx H1=>(∃l ob,x=.ref l/\H1 l=some (exO l ob)/\ob.ExactDict)/\t σ H1 λxs H2=>r x xs H2 Q):=by
 intro pins s σ H Q I h;refine wpAny_Call_method_late hbase hfew hline rfl<|thn (ho pins s σ H _ I h) λv s1 ⟨x,H1,I1,r1,⟨l,ob,e1,e2,e3⟩,q1⟩=>?_;subst e1;obtain rfl:v=Value.ref l:=r1;have hg:=(I1.hok l _ e2).1;refine⟨"dict",id,pa,slot,hty,⟨ob,hg,e3.1⟩,λa q=>?_,?_⟩
 ·cases q;exact⟨ob,hg,e3.2.1⟩
 have hA:=ha cpos pins s1 σ H1 _ I1 q1;rw[hs] at hA ⊢;refine Calls.callWith_builtin (by show(false||(BH cpos<|AE es X.env).any (·.1))=false;rw[hplain]<;>rfl)<|Calls.evalArgs_plain ?_;exact thn hA λus s2 ⟨vs,H2,I2,r2,q2⟩=>hm pins s2 σ H2 (.ref l) vs (.ref l) us Q I2 rfl r2 q2
def rSD(X:Cx):V->List V->Hp->VK->Prop:=λx vs H Q=>∃ (F:Hp) (l ad:BZ) (k:List Key) (y:V) (o:CC) (kvs:List (List Key×V)),x=.ref l/\vs=[.ref ad,y]/\Same F H/\H l=some (exO l o)/\F ad=some (.tup<|k.map kV)/\X.A.units+1<AR/\
 TDo X.prog X.w F l o kvs/\kvs.length+1<=AM/\(∀z,fY kvs k=some z->Q z H)/\(fY kvs k=none->∀o',(∀v,o'.data≠ .cell v)->TDo X.prog X.w F l o' (kvs++[(k,y)])->Q y (upd H l<|exO l o'))
def aQN:MtR X "dict.setdefault" (rSD X):=by
 intro pins s σ H x vs v us Q I rx rv h;obtain⟨F,l,ad,k,y,o,kvs,rfl,rfl,sF,hl,ha,hu,⟨z,hm,ts,kt,es,ep,t1,t2,t3,t4⟩,hz1,q1,q2⟩:=h;obtain rfl:v=Value.ref l:=rx;cases rv with
 |cons r1 rv=>
  obtain⟨u,rfl,ru⟩:=Vals.one rv;rename_i b;obtain rfl:b=Value.ref ad:=r1;have ho:=(I.hok l _ hl).1;have ktH:=kt.keeps λb ys e=>sF _ _ e
  have dd:s.heap.DictOfH (AT<|dQ X.prog X.w) l ts:=⟨o,es,ep,ho,t1,t2,t3,KT.all I.hok ktH,t4⟩;have hz:ts.length<=AM:=by rw[<-Paired.length kt];exact z
  refine BZ iG dd.typeIs vK (uZ _ _ _) (tG (AT<|dQ X.prog X.w) l ad hm u) ⟨Ay hu,k,ts,nA I.hok<|sF _ _ ha,dd,hz,λw' hw=>?_,λhn h' dd' hsm=>?_⟩
  ·have rl:=ktH.val k;rw[hw] at rl;cases hv:fY kvs k with
   |none=>rw[hv] at rl;cases rl
   |some z'=>rw[hv] at rl;exact⟨z',H,I.tok _,rl,q1 z' hv⟩
  ·have hn':fY kvs k=none:=by
    have rl:=ktH.val k;rw[hn] at rl;cases hv:fY kvs k with
    |none=>rfl
    |some z'=>rw[hv] at rl;cases rl
   obtain⟨q,es',ep',hq,u2,u3,u4,_,u5⟩:=dd';have I4:=oQ (t':=s.toks+(AT<|dQ X.prog X.w).draws k) I (by rw[hl];exact True.intro) hsm ⟨q,hq⟩<|uO hq;have kt':=kt.put k ha ru;rw[pK y hn'] at kt';exact⟨y,_,I4,ru,q2 hn' q (λv z=>by rw[u3] at z;cases z) ⟨by rw[aV];exact hz1,hm,_,kt',es',ep',u2,u3,u4,u5⟩⟩
end
def Gg(P:AF)(w:AL)(K:aB)(l:BZ)(ks:List (List Key))(ls:List BZ)(dss:List (List D)):V->Hp->Hp->Prop:=λv F H=>v=.ref l/\(∃o,H l=some (exO l o)/\(∀v,o.data≠ .cell v)/\ks.length=ls.length/\TDo P w F l o (ks.zip<|ls.map V.ref))/\InD K F H ls dss
noncomputable def odG(P:AF)(w:AL)(K:aB)(l:BZ)(ks:List (List Key))(ls:List BZ)(dss:List (List D)):Slot:=.ox (l::ls)<|Gg P w K l ks ls dss
theorem aAq:∀ {ks:List (List Key)}{xs:List V}{k:List Key}{z:V},fY (ks.zip xs) k=some z->∃n:Nat,ks[n]? =some k/\xs[n]? =some z
 |[],_,_,_,h=>by cases h
 |_::_,[],_,_,h=>by cases h
 |j::js,y::ys,k,z,h=>by
  rw[eV] at h
  by_cases e:j=k
  ·rw[gW e] at h;exact⟨0,by simp[e],by simpa using h⟩
  ·rw[fZ e] at h;obtain⟨n,h1,h2⟩:=aAq h;exact⟨n+1,by simpa using h1,by simpa using h2⟩
theorem aFd:∀ {ks:List (List Key)}{xs:List V}{k:List Key},ks.length=xs.length->fY (ks.zip xs) k=none->k∉ks
 |[],_,_,_,_=>by simp
 |_::_,[],_,h,_=>by cases h
 |j::js,y::ys,k,hl,h=>by
  rw[eV] at h
  by_cases e:j=k
  ·rw[gW e] at h;cases h
  ·rw[fZ e] at h;have:=aFd (aKr.inj hl) h;exact λhm=>(aP.mp hm).elim (λq=>e q.symm) this
def aAy(h:sd[i]? =some z):sd.set i z=sd:=by obtain⟨hi,e⟩:=aE.mp h;rw[<-e,aDF]
def iN(S:StF K H₀ F H σ sd)(hs:sd[i]? =some (odG P w K l ks ls dss)):σ[i]? =some (some<|.ref l)/\(∀a∈l::ls,F a=none)/\(∃o,H l=some (exO l o)/\(∀v,o.data≠ .cell v)/\ks.length=ls.length/\TDo P w F l o (ks.zip<|ls.map V.ref))/\InD K F H ls dss/\(l::ls).Nodup:=by
 obtain⟨o,h1,v,h2,h3,h4⟩:=S.slots.get hs;obtain⟨e,q1,q2⟩:=h4 F H (Same.refl _) λ_ _ _ q=>q
 subst e h2;exact⟨h1,λa ha=>(h3 a ha).1,q1,q2,xC S.nd hs⟩
def yU{o:CC}(hF:∀a∈l::ls,F a=none)(h1:H l=some (exO l o))(nc:∀v,o.data≠ .cell v)(hl:ks.length=ls.length)(t:TDo P w F l o (ks.zip<|ls.map V.ref))(h2:InD K F H ls dss):iB K F H (odG P w K l ks ls dss) (some<|.ref l):=by
 refine⟨.ref l,rfl,λa ha=>⟨hF a ha,?_⟩,λF' H' s k=>⟨rfl,⟨o,k _ aG _ h1,nc,hl,t.mono s⟩,h2.mono2 s λa ha=>k a<|aF _ ha⟩⟩
 rcases aP.mp ha with rfl|ha
 ·exact⟨_,h1,o,rfl,nc⟩
 ·obtain⟨xs,e⟩:=h2.of a ha;exact⟨.lst xs,e,trivial⟩
def StF.wrG{a:BZ}{es:List D}(S:StF K H₀ F H σ sd)(hs:sd[i]? =some (odG P w K l ks ls dss))(ht:ls[t]? =some a)(r:RepL K F es ys):StF K H₀ F (upd H a<|.lst ys) σ (sd.set i (odG P w K l ks ls<|dss.set t es)):=by
 obtain⟨g1,g2,⟨o,g3,nc,hl,td⟩,g4,g5⟩:=iN S hs;obtain⟨n1,n2⟩:=bE.mp g5;have ma:=aQ ht
 refine S.reX hs g1 (fun b ob hb q=>?_) (aLy S.smp a) (yU g2 (by
  rw[bH (show l≠a from λz=>n1<|z▸ma)]
  exact g3) nc hl td (g4.set n2 ht r)) g5 λb hb=>.inl hb
 rw[bH (show b≠a from λz=>hb<|z▸aF _ ma)];exact q
def InD.snoc{a:BZ}:∀ {as:List BZ}{dss:List (List D)},InD K F H as dss->H a=some (.lst [])->InD K F H (as++[a]) (dss++[[]])
 |[],[],_,e=>⟨⟨[],e,.nil⟩,trivial⟩
 |[],_::_,h,_=>h.elim
 |_::_,[],h,_=>h.elim
 |_::_,_::_,h,e=>⟨h.1,InD.snoc h.2 e⟩
def StF.newG{a:BZ}{o:CC}(S:StF K H₀ F H σ sd)(hs:sd[i]? =some (odG P w K l ks ls dss))(fa:F a=none)(ha:H a=some (.lst []))(na:a∉dL sd)(nc:∀v,o.data≠ .cell v)(td:TDo P w F l o (ks.zip (ls.map V.ref)++[(k,.ref a)])):StF K H₀ F (upd H l<|exO l o) σ (sd.set i (odG P w K l (ks++[k]) (ls++[a])<|dss++[[]])):=by
 obtain⟨g1,g2,⟨o',g3,nc',hl,_⟩,g4,g5⟩:=iN S hs;obtain⟨n1,n2⟩:=bE.mp g5;have ml:∀b∈l::ls,b∈dL sd:=λb hb=>dM.mpr ⟨_,aQ hs,hb⟩
 have al:a≠l:=λz=>na<|z▸ml l aG
 have als:=λz=>na (ml a<|aF _ z)
 have sp:∀b,b∈l::(ls++[a])->b∈l::ls\/b=a:=λb hb=>by
  rcases aP.mp hb with h|h
  ·exact .inl<|h▸aG
  ·rcases aS.mp h with h|h
   ·exact .inl<|aF _ h
   ·exact .inr<|aH.mp h
 refine S.reX hs g1 (λb ob hb q=>?_) (nM S.smp l) (yU (λb hb=>?_) bX nc (by rw[aV,aV,hl];rfl) ?_ ?_) ?_ λb hb=>?_
 ·rw[bH (show b≠l from λz=>hb<|z▸aG)];exact q
 ·rcases sp b hb with h|rfl
  ·exact g2 b h
  ·exact fa
 ·rw[aO,bG,gH,uA<|by rw[aA];exact hl];exact td
 ·refine InD.snoc (g4.mono2 (Same.refl _) λb hb ob q=>?_) ?_
  ·rw[bH (show b≠l from λz=>n1<|z▸hb)];exact q
  ·rw[bH al];exact ha
 ·refine bE.mpr ⟨λh=>?_,bD.mpr ⟨n2,by simp,λb hb c hc e=>als<|aH.mp hc▸e▸hb⟩⟩
  rcases aS.mp h with h|h
  ·exact n1 h
  ·exact al (aH.mp h).symm
 ·rcases sp b hb with h|rfl
  ·exact .inl h
  ·exact .inr na
def aGg(i:Nat)(hN:X.N.Nodup)(hi:X.N[i]? =some x)(hx:Loc X.env.scope x)(hE:∀l,E.nx (sd.set i<|odG X.prog X.w X.K l [] [] []))(hs:Af (.Dict [] [] p2) (some<|.Name x p) pos.line X.env=pure false:=by rfl)(hf:X.fn x=true\/X.env.scope.names.lookup x=some .local:=by first|exact .inl rfl|exact .inr rfl|assumption):PSd1 X sd (.Assign [.Name x p] (.Dict [] [] p2) pos) E:=.mk λσ F H S=>
 (qZ hN hi hx aCw hs hf).to λq hq hm=>by
  have fp:=S.sub.free hq
  have no:q∉dL sd:=λhl=>by obtain⟨_,ob,h,_⟩:=S.slots.owns hl;rw[hq] at h;cases h
  have S1:StF X.K X.B₀ F (upd H q<|exO q aKR) σ sd:=by
   refine⟨S.base,λb u e=>?_,nM S.smp q,S.slots.mono (Same.refl _) λl hl=>?_,S.nd⟩
   ·rw[bH<|cD e fp];exact S.sub _ _ e
   ·obtain⟨n,ys,y,_⟩:=S.slots.owns hl;have hne:=cD y hq;exact⟨n,λys e=>by rw[bH hne];exact e⟩
  refine⟨_,F,S1.setT i (yU (ls:=[]) (dss:=[]) (λa ha=>by rw[aH.mp ha];exact fp) bX (λv z=>by cases z) rfl ⟨bM _,hm,[],.nil, #[],0,⟨rfl,rfl,rfl⟩,rfl,rfl,dS⟩ trivial) (by simp) λa ha=>?_,Same.refl _,hE q⟩;rw[aH.mp ha];exact no
theorem aGi(i:Nat)(hu:X.A.units+1<AR)(hs:sd[i]? =some (odG X.prog X.w X.K l ks ls dss))(hx:PE X (.Name x p) (kU i))(hb:PEd X sd b (.val (.tup<|k.map kD)))(h:∀z,PEd X (sd.set i z) e<|.val d)(hl:dss.length<=1000)(hl2:∀ds∈dss,ds.length<=1000)(hE1:∀n ds,ks[n]? =some k->dss[n]? =some ds->E.nx (sd.set i<|odG X.prog X.w X.K l ks ls (dss.set n<|ds++[d])))(hE2:k∉ks->∀a,E.nx<|sd.set i (odG X.prog X.w X.K l (ks++[k]) (ls++[a])<|dss++[[d]]))(hm:PE X (.Call (.Attribute (.Call (.Attribute (.Name x p) "setdefault" ap1) [b, .List [] p5] [] cp1) "append" ap) [e] [] cp) (tBM X.K "list" qB (λσ H Q=>kU i σ H λx H1=>(∃l ob,x=.ref l/\H1 l=some (exO l ob)/\ob.ExactDict)/\(lV (wE X b) (lV (wE X (.List [] p5)) vM)) σ H1 λxs H2=>rSD X x xs H2 Q) (lV (wE X e) vM)):=by exact aCM hW nF nG uL (aOe hV iG vV aQN (pv _) (fN fH (fN fH pa_nil))) (fN fH pa_nil))(hsw:Af (.Call (.Attribute (.Call (.Attribute (.Name x p) "setdefault" ap1) [b, .List [] p5] [] cp1) "append" ap) [e] [] cp) none pos.line X.env=pure false:=by rfl):PSd1 X sd (.Expr (.Call (.Attribute (.Call (.Attribute (.Name x p) "setdefault" ap1) [b, .List [] p5] [] cp1) "append" ap) [e] [] cp) pos) E:=.mk λσ F H S=>
 (qC hm hsw).to (by
  obtain⟨h1,h2,⟨o,h3,nc,hk,td⟩,h4,h5⟩:=iN S hs;have il:=(aE.mp hs).1
  have fin:∀ (F2 H2:Hp) (ks2:List (List Key)) (ls2:List BZ) (dss2:List (List D)) (n:Nat) (ad:BZ) (ds:List D),StF X.K X.B₀ F2 H2 σ (sd.set i<|odG X.prog X.w X.K l ks2 ls2 dss2)->Same F F2->ls2[n]? =some ad->dss2[n]? =some ds->ds.length<=1000->E.nx (sd.set i<|odG X.prog X.w X.K l ks2 ls2 (dss2.set n<|ds++[d]))->
    tyV X.K "list" (.ref ad) H2/\(lV (wE X e) vM) σ H2 λxs H3=>qB (.ref ad) xs H3 λ_ H4=>(lft X F E).nx σ H4:=λF2 H2 ks2 ls2 dss2 n ad ds S2 s2 hn hd hdl hE=>by
   have hs2:(sd.set i<|odG X.prog X.w X.K l ks2 ls2 dss2)[i]? =some (odG X.prog X.w X.K l ks2 ls2 dss2):=iJ il;obtain⟨g1,g2,_,g4,g5⟩:=iN S2 hs2;obtain⟨ds',xs,e1,e2,e3⟩:=g4.get hn;refine⟨.inl ⟨rfl,xs,.of e2⟩,(h _ σ F2 H2 S2).imp λv H3 ⟨F3,S3,s3,q3⟩=>?_⟩;obtain⟨f1,f2,_,f4,f5⟩:=iN S3 hs2;obtain⟨ds3,xs3,u1,u2,u3⟩:=f4.get hn;rw[hd] at u1;cases u1;have W:=S3.wrG hs2 hn (u3.app<|.one q3);rw[jD] at W;exact⟨ad,xs3,v,rfl,rfl,u2,by rw[u3.len] ;exact gG hdl,_,F3,W,s2.trans s3,hE⟩
  refine⟨.ref l,h1,⟨l,o,rfl,h3,td.2.2.choose_spec.2.choose_spec.choose_spec.1⟩,(hb σ F H S).imp λv1 H1 ⟨F1,S1,s1,q1⟩=>((pO aN (bM _):PEd X sd (.List [] p5) (.own [])) σ F1 H1 S1).imp λv2 H2 ⟨F2,S2,s2,q2⟩=>?_⟩;obtain⟨g1,g2,⟨o2,g3,nc2,hk2,td2⟩,g4,g5⟩:=iN S2 hs;obtain⟨ad,ys,rfl,ha,rl⟩:=q1;rw[nI rl] at ha;obtain⟨a,xs,rfl,fa,ha2,rl2,na⟩:=q2;have xn:=cI (by rw[rl2.len];rfl);subst xn;have zl:(ks.zip<|ls.map V.ref).length=dss.length:=by rw[kB,aA,<-hk2,kZ,hk2,g4.len]
  refine⟨F2,l,ad,k,.ref a,o2,ks.zip<|ls.map V.ref,rfl,rfl,S2.sub,g3,s2 _ _ ha,hu,td2,by have:=gG hl;lia,λz hz=>?_,λhz o' nc' td'=>?_⟩
  ·obtain⟨n,e1,e2⟩:=aAq hz;rw[aY] at e2;obtain⟨an,e3,rfl⟩:=eX.mp e2;obtain⟨ds,xs,d1,d2,d3⟩:=g4.get e3;have S2':StF X.K X.B₀ F2 H2 σ (sd.set i<|odG X.prog X.w X.K l ks ls dss):=by rw[aAy hs];exact S2
   exact fin F2 H2 ks ls dss n an ds S2' (s1.trans s2) e3 d1 (hl2 ds<|aQ d1)<|hE1 n ds e1 d1
  ·have S3:=S2.newG hs fa ha2 na nc' td';have hE:=hE2 (aFd (by rw[aA];exact hk2) hz) a;have en:(dss++[[]]).set dss.length ([]++[d])=dss++[[d]]:=by simp
   exact fin F2 _ (ks++[k]) (ls++[a]) (dss++[[]]) dss.length a [] S3 (s1.trans s2) (by rw[<-g4.len];simp) (by simp) (bM _) (by rw[en];exact hE))
noncomputable def pJ(n:Nat)(lo hi k:Option Int):List Nat:=sliceRange (As lo hi k n).1 (As lo hi k n).2.1 (As lo hi k n).2.2
def nQ{α:Type}(l:List α)(lo hi k:Option Int):List α:=(pJ l.length lo hi k).filterMap (l[·]?)
theorem aDp(n:Nat)(lo hi k:Option Int):(pJ n lo hi k).length<=n:=by
 refine sliceRange_length_le _ _ _ _ (λhc=>?_) λhc=>?_<;>simp only[As] at hc ⊢
 ·simp only[hc,if_true]
  constructor
  ·cases lo with
   |none=>simp
   |some i=>dsimp only;lia
  ·cases hi with
   |none=>simp
   |some i=>dsimp only;lia
 ·simp only[hc,if_false]
  constructor
  ·cases lo with
   |none=>simp
   |some i=>dsimp only;lia
  ·cases hi with
   |none=>simp
   |some i=>dsimp only;lia
def aGl(l:List α)(lo hi k:Option Int):(nQ l lo hi k).length<=l.length:=cF (List.length_filterMap_le _ _)<|aDp _ _ _ _
def aFF(r:Vals xs us)(lo hi k:Option Int):Vals (nQ xs lo hi k) (nQ us lo hi k):=by
 unfold nQ;rw[r.length];generalize pJ us.length lo hi k=is
 induction is with
 |nil=>exact .nil
 |cons i is ih=>
  rw[gF,gF];cases hx:xs[i]? with
  |none=>have hl:=aAO.mp hx;rw[cV<|by rw[<-r.length];exact hl];exact ih
  |some x=>obtain⟨u,hu,ru⟩:=r.get hx;rw[hu];exact .cons ru ih
def aIP(r:RepL K H ds xs)(lo hi k:Option Int):RepL K H (nQ ds lo hi k) (nQ xs lo hi k):=by
 unfold nQ;rw[r.len];generalize pJ ds.length lo hi k=is
 induction is with
 |nil=>exact .nil
 |cons i is ih=>
  rw[gF,gF];cases hx:ds[i]? with
  |none=>have hl:=aAO.mp hx;rw[cV<|by rw[r.len];exact hl];exact ih
  |some x=>obtain⟨u,hu,ru⟩:=r.get hx;rw[hu];exact .cons ru ih
def aBr(its:List BX)(lo hi k:Option Int):slicePick its.toArray lo hi k=(nQ its lo hi k).toArray:=by unfold slicePick nQ pJ;congr 1;refine congrFun (congrArg _ ?_) _;funext i;simp
theorem aFO{lo hi:Option Expr}{k:Expr}(he:PE X e te)(hl:PO X lo tl)(hu:PO X hi th)(hs:PO X (some k) ts):PE X (.Subscript e (.Slice lo hi (some k) p2) pos) (λσ H Q=>te σ H λx H1=>tl σ H1 λl H2=>th σ H2 λu H3=>ts σ H3 λz H4=>∃a xs,x=.ref a/\SqL X.K H4 a xs/\z≠some 0/\∀p,H4 p=none->Q (.ref p) (upd H4 p (.lst<|nQ xs l u z))):=by
 intro pins s σ H Q I h;refine Subscript_<|thn (he pins s σ H _ I h) λv s1 ⟨x,H1,I1,r1,q1⟩=>?_;refine wpAny_Slice<|thn (hl pins s1 σ H1 _ I1 q1) λvl s2 ⟨l,H2,I2,pl,q2⟩=>thn (hu pins s2 σ H2 _ I2 q2) λvu s3 ⟨u,H3,I3,pu,q3⟩=>thn (hs pins s3 σ H3 _ I3 q3) λvk s4 ⟨z,H4,I4,pk,q4⟩=>?_;obtain⟨a,xs,rfl,hx,hz0,q⟩:=q4;have I5:Inv X pins σ H4 {s4 with heap:=s4.heap.push {cls:=.type "slice",data:=.fields #[vl,vu,vk]}}:=I4.kept λb ob q=>aD _ q
 cases r1;obtain⟨its,r,ht,hz⟩:=I5.list hx;have hlen:=r.length
 have hg:AH (AD X.prog X.w) X.A (getItem (.ref a)<|.ref s4.heap.objs.size) (EP X pins σ Q) X.xe {s4 with heap:=s4.heap.push {cls:=.type "slice",data:=.fields #[vl,vu,vk]}}:=by refine wpAny_getItem_list_slice ht.isList (Heap.IsSliceOf.new ..) pl pu pk hz0 ?_ (by rw[bB]<;>lia);rw[aBr];refine⟨.ref _,_,I5.laid (λb ob q=>aD _ q) (aK _) ?_,rfl,q _ (I5.hok.fresh<|aK _)⟩;exact⟨cF (aGl xs l u z) hz,_,0,aFF r l u z,aR _ rfl⟩
 exact tail_any ht.isList.typeIs slot_list_getitem.lookup hg (by with_unfolding_all rfl)
theorem aMK{lo hi:Option Expr}{k:Expr}(ha:PEd X sd a (.bor ds))(hl:POd X sd lo ol)(hh:POd X sd hi oh)(hk:POd X sd (some k) ok)(h0:ok≠some 0):PEd X sd (.Subscript a (.Slice lo hi (some k) p2) pos) (.own<|nQ ds ol oh ok):=.mk λσ F H S=>by obtain⟨tl,pl,kl⟩:=oD hl;obtain⟨th,ph,kh⟩:=oD hh;obtain⟨tk,pk,kk⟩:=oD hk;refine(aFO fH pl ph pk).to<|(ha σ F H S).imp λv H1 ⟨F1,S1,s1,q1⟩=>kl σ F1 H1 S1 _ λF2 H2 S2 s2=>kh σ F2 H2 S2 _ λF3 H3 S3 s3=>kk σ F3 H3 S3 _ λF4 H4 S4 s4=>?_;obtain⟨l,xs,rfl,hl',rl,_⟩:=ResOk.keep (r:=.bor ds) trivial q1 S4<|(s2.trans s3).trans s4;refine⟨l,xs,rfl,.of hl',h0,λp hp=>?_⟩;obtain⟨S5,fp,no⟩:=S4.layO hp;exact⟨F4,S5,((s1.trans s2).trans s3).trans s4,p,_,rfl,fp,bX,aIP rl ol oh ok,no⟩
def pD(p:Int×Int)(ws:List Int):Nat:=(vP (2^p.1.toNat) ws).toNat
theorem xP(hp:p∈bS)(G:Fil p ws):vP (2^p.1.toNat) ws=(pD p ws:Int)/\pD p ws<(bU p).length/\(bU p).getD (pD p ws) []=ws:=by have h:=aJJ<|aOi p hp;obtain⟨a,b,c⟩:=aOr h G.len G.wd;refine⟨by unfold pD;lia,?_,c⟩;show _<(iV _ _).length;rw[h.len];exact b
def yL(hp:p∈bS)(hi:i<(bU p).length):pD p ((bU p).getD i [])=i:=by
 have h:=aJJ<|aOi p hp;have hi':i<2^(p.1.toNat*p.2.toNat):=by rw[<-h.len];exact hi
 have:=(h.at_ i hi').2.2.1;show(vP (2^p.1.toNat)<|(iV (2^p.1.toNat) p.2.toNat).getD i []).toNat=i;rw[this];exact eM i
def aQx(A:CA)(s:BY)(x y:BX)(b:Bool):Prop:=∀ (prog:AF) (w:AL) (E:BX->BY->Prop) (Q:BX->BY->Prop),Q (.bool b) s->AH (AD prog w) A (richCompare .Lt x y) Q E s
inductive aHc(A:CA)(s:BY)(fin:Bool):List (BX×BX)->Bool->Prop
 |nil:aHc A s fin [] fin
 |eq {x y:BX}{r:List (BX×BX)}{b:Bool}:SeqAt.EqAt A.in1 s x y true->aHc A s fin r b->aHc A s fin ((x,y)::r) b
 |lt {x y:BX}{r:List (BX×BX)}{b:Bool}:SeqAt.EqAt A.in1 s x y false->aQx A.in1 s x y b->aHc A s fin ((x,y)::r) b
section
open PySem.SeqAt
open PySem.AutoSeq1 (wpAny_loadPart')
open PySem.MeetsSeq PySem.MeetsSeq2 PySem.MeetsSeq3
theorem aAH(l b:BZ)(items items2:Array BX)(n n2:Nat)(dd dd2:Option BZ)(sl sl2:Array (Option BX))(res:Bool):Meets (Builtin.«tuple.__lt__» ⟨[.ref l,.ref b],[]⟩)
   (fun A R s=>s.heap.get? l=some {cls:= .type "tuple",dict:=dd,data:= .seq items n,slots:=sl}∧s.heap.get? b=some {cls:= .type "tuple",dict:=dd2,data:= .seq items2 n2,slots:=sl2}∧
    aHc A s (decide (items.size<items2.size)) (items.toList.zip items2.toList) res/\R (.ok (.ret (.bool res))) s):=
 .of_wp λprog w A R s h=>by
  obtain⟨hp,g,d,tk,os⟩:=s;obtain⟨hl,hb,hx,h⟩:=h;have f2:=AutoSeq1.sub_tuple_tuple
  wp_walk using wpAny_loadPart' hl,wpAny_loadPart' hb,Ap _ (λrest b s'=>b.1=none/\s'=⟨hp,g,d,tk,os⟩/\aHc A ⟨hp,g,d,tk,os⟩ (decide<|items.size<items2.size) rest res) _
  case turn=>
   rintro⟨y,x⟩ rest b s' ⟨hb',rfl,hv⟩;cases hv with
   |eq he hr=>
    refine AA<|he prog w _ _ ?_
    wp_walk
    exact⟨rfl,rfl,hr⟩
   |lt he hlt=>
    refine AA<|he prog w _ _ ?_;have hri:=hlt prog w
    wp_walk using hri
    exact⟨_,rfl,by simpa using h⟩
  case fin=>
   rintro⟨b1,b2⟩ s' ⟨hb',rfl,hv⟩;subst hb';cases hv
   wp_walk
   exact⟨_,rfl,by simpa[Builtin.Tuple.tupleCompareSizes] using h⟩
  case h=>exact⟨rfl,rfl,hx⟩
def aDh{l b:BZ}(hl:IsTup s.heap l items)(hb:IsTup s.heap b items2)(hx:aHc A s (decide<|items.size<items2.size) (items.toList.zip items2.toList) res)(hu:A.units<AR):aQx A s (.ref l) (.ref b) res:=λprog w E Q h=>by
 obtain⟨⟨cls,dd,data,sl⟩,ho,hc,n,hd⟩:=id hl;obtain⟨⟨cls2,dd2,data2,sl2⟩,ho2,hc2,n2,hd2⟩:=id hb;subst hc hd hc2 hd2
 exact richCompare_meets_room ⟨_,ho,rfl⟩ ⟨_,ho2,rfl⟩ PySem.F.slot_tuple_lt PySem.F.entry_tuple_lt (PySem.F.args_tuple_lt_2 _ _) (aAH l b items items2 n n2 dd dd2 sl sl2 res)
  ⟨ho,ho2,hx,⟨(λx=>nomatch x),h⟩⟩ hu
end
mutual
noncomputable def dlt:D->D->Bool
 |.int a,.int b=>decide<|a<b
 |.tup a,.tup b=>mK a b
 |_,_=>false
noncomputable def mK:List D->List D->Bool
 |[],[]=>false
 |[],_::_=>true
 |_::_,[]=>false
 |d::ds,e::es=>if deq d e=true then mK ds es else dlt d e
end
mutual
noncomputable def uE:D->D->Bool
 |.int _,.int _=>true
 |.tup a,.tup b=>sZ a b
 |_,_=>false
noncomputable def sZ:List D->List D->Bool
 |[],_=>true
 |_::_,[]=>true
 |d::ds,e::es=>uE d e&&sZ ds es
end
mutual
theorem aKm(hok:HOk P w H s.heap):∀ (d:D) {d2:D}{v1 v2:V}{u1 u2:BX}{A:CA},uE d d2=true->pl d=true->pl d2=true->Rep K H d v1->Rep K H d2 v2->RelV v1 u1->RelV v2 u2->A.units+dep d<AR->aQx A s u1 u2 (dlt d d2)
 |.int a,d2,v1,v2,u1,u2,A,c,p1,p2,r1,r2,ru1,ru2,hu=>by
  cases d2 with
  |int b=>subst r1 r2;obtain⟨t,rfl⟩:=ru1;obtain⟨t2,rfl⟩:=ru2;exact λprog w E Q h=>(PyProof.Rows.lt_int h)
  |_=>simp[uE] at c
 |.tup ds,d2,v1,v2,u1,u2,A,c,p1,p2,r1,r2,ru1,ru2,hu=>by
  cases d2 with
  |tup es=>
   obtain⟨a,xs,its,rfl,rfl,rl,rv,ht⟩:=iK hok r1 ru1;obtain⟨b,ys,jts,rfl,rfl,rl2,rv2,ht2⟩:=iK hok r2 ru2;have l1:its.length=ds.length:=by rw[<-rv.length,rl.len]
   have l2:jts.length=es.length:=by rw[<-rv2.length,rl2.len]
   simp only[dep] at hu;refine aDh ht ht2 ?_ (by lia);exact aEo hok ds c p1 p2 rl rl2 rv rv2 (by lia) (by simp[l1,l2])
  |_=>simp[uE] at c
 |.non,d2,_,_,_,_,_,c,_,_,_,_,_,_,_=>by cases d2<;>simp[uE] at c
 |.bl _,d2,_,_,_,_,_,c,_,_,_,_,_,_,_=>by cases d2<;>simp[uE] at c
 |.str _,d2,_,_,_,_,_,c,_,_,_,_,_,_,_=>by cases d2<;>simp[uE] at c
 |.lst _,d2,_,_,_,_,_,c,_,_,_,_,_,_,_=>by cases d2<;>simp[uE] at c
 |.dic,d2,_,_,_,_,_,c,_,_,_,_,_,_,_=>by cases d2<;>simp[uE] at c
 |.dki _ _,d2,_,_,_,_,_,c,_,_,_,_,_,_,_=>by cases d2<;>simp[uE] at c
 |.any _,d2,_,_,_,_,_,c,_,_,_,_,_,_,_=>by cases d2<;>simp[uE] at c
 |.scr _,d2,_,_,_,_,_,c,_,_,_,_,_,_,_=>by cases d2<;>simp[uE] at c
theorem aEo(hok:HOk P w H s.heap):∀ (ds:List D) {es:List D}{xs ys:List V}{its jts:List BX}{A:CA}{fin:Bool},sZ ds es=true->plL ds=true->plL es=true->RepL K H ds xs->RepL K H es ys->Vals xs its->Vals ys jts->A.units+1+jI ds<AR->fin=decide (ds.length<es.length)->aHc A s fin (its.zip jts) (mK ds es)
 |[],es,xs,ys,its,jts,A,fin,c,p1,p2,r1,r2,v1,v2,hu,hf=>by
  simp only[RepL] at r1;subst r1;cases v1;subst hf;rw[List.zip_nil_left];cases es with
  |nil=>exact .nil
  |cons e es=>
   have:mK [] (e::es)=decide (([]:List D).length<(e::es).length):=by simp[mK]
   rw[this];exact .nil
 |d::ds,[],xs,ys,its,jts,A,fin,c,p1,p2,r1,r2,v1,v2,hu,hf=>by
  simp only[RepL] at r2;subst r2;cases v2;subst hf;rw[List.zip_nil_right];have:mK (d::ds) []=decide ((d::ds).length<([]:List D).length):=by simp[mK]
  rw[this];exact .nil
 |d::ds,e::es,xs,ys,its,jts,A,fin,c,p1,p2,r1,r2,v1,v2,hu,hf=>by
  obtain⟨x,xs,rfl,a1,r1⟩:=r1.uncons;obtain⟨y,ys,rfl,a2,r2⟩:=r2.uncons;simp only[plL,bL] at p1 p2;simp only[sZ,bL] at c;simp only[jI] at hu;cases v1 with
  |cons q1 v1=>
   cases v2 with
   |cons q2 v2=>
    rw[eV];have he:=aBP (A:=A.in1) hok d p1.1 p2.1 a1 a2 q1 q2 (by show A.units+1+dep d<AR;lia);simp only[mK]
    by_cases z:deq d e=true
    ·rw[if_pos z];rw[z] at he;exact .eq he (aEo hok ds c.2 p1.2 p2.2 r1 r2 v1 v2 (by lia)<|by rw[hf];simp)
    ·rw[if_neg z];rw[iY.mpr z] at he;exact .lt he (aKm (A:=A.in1) hok d c.1 p1.1 p2.1 a1 a2 q1 q2<|by show A.units+1+dep d<AR;lia)
end
section
variable {prog:AF}{w:AL}{A:CA}{E:BX->BY->Prop}{s:BY}
open HT
end
noncomputable def kY(ws:List Int):List Key:=ws.map Sum.inl
def kY_D(ws:List Int):D.tup ((kY ws).map kD)=bF ws:=by unfold kY bF;rw[aW];rfl
def pP(a:List Nat):(cS a).length=a.length:=by unfold cS;rw[aA]
end DL
namespace DL
open PySem PySem.Spec PySem.Calls PySem.W PyProof.Rows Builtin Builtin.Getset_descriptor Builtin.ObjectAttr
end DL
namespace DL
open PySem PySem.Spec PyProof.Rows L2
variable {X:Cx}
def rSI:V->List V->Hp->VK->Prop:=λx vs H Q=>∃ (l:BZ) (k:Key) (y:V) (kvs:List (Key×V)),x=.ref l/\vs=[kV k,y]/\H l=some (.dK kvs)/\kvs.length+1<=AM/\(∀z,fY kvs k=some z->Q z H)/\(fY kvs k=none->Q y (upd H l (.dK<|kvs++[(k,y)])))
def aOW:MtR X "dict.setdefault" rSI:=by
 intro pins s σ H x vs v us Q I rx rv h;obtain⟨l,k,y,kvs,rfl,rfl,hl,hz,q1,q2⟩:=h;obtain rfl:v=Value.ref l:=rx;cases rv with
 |cons r1 rv=>
  obtain⟨u,rfl,ru⟩:=Vals.one rv;obtain⟨z,hd,vs,rel,dd⟩:=aNz I.hok hl;refine BZ iG dd.typeIs vK (uZ _ _ _) (kt_meets_setdefault (dQ X.prog X.w) l (aHl r1) hd u) ⟨vs,dd,by rw[<-rel.length];exact z,λw' hw=>?_,λhn h' dd' hsm=>?_⟩
  ·have rl:=rel.val k;rw[hw] at rl;cases hv:fY kvs k with
   |none=>rw[hv] at rl;cases rl
   |some z'=>rw[hv] at rl;exact⟨z',H,I.tok _,rl,q1 z' hv⟩
  ·have hn':fY kvs k=none:=by
    have rl:=rel.val k;rw[hn] at rl;cases hv:fY kvs k with
    |none=>rfl
    |some z'=>rw[hv] at rl;cases rl
   have rp:=rel.put k ru;rw[pK y hn'] at rp;have he:∃q,h'.get? l=some q:=let ⟨q,_,_,hq,_⟩:=dd';⟨q,hq⟩
   exact⟨y,_,oQ I (by rw[hl];exact True.intro) hsm he<|aJu (by rw[aV];exact hz) hd rp dd',ru,q2 hn'⟩
variable {K:aB}{H₀ F F' H H':Hp}{σ:St}{sd:List Slot}{i:Nat}{l:BZ}{ks:List Key}{ls:List BZ}{dss:List (List D)}
def sE(h:Smp H)(a:BZ)(z:aPY o):Smp (upd H a o):=λb u e=>by
 by_cases q:b=a
 ·subst q;rw[bX] at e;cases e;exact z
 ·rw[bH q] at e;exact h _ _ e
def aCv{bs:List Bool}(r:Vals (bs.map V.bl) its)(h:its[i]? =some v):∃b,bs[i]? =some b/\v=.bool b:=by
 have hi:=(aE.mp h).1;have hl:=r.length;rw[aA] at hl;have hb:=by omega
 obtain⟨u,h1,h2⟩:=r.get (i:=i) (x:=.bl bs[i]) (by simp[hb]);rw[h] at h1;cases h1;exact⟨bs[i],by simp[hb],h2⟩
def aDi(bs:List Bool):((bI bs.length).all λi=>(bs[i]?).getD true)=bs.all id:=by
 apply gY.mpr;simp only[cZ,bR,id_eq]
 constructor
 ·intro h b hb;obtain⟨i,hi,rfl⟩:=cP hb;have:=h i hi;simpa[hi] using this
 ·intro h i hi;have:=h bs[i]<|fJ hi;simpa[hi] using this
variable {e a b c:Expr}{pos:Pos}{ds:List D}
def aGE(hc:X.calm=true):mG X (.builtin "all") (λxs H Q=>∃ (a:BZ) (bs:List Bool),xs=[.ref a]/\SqL X.K H a (bs.map V.bl)/\Q (.bl<|bs.all id) H):=by
 intro pins s σ H xs us Q I r h;obtain⟨a,bs,rfl,ha,q⟩:=h;obtain⟨u,rfl,ru⟩:=oX r;cases ru;obtain⟨its,rv,p,hz⟩:=I.list ha;have hl:=rv.length;rw[aA] at hl;have isl:=p.isList;have alt:a<s.heap.objs.size:=by obtain⟨o,ho,_⟩:=isl;exact aM ho
 refine call_all_walk<|Au isl ?_;refine⟨s.heap.objs.size,[s.heap.objs.size,a],[s.heap.objs.size],its.toArray.size,_,_,λi=>(bs[i]?).getD true,rfl,Walks.list (A:=X.A.in1) (I.ok.hd hc) _ a (bC alt) its.toArray,⟨⟨_,aR _ rfl,rfl,rfl⟩,isl.push _⟩,λi v s' Q' E' hP hQ=>?_,λh' tk hk=>?_⟩
 ·obtain⟨b,e,rfl⟩:=aCv rv (by simpa using hP);simp only[e,aIZ] at hQ;exact Ac hQ
 ·have e:((bI its.toArray.size).all λi=>(bs[i]?).getD true)=bs.all id:=by rw[bB,<-hl];exact aDi bs
  rw[e]
  exact ⟨.bl (bs.all id),H,I.kept fun b o g=>hk b o (fun z=>by
   have z:=by simpa using z
   exact absurd (aM g) (by rw[z];exact dH _)) (aD _ g),rfl,q⟩
def RepL.bls:∀ {bs:List Bool}{xs:List V},RepL K H (bs.map D.bl) xs->xs=bs.map V.bl
 |[],xs,r=>by simpa only[gH,RepL] using r
 |n::ns,xs,r=>by obtain⟨y,ys,rfl,a,rl⟩:=r.uncons;rw[a,RepL.bls rl];rfl
def aLU{p:Pos}{bs:List Bool}(hg:Gl X "all")(hm:X.mg "all"=none)(ha:PEd X sd e (.bor<|bs.map D.bl))(hc:X.calm=true:=by rfl)(hst:AE [e] X.env=(false,eval e X.env)::AE [] X.env:=by rfl):PEd X sd (.Call (.Name "all" p) [e] [] pos) (.val (.bl<|bs.all id)):=
 lG (he:=hst) (aGE hc) hg hm boot_all (aC ha aN trivial hst) λσ F H vs Q S q k=>by
  cases q with
  |cons q1 q2=>cases q2;obtain⟨p,xs,rfl,hp,rl,_⟩:=q1;exact⟨p,bs,rfl,.of (by rw[<-rl.bls];exact hp),k _ F H S (Same.refl _)<|by simp only[ResOk,Rep]⟩
def fO(L:List SK)(row:List Nat):Prop:=∀t∈row,t<L.length
def aJo:List D->R->Prop:=λds r=>∃ (L:List SK) (row:List Nat),fO L row/\row.length<=900/\ds=[.lst<|L.map skD,.tup<|cS row]/\r=.val (.bl true)
def aHi{G K:Prop}(h:K->G)(k:K):G:=h k
section
variable {prog:AF}{w:AL}{κ:Type}[DecidableEq κ](knd:KeyKind prog w κ)
def Row2(h:CB)(ks:List (List κ))(vs:List BX):Prop:=ks.length=vs.length/\∀ (n:Nat) (k:List κ),ks[n]? =some k->∃b,vs[n]? =some (.ref b)/\(AT knd).is h k b
def IsT2(h:CB)(ks:List (List κ))(a:BZ):Prop:=∃ (o:CC) (vs:Array BX) (c:Nat),h.get? a=some o/\o.cls=.type "tuple"/\o.data=.seq vs c/\Row2 knd h ks vs.toList
variable {knd}
def Row2.inj(p:Row2 knd h x vs)(q:Row2 knd h y vs):x=y:=by
 refine lO (p.1.trans q.1.symm) λn n1 n2=>?_
 obtain⟨b,e1,t1⟩:=p.2 n _<|dN n1;obtain⟨c,e2,t2⟩:=q.2 n _<|dN n2;rw[e1] at e2;cases e2;exact(AT knd).inj t1 t2
def IsT2.ty{s:BY}{ks:List (List κ)}{a:BZ}:IsT2 knd s.heap ks a->s.TypeIs (.ref a) "tuple"
 |⟨o,_,_,g,c,_⟩=>⟨o,g,c⟩
def IsT2.one{a:BZ}(p:IsT2 knd h x a)(q:IsT2 knd h y a):x=y:=by obtain⟨o,vs,c,g,_,d,r⟩:=p;obtain⟨o2,vs2,c2,g2,_,d2,r2⟩:=q;cases g.symm.trans g2;cases d.symm.trans d2;exact r.inj r2
def IsT2.stay{ks:List (List κ)}{a d:BZ}(p:IsT2 knd h ks a)(g:h.get? d=some o)(e:o.data=.dict es ep)(sb:Heap.SameBut d h h'):IsT2 knd h' ks a:=by
 obtain⟨o2,vs,c,g2,t,e2,r⟩:=p
 have ne:a≠d:=λz=>by subst z;cases g.symm.trans g2;cases e.symm.trans e2
 exact⟨o2,vs,c,(sb.2 a ne).trans g2,t,e2,r.1,λn k hk=>let ⟨b,q1,q2⟩:=r.2 n k hk;⟨b,q1,(AT knd).keeps q2 g e sb⟩⟩
def Row2.step{ks:List (List κ)}(p:Row2 knd h ks (v::vs)):∃k ks' b,ks=k::ks'/\v=.ref b/\(AT knd).is h k b/\Row2 knd h ks' vs:=by
 cases ks with
 |nil=>cases p.1
 |cons k ks'=>obtain⟨b,q1,q2⟩:=p.2 0 k rfl;cases q1;exact⟨k,ks',b,rfl,rfl,q2,aKr.inj p.1,λn k' hk=>p.2 (n+1) k' hk⟩
def Row2.none{ks:List (List κ)}(p:Row2 knd h ks []):ks=[]:=cI p.1
noncomputable def aKL(knd:KeyKind prog w κ)(ks:List (List κ)):Int:=reduceHash (Builtin.Tuple.tupleHashOf<|ks.map (AT knd).hash)
noncomputable def oJ:List (List κ)->Nat
 |[]=>0
 |k::ks=>k.length+1+oJ ks
variable {A:CA}{E:BX->BY->Prop}{s:BY}
theorem aGh{ks:List (List κ)}{a:BZ}(hu:A.units+1<AR)(p:IsT2 knd s.heap ks a)(q:Q (aKL knd ks) {s with toks:=s.toks+(oJ ks+1)}):AH (AD prog w) A (PySem.pyHash<|.ref a) Q E s:=by
 have ty:=p.ty;obtain⟨o,vs,c,g,_,e,r⟩:=p;refine AA<|wpAny_cRoomFor_or (.inr<|aMS hu) (AA<|BD ty F.slot_tuple_hash.lookup ?_);refine BE (λz=>absurd z<|by exact bJ) λ_=>?_
 refine AA<|BD ty F.slot_tuple_hash.lookup (AA<|wpAny_callSpecialIfBoundUnlessNone?_slot ty F.slot_tuple_hash (AQ F.slot_tuple_hash ty F.entry_tuple_hash ?_<|F.args_tuple_hash_1 _));refine AA (m:=Builtin.Tuple.tupleItemsOf<|.ref a) (wpAny_tupleItemsOf g e<|AA ?_);rw[<-kC];refine Ap _ (λrest (acc) st=>∃todo,Row2 knd s.heap todo rest/\acc.toList++todo.map (AT knd).hash=ks.map (AT knd).hash/\st={s with toks:=st.toks}/\st.toks+oJ todo=s.toks+oJ ks) _ (λv rest acc st h=>?_) (λacc st h=>?_) _ _ ⟨ks,r,rfl,rfl,rfl⟩
 ·obtain⟨todo,r1,e1,e2,e3⟩:=h;obtain⟨k,ks',b,rfl,rfl,t,r2⟩:=r1.step;rw[e2];refine AA ((AT knd).pyHash (?_) t ?_)
  ·exact hu
  ·have nx:∃todo,Row2 knd s.heap todo rest/\(acc.push<|(AT knd).hash k).toList++todo.map (AT knd).hash=ks.map (AT knd).hash/\({s with toks:=st.toks+(k.length+1)})={s with toks:=st.toks+(k.length+1)}/\st.toks+(k.length+1)+oJ todo=s.toks+oJ ks:=⟨ks',r2,by rw[<-e1];simp,rfl,by rw[<-e3];show _=_+(_+_);lia⟩
   first|exact AB nx|exact AA (AB<|AB nx)
 ·obtain⟨todo,r1,e1,e2,e3⟩:=h;cases r1.none;rw[gH,dD] at e1;rw[e2]
  have tk:st.toks+1=s.toks+(oJ ks+1):=by have:st.toks+0=s.toks+oJ ks:=e3;lia
  show AH _ _ (retInt<|Builtin.Tuple.tupleHashOf acc.toList) _ _ _;rw[e1];unfold aKL reduceHash at q;rw[<-tk] at q;refine wpAny_ret_mkInt ?_;refine BE (λz=>AB ?_) λz=>AA (Av<|AB ?_)
  ·rw[if_pos z] at q;exact q
  ·rw[if_neg z] at q;exact q
theorem aLv{a b:BZ}{R:Fin->BY->Prop}(hu:A.units<AR)(p:IsT2 knd s.heap x a)(q:IsT2 knd s.heap y b)(h:R (.done (.ret<|.bool (decide<|x=y))) s):AH (AD prog w) A (Builtin.«tuple.__eq__» ⟨[.ref a,.ref b],[]⟩) R E s:=by
 have ty:=q.ty;obtain⟨oa,us,_,ga,_,ea,ra⟩:=p;obtain⟨ob,vs,_,gb,_,eb,rb⟩:=q;refine AA (m:=isInstance (.ref b)<|.type "tuple")<|Ax ty isSubtype_tuple_tuple ?_;refine AA (wpAny_tupleItemsOf ga ea<|AA (wpAny_tupleItemsOf gb eb<|AA ?_));have lu:us.size=x.length:=by rw[ra.1,eC]
 have lv:vs.size=y.length:=by rw[rb.1,eC]
 refine Ap _ (λrest acc st=>acc.1=none/\st=s/\∃xs ys us' vs',rest=us'.zip vs'/\Row2 knd s.heap xs us'/\Row2 knd s.heap ys vs'/\(x=y↔xs=ys)/\(x.length=y.length↔xs.length=ys.length)) _ (λv rest acc st i=>?_) (λacc st i=>?_) _ _ ⟨rfl,rfl,x,y,us.toList,vs.toList,rfl,ra,rb,Iff.rfl,Iff.rfl⟩
 ·obtain⟨_,rfl,xs,ys,us',vs',z,r1,r2,i1,i2⟩:=i;cases us' with
  |nil=>simp at z
  |cons u us'=>
   cases vs' with
   |nil=>simp at z
   |cons v' vs'=>
    obtain⟨k,xs',c,rfl,rfl,t1,r1⟩:=r1.step;obtain⟨j,ys',c',rfl,rfl,t2,r2⟩:=r2.step;cases z;refine AA<|(AT knd).eqBool hu t1 t2 ?_
    by_cases e:k=j
    ·rw[decide_eq_true e];exact AB ⟨rfl,rfl,xs',ys',us',vs',rfl,r1,r2,i1.trans ⟨λz=>(aNd.inj z).2,λz=>by rw[e,z]⟩,i2.trans ⟨aKr.inj,congrArg _⟩⟩
    ·rw[decide_eq_false e];rw[decide_eq_false λz=>e (aNd.inj<|i1.mp z).1] at h;exact AA<|AB (AB<|AB h)
 ·obtain⟨n0,rfl,xs,ys,us',vs',z,r1,r2,i1,i2⟩:=i;obtain⟨a1,a2⟩:=acc;cases n0
  have fin:(us.size==vs.size)=decide (x=y):=by
   rw[lu,lv]
   by_cases e:x.length=y.length
   ·have l2:=i2.mp e
    have:xs=ys:=by
     cases us' with
     |nil=>cases r1.none;exact(cI l2.symm).symm
     |cons u us'=>
      cases vs' with
      |nil=>cases r2.none;exact cI l2
      |cons v vs'=>cases z
    rw[decide_eq_true<|i1.mpr this,e];exact beq_self_eq_true _
   ·rw[decide_eq_false λz=>e<|congrArg _ z];exact beq_eq_false_iff_ne.mpr e
  rw[<-fin] at h;exact AB h
theorem aIE{a b:BZ}(hu:A.units+1<AR)(p:IsT2 knd s.heap x a)(q:IsT2 knd s.heap y b)(h:Q (decide<|x=y) s):AH (AD prog w) A (PySem.eqBool (.ref a)<|.ref b) Q E s:=by
 unfold PySem.eqBool
 try with_reducible refine AV ?_
 refine BE (λz=>?_) λ_=>AA (wpAny_richCompare_same_room p.ty q.ty F.slot_tuple_eq (AQ F.slot_tuple_eq p.ty F.entry_tuple_eq (aLv (hu) p q ⟨_,rfl,(λe=>nomatch e),Ac h⟩)<|F.args_tuple_eq_2 _ _)<|aMS hu)
 cases eq_of_beq z;cases p.one q;rw[decide_eq_true rfl] at h;exact AA (Av<|AB h)
theorem aDv(m:Nat){a:BZ}(p:(AT knd).is s.heap k a)(h:Q true s):AH (AD prog w) A (eqIsQuiet (m+1)<|.ref a) Q E s:=by
 have ty:=IsTupleKey.typeIs p;obtain⟨o,vs,c,g,_,e,r⟩:=p;have bv:=r.byValue;unfold eqIsQuiet;refine AA<|BD ty F.slot_tuple_eq.lookup (AA<|Ax ty isSubtype_tuple_tuple ?_);refine AA (AW g e<|AA ?_);rw[<-kC];refine Ap _ (λrest acc st=>acc.1=none/\st=s/\∀v∈rest,BI v=true) _ (λv rest acc st i=>?_) (λacc st i=>?_) _ _ ⟨rfl,rfl,bv⟩
 ·obtain⟨_,rfl,i⟩:=i;rw[eqIsQuiet_byValue _<|i v aG];refine AA<|AB ?_;exact AB ⟨rfl,rfl,λu hu=>i u<|aF _ hu⟩
 ·obtain⟨n0,rfl,_⟩:=i;obtain⟨a1,a2⟩:=acc;cases n0;exact AB h
theorem aDx{ks:List (List κ)}{a:BZ}(p:IsT2 knd s.heap ks a)(h:Q true s):AH (AD prog w) A (eqIsQuiet 8<|.ref a) Q E s:=by
 have ty:=p.ty;obtain⟨o,vs,c,g,_,e,r⟩:=p;unfold eqIsQuiet;refine AA<|BD ty F.slot_tuple_eq.lookup (AA<|Ax ty isSubtype_tuple_tuple ?_);refine AA (AW g e<|AA ?_);rw[<-kC];refine Ap _ (λrest acc st=>acc.1=none/\st=s/\∃todo,Row2 knd s.heap todo rest) _ (λv rest acc st i=>?_) (λacc st i=>?_) _ _ ⟨rfl,rfl,ks,r⟩
 ·obtain⟨_,rfl,todo,i⟩:=i;obtain⟨k,ks',b,rfl,rfl,t,r2⟩:=i.step;refine AA<|aDv 6 t ?_;exact AB ⟨rfl,rfl,ks',r2⟩
 ·obtain⟨n0,rfl,_⟩:=i;obtain⟨a1,a2⟩:=acc;cases n0;exact AB h
end
def aRx[DecidableEq κ](knd:KeyKind prog w κ):HeapKind prog w (List<|List κ) where
 is:=IsT2 knd
 hash:=aKL knd
 draws:=λks=>oJ ks+1
 room:=λA=>A.units+1<AR
 inj:=λp q=>p.one q
 keeps:=λp g e sb=>p.stay g e sb
 pyHash:=λhu p q=>aGh hu p q
 eqBool:=λhu p q h=>aIE hu p q h
 quiet:=λp h=>aDx p h
structure HK(P:AF)(w:AL)(κ:Type)[DecidableEq κ] where
 kind:HeapKind P w κ
 rel:Hp->κ->BZ->Prop
 mono:∀ {F F':Hp}{k:κ}{a:BZ},Same F F'->rel F k a->rel F' k a
 ok:∀ {H:Hp}{h:CB}{k:κ}{a:BZ},HOk P w H h->rel H k a->kind.is h k a
 room:∀ {A:CA},A.units+2<AR->kind.room A.in1
 dat:κ->D
 key:∀ {K:aB}{F:Hp}{k:κ}{v:V},Rep K F (dat k) v->∃a,v=.ref a/\rel F k a
 back:∀ {K:aB}{F:Hp}{k:κ}{a:BZ},rel F k a->Rep K F (dat k) (.ref a)
theorem sR:∀k:List Key,RepL K F (k.map kD) (k.map kV)
 |[]=>.nil
 |a::k=>by refine .cons ?_ (sR k);cases a<;>simp only[kD,kV,Rep]
def tD(k:List Key):D:=.tup<|k.map kD
def hkT(P:AF)(w:AL):HK P w (List Key) where
 kind:=AT<|dQ P w
 rel:=λF k a=>F a=some (.tup<|k.map kV)
 mono:=λs h=>s _ _ h
 ok:=λok h=>nA ok h
 room:=λhu=>Ay<|by omega
 dat:=tD
 key:=λr=>by simp only[tD,Rep] at r;obtain⟨a,ys,rfl,ha,rl⟩:=r;rw[nI rl] at ha;exact⟨a,rfl,ha⟩
 back:=λ{K F k a} h=>by simp only[tD,Rep];exact⟨a,_,rfl,h,sR k⟩
inductive R2k(F:Hp):List (List Key)->List V->Prop
 |nil:R2k F [] []
 |cons {k:List Key}{b:BZ}{ks:List (List Key)}{vs:List V}:F b=some (.tup<|k.map kV)->R2k F ks vs->R2k F (k::ks) (.ref b::vs)
def R2k.mono(s:Same F F'){ks:List (List Key)}(r:R2k F ks vs):R2k F' ks vs:=by
 induction r with
 |nil=>exact .nil
 |cons h _ ih=>exact .cons (s _ _ h) ih
def Row2.cons[DecidableEq κ]{knd:KeyKind P w κ}{b:BZ}{ks:List (List κ)}(t:(AT knd).is h k b)(r:Row2 knd h ks vs):Row2 knd h (k::ks) (.ref b::vs):=
 ⟨congrArg (·+1) r.1,fun n k' e=>by
  cases n with
  |zero=>cases e;exact⟨b,rfl,t⟩
  |succ n=>exact r.2 n k' e⟩
def R2k.ok(ok:HOk P w H h){ks:List (List Key)}(r:R2k H ks vs):∀ {us:List BX},Vals vs us->Row2 (dQ P w) h ks us:=by
 induction r with
 |nil=>intro us q;cases q;exact⟨rfl,λn k e=>by simp at e⟩
 |cons hb _ ih=>
  intro us q;cases q with
  |cons r1 rv=>cases(r1);exact Row2.cons (nA ok hb)<|ih rv
def R2k.of:∀ {ks:List (List Key)}{vs:List V},RepL K F (ks.map tD) vs->R2k F ks vs
 |[],vs,r=>by subst r;exact .nil
 |k::ks,vs,r=>by obtain⟨y,ys,rfl,q,rl⟩:=r.uncons;obtain⟨a,zs,rfl,ha,rl2⟩:=q;rw[nI rl2] at ha;exact .cons ha<|R2k.of rl
def R2k.rep{ks:List (List Key)}(r:R2k F ks vs):RepL K F (ks.map tD) vs:=by
 induction r with
 |nil=>exact .nil
 |@cons k b ks vs h _ ih=>refine .cons ?_ ih;exact⟨b,_,rfl,h,sR k⟩
def hkN(P:AF)(w:AL):HK P w (List<|List Key) where
 kind:=aRx<|dQ P w
 rel:=λF ks a=>∃vs,F a=some (.tup vs)/\R2k F ks vs
 mono:=λs ⟨vs,h,r⟩=>⟨vs,s _ _ h,r.mono s⟩
 ok:=λ{H h k a} ok ⟨vs,e,r⟩=>by obtain⟨_,its,rv,o,h1,h2,⟨n,h3⟩,_⟩:=(show ObjOk P w H h a (.tup vs) from ok a _ e);exact⟨o,its.toArray,n,h1,h2,h3,by simpa using r.ok ok rv⟩
 room:=λ{A} hu=>by show A.in1.units+1<AR;exact hu
 dat:=λks=>.tup<|ks.map tD
 key:=λr=>by simp only[Rep] at r;obtain⟨a,ys,rfl,ha,rl⟩:=r;exact⟨a,rfl,ys,ha,R2k.of rl⟩
 back:=λ{K F k a} ⟨vs,h,r⟩=>by simp only[Rep];exact⟨a,vs,rfl,h,r.rep⟩
section
variable {P:AF}{w:AL}{κ:Type}[DecidableEq κ](hk:HK P w κ)
abbrev KG(F:Hp):List (κ×V)->List (κ×BZ×BX)->Prop:=Paired λp q=>p.1=q.1/\hk.rel F p.1 q.2.1/\RelV p.2 q.2.2
def TG(K:aB)(F:Hp)(l:BZ)(o:CC)(ks:List κ)(ds:List D):Prop:=
 ks.length=ds.length/\ks.length<=AM/\(l==AX)=false/\ks.Nodup/\∃ (vs:List V) (xs:List (κ×BZ×BX)) (es:Array DictEntry) (ep:Nat),RepL K F ds vs/\KG hk F (ks.zip vs) xs/\o.ExactDict/\o.data=.dict es ep/\es.toList=xs.map (entryOfKey hk.kind)/\(xs.map (·.1)).Nodup
variable {hk}{K:aB}{F F' H:Hp}{l:BZ}{o:CC}{ks:List κ}{ds:List D}
def KG.mono(s:Same F F')(r:KG hk F kvs xs):KG hk F' kvs xs:=Paired.mapP r λ_ _ z=>⟨z.1,hk.mono s z.2.1,z.2.2⟩
def TG.mono(s:Same F F')(t:TG hk K F l o ks ds):TG hk K F' l o ks ds:=by obtain⟨h1,h2,h3,h4,vs,xs,es,ep,r,g,q⟩:=t;exact⟨h1,h2,h3,h4,vs,xs,es,ep,r.mono s,g.mono s,q⟩
def KG.all(ok:HOk P w H h){l:List (κ×V)}(q:KG hk H l m):∀x∈m,hk.kind.is h x.1 x.2.1:=by
 induction q with
 |nil=>intro x hx;exact nomatch hx
 |@cons p q ps qs hq t ih=>
  intro x hx
  rcases aP.mp hx with e|hx
  ·subst e;exact hk.ok ok (by rw[<-hq.1];exact hq.2.1)
  ·exact ih x hx
def KG.val(r:KG hk F kvs xs)(k:κ):RelO (fY kvs k) ((atKey xs k).map (·.2)):=by
 induction r with
 |nil=>exact True.intro
 |@cons p q ps qs h t ih=>
  obtain⟨h1,_,h2⟩:=h
  by_cases e:p.1=k
  ·have e':=h1.symm.trans e;have b:atKey (q::qs) k=some q.2:=by simp[atKey,gX,e']
   rw[gW e,b];exact h2
  ·have e':¬ q.1=k:=λz=>e (h1.trans z)
   have b:atKey (q::qs) k=atKey qs k:=by simp[atKey,gX,e']
   rw[fZ e,b];exact ih
def KG.new(r:KG hk F kvs xs)(hn:fY kvs k=none){b:BZ}(hb:hk.rel F k b)(ry:RelV y u):KG hk F (kvs++[(k,y)]) (storedH xs k b u):=by
 have e:atKey xs k=none:=by
  have:=r.val k;rw[hn] at this;cases h:atKey xs k with
  |none=>rfl
  |some z=>rw[h] at this;cases this
 rw[storedH_new e];exact Paired.snoc r ⟨rfl,hb,ry⟩
theorem nN:∀ {ks:List κ}{xs:List V},k∉ks->fY (ks.zip xs) k=none
 |[],_,_=>rfl
 |_::_,[],_=>rfl
 |j::js,x::xs,h=>by rw[eV,fZ (p:=(j,x)) (λe=>h<|(show j=k from e)▸aG)];exact nN λz=>h<|aF _ z
theorem wN:∀ {ks:List κ}{xs:List V}{n:Nat}{k:κ}{x:V},ks.Nodup->ks[n]? =some k->xs[n]? =some x->fY (ks.zip xs) k=some x
 |[],_,n,_,_,_,h,_=>by simp at h
 |_::_,[],n,_,_,_,_,h=>by simp at h
 |j::js,y::ys,0,k,x,nd,h1,h2=>by
  have e1:=by simpa using h1
  have e2:=by simpa using h2
  rw[eV,gW e1,e2]
 |j::js,y::ys,n+1,k,x,nd,h1,h2=>by obtain⟨nj,nd⟩:=bE.mp nd;rw[eV,fZ (p:=(j,y)) (λe=>nj<|(show j=k from e)▸aQ h1)];exact wN nd h1 h2
theorem uQ(nd:ks.Nodup)(hl:ks.length=xs.length)(h:k∈ks):(fY (ks.zip xs) k).isSome=true:=by obtain⟨n,hn,rfl⟩:=cP h;rw[wN (n:=n) (x:=xs[n]'(by lia)) nd (by simp[hn])<|by simp[by omega]];rfl
def TG.dict(ok:HOk P w H h)(s:Same F H)(hl:H l=some (exO l o))(t:TG hk K F l o ks ds):∃ (vs:List V) (xs:List (κ×BZ×BX)),RepL K F ds vs/\KG hk F (ks.zip vs) xs/\h.DictOfH hk.kind l xs/\xs.length<=AM/\(∀k,(atKey xs k).isSome=decide (k∈ks)):=by
 obtain⟨h1,h2,h3,h4,vs,xs,es,ep,r,g,q1,q2,q3,q4⟩:=t;have ho:=(ok l _ hl).1;refine⟨vs,xs,r,g,⟨o,es,ep,ho,q1,q2,q3,KG.all ok<|g.mono s,q4⟩,?_,λk=>?_⟩
 ·rw[<-Paired.length g,kB,r.len,<-h1,kZ];exact h2
 ·have:=(g.val k).isSome_eq;rw[aGX] at this;rw[<-this]
  by_cases e:k∈ks
  ·rw[decide_eq_true e];exact uQ h4 (by rw[r.len,h1]) e
  ·rw[decide_eq_false e,nN e];rfl
end
section
variable {P:AF}{w:AL}{κ:Type}[DecidableEq κ]
def GG(hk:HK P w κ)(K:aB)(l:BZ)(ks:List κ)(ds:List D):V->Hp->Hp->Prop:=λv F H=>v=.ref l/\∃o,H l=some (exO l o)/\TG hk K F l o ks ds
noncomputable def oG(hk:HK P w κ)(K:aB)(l:BZ)(ks:List κ)(ds:List D):Slot:=.ox [l]<|GG hk K l ks ds
noncomputable def gD(hk:HK P w κ)(K:aB)(ks:List κ)(ds:List D):D:=.any λv F=>∃l o,v=.ref l/\F l=some (exO l o)/\TG hk K F l o ks ds
variable {hk:HK P w κ}{K:aB}{H₀ F H:Hp}{σ:St}{sd:List Slot}{i:Nat}{l:BZ}{ks:List κ}{ds:List D}{o:CC}
def TG.cell(t:TG hk K F l o ks ds):∀v,o.data≠ .cell v:=λv z=>by obtain⟨_,_,_,_,_,_,_,_,_,_,_,q,_⟩:=t;rw[q] at z;cases z
def xT(S:StF K H₀ F H σ sd)(hs:sd[i]? =some (oG hk K l ks ds)):σ[i]? =some (some<|.ref l)/\F l=none/\∃o,H l=some (exO l o)/\TG hk K F l o ks ds:=by
 obtain⟨o,h1,v,h2,h3,h4⟩:=S.slots.get hs;obtain⟨e,ob,a,b⟩:=h4 F H (Same.refl _) λ_ _ _ q=>q
 subst e h2;exact⟨h1,(h3 l<|cC l).1,ob,a,b⟩
def aND(hF:F l=none)(h1:H l=some (exO l o))(t:TG hk K F l o ks ds):iB K F H (oG hk K l ks ds) (some<|.ref l):=
 ⟨.ref l,rfl,fun a ha=>by
  rw[aH.mp ha]
  exact⟨hF,_,h1,o,rfl,t.cell⟩,λF' H' s k=>⟨rfl,o,k l (cC l) _ h1,t.mono s⟩⟩
def gD_rep:Rep K F (gD hk K ks ds) v↔∃l o,v=.ref l/\F l=some (exO l o)/\TG hk K F l o ks ds:=by
 constructor
 ·exact λh=>h.2 F<|Same.refl _
 ·rintro⟨l,o,rfl,e,t⟩;exact⟨⟨l,rfl⟩,λF' s=>⟨l,o,rfl,s _ _ e,t.mono s⟩⟩
end
section
variable {X:Cx}{sd:List Slot}{e a b c tg iter:Expr}{es:List Expr}{pos:Pos}{d:D}{ds:List D}{κ:Type}[DecidableEq κ]{hk:HK X.prog X.w κ}{ks:List κ}{k:κ}{E:jJ}{l:BZ}
def rS(hk:HK X.prog X.w κ)(i:Nat)(hN:X.N.Nodup)(hi:X.N[i]? =some x)(hx:Loc X.env.scope x)(hE:∀l,E.nx (sd.set i<|oG hk X.K l [] []))(hs:Af (.Dict [] [] p2) (some<|.Name x p) pos.line X.env=pure false:=by rfl)(hf:X.fn x=true\/X.env.scope.names.lookup x=some .local:=by first|exact .inl rfl|exact .inr rfl|assumption):PSd1 X sd (.Assign [.Name x p] (.Dict [] [] p2) pos) E:=.mk λσ F H S=>
 (qZ hN hi hx aCw hs hf).to λq hq hm=>by
  have fp:=S.sub.free hq
  have no:q∉dL sd:=λhl=>by obtain⟨_,ob,h,_⟩:=S.slots.owns hl;rw[hq] at h;cases h
  have S1:StF X.K X.B₀ F (upd H q<|exO q aKR) σ sd:=by
   refine⟨S.base,λb u e=>?_,nM S.smp q,S.slots.mono (Same.refl _) λl hl=>?_,S.nd⟩
   ·rw[bH<|cD e fp];exact S.sub _ _ e
   ·obtain⟨n,ys,y,_⟩:=S.slots.owns hl;have hne:=cD y hq;exact⟨n,λys e=>by rw[bH hne];exact e⟩
  refine⟨_,F,S1.setT i (aND (hk:=hk) fp bX ⟨rfl,bM _,hm,dS,[],[], #[],0,.nil,.nil,⟨rfl,rfl,rfl⟩,rfl,rfl,dS⟩) (by simp) λa ha=>?_,Same.refl _,hE q⟩;rw[aH.mp ha];exact no
theorem sJ(i:Nat)(hu:X.A.units+2<AR)(hs:sd[i]? =some (oG hk X.K l ks ds))(hx:PE X (.Name x p) (kU i))(h:PEd X sd e (.val d))(hb:PEd X sd b (.val<|hk.dat k))(hnk:k∉ks)(hl:ds.length<=1000)(hE:E.nx (sd.set i (oG hk X.K l (ks++[k])<|ds++[d])))(hsw:Af e (some<|.Subscript (.Name x p) b p2) pos.line X.env=pure false:=by rfl):PSd1 X sd (.Assign [.Subscript (.Name x p) b p2] e pos) E:=.mk λσ F H S pins s I=>by
 refine wpAny_Assign_Subscript (thn (h σ F H S pins s I) λr s1 ⟨v,H1,I1,rv,F1,S1,sF1,q1⟩=>?_) hsw;obtain⟨h1,_⟩:=xT S1 hs;refine thn (hx pins s1 σ H1 (λv H2=>v=.ref l/\H2=H1) I1 ⟨.ref l,h1,rfl,rfl⟩) λu s2 ⟨y,H2,I2,ry,e1,e2⟩=>?_
 subst e1 e2;obtain rfl:u=Value.ref l:=ry;refine thn (hb σ F1 H2 S1 pins s2 I2) λiv s3 ⟨y,H3,I3,ry,F3,S3,sF3,q3⟩=>?_
 obtain⟨g1,g2,o,g3,t⟩:=xT S3 hs;obtain⟨ad,rfl,ha⟩:=hk.key q3;obtain rfl:iv=Value.ref ad:=ry;obtain⟨vs,xs,r1,kg,dd,hz,hin⟩:=t.dict I3.hok S3.sub g3;obtain⟨t1,t2,t3,t4,_⟩:=t;refine wpAny_setItem_heap (hsz:=hz) (hk.room hu) (hk.ok I3.hok<|hk.mono S3.sub ha) dd λh' dd' hsm=>?_
 obtain⟨q,es',ep',hq,u2,u3,u4,_,u5⟩:=dd';have I4:=oQ (t':=s3.toks+hk.kind.draws k) I3 (by rw[g3];exact True.intro) hsm ⟨q,hq⟩<|uO hq;have lz:ks.length=vs.length:=by rw[t1,r1.len]
 have kg':=kg.new (nN hnk) ha rv;rw[<-uA lz] at kg'
 have t':TG hk X.K F3 l q (ks++[k]) (ds++[d]):=⟨by rw [aV,aV,t1]; rfl,by
  rw[aV,t1];have:=gG hl;show ds.length+1<=AM
  omega,t3,bD.mpr ⟨t4,by simp,λa ha b hb e=>hnk (by rw[<-aH.mp hb,<-e];exact ha)⟩,vs++[v],_,es',ep',r1.app (.one (Rep.mono sF3 q1)),kg',u2,u3,u4,u5⟩
 refine⟨σ,_,I4,_,F3,S3.reT hs g1 (λb ob hb q=>?_) (nM S3.smp l) (aND g2 bX t') (show[l].Nodup by simp) λa ha=>.inl ha,sF1.trans sF3,hE⟩;rw[bH (show b≠l from λz=>hb<|z▸cC l)];exact q
def wV(i:Nat)(hs:sd[i]? =some (oG hk X.K l ks ds))(h:PSd X (sd.set i (.val<|gD hk X.K ks ds)) sts E):PSd X sd sts E:=.mk λσ F H S=>by
 obtain⟨h1,h2,o,h3,t⟩:=xT S hs;have S0:=S.le<|gS sd i;have no:=λhb=>iF S.nd hs (cC l) hb
 obtain⟨S1,s1⟩:=S0.inN (λa ha=>by rw[aH.mp ha];exact h2) λa ha=>by rw[aH.mp ha];exact no
 have f1:(inF F H [l]) l=some (exO l o):=by rw[aEc aG];exact h3
 have S2:=S1.set i<|gD_rep.mpr ⟨l,o,rfl,f1,t.mono s1⟩;rw[jD,lH h1] at S2;exact aDV s1<|h σ _ H S2
structure PDc(X:Cx)(sd:List Slot)(e:Expr){κ:Type}[DecidableEq κ](hk:HK X.prog X.w κ)(ks:List κ)(ds:List D):Prop where
 get:∀ (σ:St) (F H:Hp),StF X.K X.B₀ F H σ sd->wE X e σ H λv H1=>∃F1 l,StF X.K X.B₀ F1 H1 σ sd/\Same F F1/\v=.ref l/\∀F2 H2,StF X.K X.B₀ F2 H2 σ sd->Same F1 F2->∃o,H2 l=some (exO l o)/\TG hk X.K F2 l o ks ds
theorem aBg(i:Nat)(hs:sd[i]? =some (oG hk X.K l ks ds))(hx:PE X (.Name x p) (kU i)):PDc X sd (.Name x p) hk ks ds:=⟨fun σ F H S=>hx.to (by
 obtain⟨h1,_⟩:=xT S hs
 exact⟨.ref l,h1,F,l,S,Same.refl _,rfl,λF2 H2 S2 _=>(xT S2 hs).2.2⟩)⟩
theorem pZ(h:PEd X sd e (.val (gD hk X.K ks ds))):PDc X sd e hk ks ds:=⟨fun σ F H S=>(h σ F H S).imp fun v H1 ⟨F1,S1,s1,q1⟩=>by
 obtain⟨l,o,rfl,e,t⟩:=gD_rep.mp q1
 exact⟨F1,l,S1,s1,rfl,λF2 H2 S2 s2=>⟨o,S2.sub _ _ (s2 _ _ e),t.mono s2⟩⟩⟩
def rIn(hk:HK X.prog X.w κ)(f:Bool->Bool):R2:=λx y H Q=>∃ (F:Hp) (ad l:BZ) (o:CC) (k:κ) (ks:List κ) (ds:List D),x=.ref ad/\y=.ref l/\Same F H/\hk.rel F k ad/\H l=some (exO l o)/\TG hk X.K F l o ks ds/\X.A.units+2<AR/\Q (.bl<|f (decide<|k∈ks)) H
def aJY:OpR X (AU .In) (rIn hk id):=by intro pins s σ H x y v u Q I rx ry h;obtain⟨F,ad,l,o,k,ks,ds,rfl,rfl,sF,ha,hl,t,hu,q⟩:=h;obtain rfl:v=Value.ref ad:=rx;obtain rfl:u=Value.ref l:=ry;obtain⟨vs,xs,_,_,dd,_,hin⟩:=t.dict I.hok sF hl;refine wpAny_in_heap (hk.room hu) (hk.ok I.hok<|hk.mono sF ha) t.2.2.1 dd ⟨.bl (decide<|k∈ks),H,I.tok _,?_,q⟩;show Value.bool _=Value.bool _;rw[hin]
def aMJ:OpR X (AU .NotIn) (rIn hk (!·)):=by intro pins s σ H x y v u Q I rx ry h;obtain⟨F,ad,l,o,k,ks,ds,rfl,rfl,sF,ha,hl,t,hu,q⟩:=h;obtain rfl:v=Value.ref ad:=rx;obtain rfl:u=Value.ref l:=ry;obtain⟨vs,xs,_,_,dd,_,hin⟩:=t.dict I.hok sF hl;refine wpAny_notIn_heap (hk.room hu) (hk.ok I.hok<|hk.mono sF ha) t.2.2.1 dd ⟨.bl<|!decide (k∈ks),H,I.tok _,?_,q⟩;show Value.bool _=Value.bool _;rw[hin]
theorem aLE(hu:X.A.units+2<AR)(ha:PEd X sd a (.val<|hk.dat k))(hb:PDc X sd b hk ks ds)(hm:AY .In b=false:=by with_unfolding_all rfl):PTd X sd (.Compare a [.In] [b] pos) (decide<|k∈ks):=.mk λσ F H S=>
 (wM (aJY) fH fH hm).to ((ha σ F H S).imp fun v H1 ⟨F1,S1,s1,q1⟩=>(hb.get σ F1 H1 S1).imp fun u H2 ⟨F2,l,S2,s2,eu,g⟩=>by
  obtain⟨ad,rfl,hr⟩:=hk.key q1;obtain⟨o,g1,g2⟩:=g F2 H2 S2<|Same.refl _
  exact⟨F2,ad,l,o,k,ks,ds,rfl,eu,S2.sub,hk.mono s2 hr,g1,g2,hu,_,rfl,rfl,F2,S2,s1.trans s2⟩)
theorem aIy(hu:X.A.units+2<AR)(ha:PEd X sd a (.val<|hk.dat k))(hb:PDc X sd b hk ks ds)(hm:AY .NotIn b=false:=by with_unfolding_all rfl):PTd X sd (.Compare a [.NotIn] [b] pos) (!decide (k∈ks)):=.mk λσ F H S=>
 (wM (aMJ) fH fH hm).to ((ha σ F H S).imp fun v H1 ⟨F1,S1,s1,q1⟩=>(hb.get σ F1 H1 S1).imp fun u H2 ⟨F2,l,S2,s2,eu,g⟩=>by
  obtain⟨ad,rfl,hr⟩:=hk.key q1;obtain⟨o,g1,g2⟩:=g F2 H2 S2<|Same.refl _
  exact⟨F2,ad,l,o,k,ks,ds,rfl,eu,S2.sub,hk.mono s2 hr,g1,g2,hu,_,rfl,rfl,F2,S2,s1.trans s2⟩)
theorem wB{n:Nat}(hu:X.A.units+2<AR)(ha:PDc X sd a hk ks ds)(hb:PEd X sd b (.val<|hk.dat k))(hkn:ks[n]? =some k)(hd:ds[n]? =some d)(hsl:aSr b):PEd X sd (.Subscript a b pos) (.val d):=.mk λσ F H S pins s I=>by
 refine aMq PySem.F.slot_dict_getitem.lookup hsl<|thn (ha.get σ F H S pins s I) λu s1 ⟨y,H1,I1,ry,F1,l,S1,s1',ey,g⟩=>?_;subst ey;obtain rfl:u=Value.ref l:=ry;refine thn (hb σ F1 H1 S1 pins s1 I1) λiv s2 ⟨y,H2,I2,ry,F2,S2,sF,q2⟩=>?_
 obtain⟨o,g1,t⟩:=g F2 H2 S2 sF;obtain⟨ad,rfl,hr⟩:=hk.key q2;obtain rfl:iv=Value.ref ad:=ry;obtain⟨vs,xs,rl,kg,dd,_,_⟩:=t.dict I2.hok S2.sub g1;obtain⟨v,hv,rv⟩:=rl.get hd;obtain⟨w',hw,rw'⟩:=RelO.some_of (by rw[<-wN t.2.2.2.1 hkn hv];exact kg.val k);obtain⟨pr,hp,hp2⟩:=eX.mp hw;refine⟨dd.typeIs,wpAny_getItem_heap (hk.room hu) (hk.ok I2.hok<|hk.mono S2.sub hr) dd hp ?_⟩;rw[hp2];exact⟨v,H2,I2.tok _,rw',F2,S2,s1'.trans sF,rv⟩
end
variable {prog:AF}{w:AL}{A:CA}{E:BX->BY->Prop}{s:BY}{d it:BZ}{od:CC}{es:Array DictEntry}{ep:Nat}
def oP(g:s.heap.get? d=some od)(c:od.ExactDict):s.TypeIs (.ref d) "dict":=⟨od,g,c.1⟩
theorem aBV(sm:(d==AX)=false)(g:s.heap.get? d=some od)(c:od.ExactDict)(e:od.data=.dict es ep)(q:Q (.ref s.heap.objs.size) {s with heap:=s.heap.push {cls:=.type "dict_keyiterator",data:=.fields #[.ref d,.int 0 0,.int es.size 0,.int ep 0]}}):AH (AD prog w) A (pyIter<|.ref d) Q E s:=by
 have ty:=oP g c;refine BQ ty F.slot_dict_iter (AQ F.slot_dict_iter ty F.entry_dict_iter (AA ?_)<|F.args_dict_iter_1 _);refine AA<|BB ty (AB<|AA (m:=Builtin.Dict.showsAll d) ?_);unfold Builtin.Dict.showsAll;rw[sm];exact AB<|AA (Ad g e<|AA (BN g e<|AA (AO<|AB ⟨_,rfl,"dict_keyiterator",_,⟨_,aR _ rfl,rfl⟩,F.slot_dict_keyiterator_next.lookup,q⟩)))
theorem aAo(ki:s.heap.IsKeyIter it d i es.size ep)(g:s.heap.get? d=some od)(e:od.data=.dict es ep)(hi:i<es.size)(q:∀h',h'.IsKeyIter it d (i+1) es.size ep->Heap.SameBut it s.heap h'->Q (some es[i].key) {s with heap:=h'}):AH (AD prog w) A (pyNext<|.ref it) Q E s:=by
 have ty:=ki.typeIs;obtain⟨o,g1,c1,f1⟩:=ki;refine AA (BG<|AS ty F.slot_dict_keyiterator_next (AQ F.slot_dict_keyiterator_next ty F.entry_dict_keyiterator_next (AA<|AB (AA<|AA ?_))<|F.args_dict_keyiterator_next_1 _));refine AA (At ty<|AB (AA<|wpAny_fieldsOf g1 f1 ?_));refine AA<|AB (AA<|Ad g e ?_);rw[if_neg<|by simp];refine AA<|AB (AA<|BN g e ?_);rw[if_neg<|by simp];refine AB ?_;have ix:(if(i:Int)<0 then none else es[(i:Int).toNat]?)=some es[i]:=by rw[if_neg<|by lia,eM,jN hi]
 simp only[ix]
 have up:(s.heap.update it (Obj.mapFields (·.setIfInBounds 1 (BJ<|(i)+1)))).IsKeyIter it d (i+1) es.size ep:=
  ⟨_,eE _ g1 (Obj.isFreed_of_fields<|Obj.data_mapFields f1 _),(Obj.cls_mapFields ..).trans c1,by rw[Obj.data_mapFields f1];simp[BJ]⟩
 refine AA<|AA (At ty<|AB (AA<|wpAny_isOneOf_keyiter ty (AA<|Az g1 f1 (show(0)+1<4 by decide) (AA<|AV ?_))));refine AA<|wpAny_isOneOf_keyiter up.typeIs ?_;exact AB<|AB ⟨_,rfl,AB (q _ up<|Heap.SameBut.update ..)⟩
def aCu(hh:A.handled=none)(sb:Heap.ExtBut it s.heap hp)(q:∀h',Heap.ExtBut it s.heap h'->Q none {s with heap:=h'}):AH (AD prog w) A.in1 (newExc (.type "StopIteration") []>>=fun x=>(raiseNew x:Sem Fin)) (fun fin s'=>∃v,fin=Fin.done (Flow.ret v)∧AH (AD prog w) A (pure (some v)) Q E s') (fun e s'=>AH (AD prog w) A (do
   let b <-isInstance e (Value.type "StopIteration")
   if b=true then pure none else throw e) Q E s') {s with heap:=hp}:=by
 refine AA ?_;refine AA (AO (AA<|wpAny_of_eq (by first|rfl|(rfl)) (AO ?_<|by size_fits))<|by size_fits);refine AA<|wpAny_handled ?_;rw[hh];refine AA (AB<|wpAny_throw ?_);refine AA<|Ax ⟨_,aR _ rfl,rfl⟩ isSubtype_stop ?_;exact AB (q _<|(sb.push _).push _)
theorem aCA(hh:A.handled=none)(ki:s.heap.IsKeyIter it d i es.size ep)(g:s.heap.get? d=some od)(e:od.data=.dict es ep)(hi:es.size<=i)(q:∀h',Heap.ExtBut it s.heap h'->Q none {s with heap:=h'}):AH (AD prog w) A (pyNext<|.ref it) Q E s:=by
 have ty:=ki.typeIs;obtain⟨o,g1,c1,f1⟩:=ki;refine AA (BG<|AS ty F.slot_dict_keyiterator_next (AQ F.slot_dict_keyiterator_next ty F.entry_dict_keyiterator_next (AA<|AB (AA<|AA ?_))<|F.args_dict_keyiterator_next_1 _));refine AA (At ty<|AB (AA<|wpAny_fieldsOf g1 f1 ?_));refine AA<|AB (AA<|Ad g e ?_);rw[if_neg<|by simp];refine AA<|AB (AA<|BN g e ?_);rw[if_neg<|by simp];refine AB ?_;have ix:(if(i:Int)<0 then none else es[(i:Int).toNat]?)=none:=by rw[if_neg<|by lia,eM,kM hi]
 simp only[ix];refine AA<|AA (At ty<|AB (AA<|Az g1 f1 (show(0)<4 by decide) ?_));exact aCu hh (Heap.SameBut.update ..).extBut q
def aHD{R:Result->BY->Prop}(sm:(d==AX)=false):MeetsIn prog w (Builtin.«dict.items» ⟨[.ref d],[]⟩) (λ_ R s=>(∃od:CC,s.heap.get? d=some od/\od.ExactDict)/\R (.ok (.ret<|.ref s.heap.objs.size)) {s with heap:=s.heap.push {cls:=.type "dict_items",data:=.fields #[.ref d]}}):=
 .of_wp λA R s ⟨⟨od,g,c⟩,q⟩=>by refine AA ?_;refine AA<|BB (oP g c) (AB<|AA ?_);unfold Builtin.Dict.showsAll;rw[sm];exact AB<|AA (AO<|AB ⟨_,rfl,q⟩)
theorem aFz(hv:s.heap.IsItemsView v d)(g:s.heap.get? d=some od)(e:od.data=.dict es ep)(q:Q (.ref s.heap.objs.size) {s with heap:=s.heap.push {cls:=.type "dict_itemiterator",data:=.fields #[.none,.bool false,.ref d,.int 0 0,.int es.size 0,.int ep 0,.none,.none]}}):AH (AD prog w) A (pyIter<|.ref v) Q E s:=by
 have ty:=hv.typeIs;obtain⟨ov,g1,c1,f1⟩:=hv;refine BQ ty F.slot_dict_items_iter (AQ F.slot_dict_items_iter ty F.entry_dict_items_iter (AA (AB<|AA ?_))<|F.args_dict_items_iter_1 _);refine AA<|Aa g1 f1 rfl (AB<|AA ?_);refine AA<|Ad g e (AA<|BN g e ?_);exact AO (AB ⟨_,rfl,"dict_itemiterator",_,⟨_,aR _ rfl,rfl⟩,F.slot_dict_itemiterator_next.lookup,q⟩) (by show(8)<=_;decide)
theorem aFB(ii:IsItemIter s.heap it d i es.size ep ok ov)(g:s.heap.get? d=some od)(e:od.data=.dict es ep)(hi:i<es.size)(q:∀h',IsItemIterOut h' it d (i+1) es.size ep es[i].key es[i].val s.heap.objs.size->h'.get? s.heap.objs.size=some {cls:=.type "tuple",data:=.seq #[es[i].key,es[i].val]}->h'.objs.size=s.heap.objs.size+1->(∀b o,b≠it->s.heap.get? b=some o->h'.get? b=some o)->Q (some<|.ref s.heap.objs.size) {s with heap:=h'}):AH (AD prog w) A (pyNext<|.ref it) Q E s:=by
 obtain⟨hp,gn,dr,tk,os⟩:=s;have ty:Shared.TypeIs ⟨hp,gn,dr,tk,os⟩ (.ref it) "dict_itemiterator":=⟨_,ii,rfl⟩;have il:=aM ii;have ni:=eJ il;refine AA (BG<|AS ty F.slot_dict_itemiterator_next (AQ F.slot_dict_itemiterator_next ty F.entry_dict_itemiterator_next (AA<|AB (AA<|AA ?_))<|F.args_dict_itemiterator_next_1 _));refine AA (Aq ty<|AB (AA<|wpAny_fieldsOf ii rfl ?_));rw[if_pos<|by decide];show AH _ _ (ite ((Value.ref d==Value.none)=true) _ _) _ _ _;rw[if_neg λz=>by cases z];refine AA<|AB (AA<|Ad g e ?_);rw[if_neg<|by simp];refine AA<|AB (AA<|BN g e ?_);rw[if_neg<|by simp];refine AB ?_;have ix:(if(i:Int)<0 then none else es[(i:Int).toNat]?)=some es[i]:=by rw[if_neg<|by lia,eM,jN hi]
 simp only[ix];refine AA<|AA (Aq ty<|AB (AA<|wpAny_isOneOf_itemiter ty ?_));refine AA (m:=setField (.ref it) 3 (BJ<|(i)+1))<|AZ ii (by simp) λh1 e1 b1=>?_;have b1:=b1
 have e1:IsItemIter h1 it d (i+1) es.size ep ok ov:=by show h1.get? it=_;rw[show((i+1:Nat))=(i)+1 from rfl];exact e1
 have ty1:Shared.TypeIs ⟨h1,gn,dr,tk,os⟩ (.ref it) "dict_itemiterator":=⟨_,e1,rfl⟩;refine AA<|AV (AA<|wpAny_isOneOf_itemiter ty1 (AA<|wpAny_isOneOf_itemiter ty1 ?_));show AH _ _ (Builtin.Dict_items.pairFromOwner (.ref it) 6 es[i].key es[i].val) _ _ _;unfold Builtin.Dict_items.pairFromOwner;refine AA<|wpAny_newTuple ?_;obtain⟨h2,z2⟩:∃h2,h2=h1.push {cls:=.type "tuple",data:=.seq #[es[i].key,es[i].val]}:=⟨_,rfl⟩;have s1:=b1.1;have e2:IsItemIter h2 it d (i+1) es.size ep ok ov:=by rw[z2];exact aD _ e1
 have t2:h2.get? hp.objs.size=some {cls:=.type "tuple",data:=.seq #[es[i].key,es[i].val]}:=by rw[z2,<-s1];exact aR _ rfl
 have s2:h2.objs.size=hp.objs.size+1:=by rw[z2,gQ,s1]
 have k2:∀b o,b≠it->hp.get? b=some o->h2.get? b=some o:=λb o ne q=>by rw[z2];exact aD _<|b1.extBut b o ne q
 show AH _ _ (Builtin.Dict_items.ownedTupleIsFree (.ref it)>>=_) _ _ ⟨h1.push {cls:=.type "tuple",data:=.seq #[es[i].key,es[i].val]},gn,dr,tk,os⟩;rw[<-z2,s1];unfold Builtin.Dict_items.ownedTupleIsFree;refine AA<|AA (Aa e2 rfl rfl<|AB ?_);rw[if_pos rfl];refine AA<|Aa e2 rfl rfl (AA<|Aa e2 rfl rfl (AA<|AZ e2 (by simp) λh3 e3 b3=>?_));refine AA (AZ e3 (by simp) λh4 e4 b4=>AA (AZ e4 (by simp) λh5 e5 b5=>AA<|AZ e5 (by simp) λh6 e6 b6=>?_));have bb:=λb o ne q=>Heap.SameBut.extBut b6 b o ne<|Heap.SameBut.extBut b5 b o ne (Heap.SameBut.extBut b4 b o ne<|Heap.SameBut.extBut b3 b o ne q)
 have sz:=(b6.1).trans ((b5.1).trans<|(b4.1).trans b3.1);exact AA<|BF (AB<|AB ⟨_,rfl,AB (q h6 e6 (bb _ _ ni t2) (sz.trans s2) λb o ne q=>bb b o ne<|k2 b o ne q)⟩)
theorem aIJ(hh:A.handled=none)(ii:IsItemIter s.heap it d i es.size ep ok ov)(g:s.heap.get? d=some od)(e:od.data=.dict es ep)(hi:es.size<=i)(q:∀h',Heap.ExtBut it s.heap h'->Q none {s with heap:=h'}):AH (AD prog w) A (pyNext<|.ref it) Q E s:=by
 have ty:s.TypeIs (.ref it) "dict_itemiterator":=⟨_,ii,rfl⟩;refine AA (BG<|AS ty F.slot_dict_itemiterator_next (AQ F.slot_dict_itemiterator_next ty F.entry_dict_itemiterator_next (AA<|AB (AA<|AA ?_))<|F.args_dict_itemiterator_next_1 _));refine AA (Aq ty<|AB (AA<|wpAny_fieldsOf ii rfl ?_));show AH _ _ (ite ((Value.ref d==Value.none)=true) _ _) _ _ _;refine AA<|AB (AA<|Ad g e ?_);rw[if_neg<|by simp];refine AA<|AB (AA<|BN g e ?_);rw[if_neg<|by simp];refine AB ?_;have ix:(if(i:Int)<0 then none else es[(i:Int).toNat]?)=none:=by rw[if_neg<|by lia,eM,kM hi]
 simp only[ix];refine AA<|AA (Aq ty<|AB (AA<|Az ii rfl (show(2)<8 by decide) ?_));exact aCu hh (Heap.SameBut.update ..).extBut q
section
variable {P:AF}{w:AL}{κ:Type}[DecidableEq κ]{hk:HK P w κ}{K:aB}{F:Hp}{l:BZ}{o:CC}{ks:List κ}{ds:List D}
def Paired.at{R:α->β->Prop}(p:Paired R as bs):∀ {n:Nat}{a:α},as[n]? =some a->∃b,bs[n]? =some b/\R a b:=by
 induction p with
 |nil=>intro n a h;simp at h
 |@cons x y xs ys r t ih=>
  intro n a h;cases n with
  |zero=>
   have:=by simpa using h
   subst this;exact⟨y,rfl,r⟩
  |succ n=>obtain⟨b,h1,h2⟩:=ih (by simpa using h);exact⟨b,by simpa using h1,h2⟩
def TG.ents(t:TG hk K F l o ks ds):∃ (es:Array DictEntry) (ep:Nat) (vs:List V),o.ExactDict/\o.data=.dict es ep/\es.size=ks.length/\RepL K F ds vs/\∀ (n:Nat) (k:κ),ks[n]? =some k->∃b v u,vs[n]? =some v/\es[n]? =some u/\u.key=.ref b/\RelV v u.val/\hk.rel F k b:=by
 obtain⟨h1,h2,h3,h4,vs,xs,es,ep,r,g,q1,q2,q3,q4⟩:=t;have zl:(ks.zip vs).length=ks.length:=by rw[kB,r.len,<-h1,kZ]
 refine⟨es,ep,vs,q1,q2,?_,r,λn k hn=>?_⟩
 ·have:=congrArg qO q3;rw[aA,<-Paired.length g,zl] at this;exact this
 ·have nl:=(aE.mp hn).1;have nv:n<vs.length:=by rw[r.len,<-h1];exact nl
  have hz:(ks.zip vs)[n]? =some (k,vs[n]):=jO.mpr ⟨hn,by simp[nv]⟩;obtain⟨b,hb,e1,e2,e3⟩:=Paired.at g hz;refine⟨b.2.1,vs[n],entryOfKey hk.kind b,by simp[nv],?_,rfl,e3,e2⟩;rw[<-cU,q3,aY,hb];rfl
end
def ItG(a:BZ)(o:CC)(es:Array DictEntry):It where
 go:=λi H=>H a=some (exO a o)/\i<es.size
 yld:=λi H x H'=>H'=H/\∃u b,es[i]? =some u/\u.key=.ref b/\x=.ref b
 stop:=λi H=>H a=some (exO a o)/\es.size<=i
def aDb{a:BZ}(hd:o.data=.dict es ep)(hr:∀ (i:Nat) (h:i<es.size),∃b,es[i].key=.ref b)(it:BZ):zT P w K tg (ItG a o es) [it] it (λi h=>h.IsKeyIter it a i es.size ep) where
 mem:=by simp
 obj:=λi h st b hb=>by
  have e:=by simpa using hb
  subst e;obtain⟨o,e,c,d⟩:=st;exact⟨o,e,λv z=>by rw[d] at z;cases z⟩
 keep:=λi h h' st k=>by obtain⟨o,e,c,d⟩:=st;exact⟨o,k it (by simp) o e,c,d⟩
 item:=by
  intro X hP hw hK hc i pins s σ H E I hf st hg;subst hP hw hK;obtain⟨hq,hx⟩:=hg;obtain⟨b,hb⟩:=hr i hx;have g:=(I.hok a _ hq).1;obtain⟨f0,f1,f2,f3,f4,f5⟩:=hf it (by simp);refine aAo st g hd hx λh' st' sb=>?_
  have I1:Inv X pins σ H {s with heap:=h'}:=I.turned (λb o hb e=>(sb.2 b hb).trans e) f0 f1 f3 f4 f5;obtain⟨o',e,c,d⟩:=id st';exact⟨_,rfl,aHk e c d (by decide) ⟨.ref b,H,I1,hb,⟨rfl,es[i],b,by simp[hx],hb,rfl⟩,st',λb hb=>(hf b hb).1⟩⟩
 done:=by intro X hP hw hK hc i pins s σ H E I hf st hg;subst hP hw hK;obtain⟨hq,hx⟩:=hg;have g:=(I.hok a _ hq).1;obtain⟨f0,f1,f2,f3,f4,f5⟩:=hf it (by simp);exact aCA (I.ok.hd hc) st g hd hx λh' eb=>⟨rfl,I.turned (λb o hb e=>eb b o hb e) f0 f1 f3 f4 f5⟩
 self:=λ_ _ _ _ _ st h=>wpAny_pyIter_keyiter st h
section
variable {X:Cx}{sd:List Slot}{e tg iter:Expr}{pos:Pos}{d:D}{ds:List D}{κ:Type}[DecidableEq κ]{hk:HK X.prog X.w κ}{ks:List κ}
theorem aGz(h:PEd X sd iter (.val<|gD hk X.K ks ds)):PId X sd PT0 tg iter (ks.map hk.dat):=.mk λσ F H S pins s I=>by
 refine thn (h σ F H S pins s I) λv s1 ⟨x,H1,I1,r1,F1,S1,s1',q1⟩=>?_
 obtain⟨a,o,rfl,ha,t⟩:=gD_rep.mp q1;cases r1;obtain⟨es,ep,vs,c,e,ez,r,hn⟩:=t.ents;have g:=(I1.hok a _<|S1.sub _ _ ha).1
 have hr:∀ (i:Nat) (h:i<es.size),∃b,es[i].key=.ref b:=λi hi=>by
  have il:i<ks.length:=by rw[<-ez];exact hi
  obtain⟨b,v,u,_,e2,e3,_⟩:=hn i ks[i] (by simp[il]);rw[jN hi] at e2;cases e2;exact⟨b,e3⟩
 refine aBV t.2.2.1 g c e ?_;refine⟨s1.heap.objs.size,[s1.heap.objs.size],_,ItG a o es,H1,rfl,I1.kept λb o e=>aD _ e,aDb e hr _,⟨_,aR _ rfl,rfl,rfl⟩,λb hb=>?_,F1,S1,s1',λF' H' sF sH sm _ i=>?_⟩
 ·have e:=by simpa using hb
  subst e;exact I1.fpOk (aK _) (I1.hok.fresh<|aK _)
 ·have ha':=sH _ _<|sF _ _ ha;refine⟨λhi=>⟨ha',by rw[ez];rw[aA] at hi;exact hi⟩,λhi=>⟨ha',by rw[ez];rw[aA] at hi;exact hi⟩,λx H2 dd hdd y=>?_⟩;obtain⟨rfl,u,b,e1,e2,rfl⟩:=y;rw[aY] at hdd;obtain⟨k,hk1,rfl⟩:=eX.mp hdd;obtain⟨b',v,u',_,e4,e5,_,rl⟩:=hn i k hk1;rw[e1] at e4;cases e4;rw[e2] at e5;cases e5;exact⟨F',Same.refl _,hk.back<|hk.mono sF rl,λ_ _ _ S=>S⟩
end
noncomputable def aKS(d:BZ):CC:={cls:=.type "dict_items",data:=.fields #[.ref d]}
def aPu:V->List V->Hp->VK->Prop:=λx vs H Q=>∃l o,x=.ref l/\vs=[]/\H l=some (exO l o)/\o.ExactDict/\(l==AX)=false/\∀p,H p=none->Q (.ref p) (upd H p (exO p<|aKS l))
section
variable {X:Cx}{o:Expr}{to:TE}{name:Str}{apos cpos:Pos}{id:String}{r:V->List V->Hp->VK->Prop}
theorem aIj:MtR X "dict.items" aPu:=by intro pins s σ H x vs v us Q I rx rv h;obtain⟨l,o,rfl,rfl,hl,c,sm,q⟩:=h;obtain rfl:v=Value.ref l:=rx;cases rv;have g:=(I.hok l _ hl).1;exact BZ aAM (oP g c) PySem.F.entry_dict_items (PySem.F.args_dict_items_1 _) (aHD (R:=λ_ _=>True) sm) ⟨⟨o,g,c⟩,.ref s.heap.objs.size,_,I.laid (λ_ _ q=>aD _ q) (aK _) (uO<|aR _ rfl),rfl,q _ (I.hok.fresh<|aK _)⟩
def aOF(pa:PlainAttrs "dict")(slot:PySem.Slot "dict" name id)(hty:typeOf (.builtin id)=pure (.type "method_descriptor"))(hm:MtR X id r)(ho:PE X o to)(hbase:BV o name X.env (eval o X.env)=eval o X.env:=by rfl) (hline:(apos.endLine==cpos.line)=true:=by rfl):PE X (.Call (.Attribute o name apos) [] [] cpos) (λσ H Q=>to σ H λx H1=>(∃l ob,x=.ref l/\H1 l=some (exO l ob)/\ob.ExactDict)/\r x [] H1 Q):=by
 intro pins s σ H Q I h;refine wpAny_Call_method0_late hbase hline<|thn (ho pins s σ H _ I h) λv s1 ⟨x,H1,I1,r1,⟨l,ob,e1,e2,e3⟩,q1⟩=>?_;subst e1;obtain rfl:v=Value.ref l:=r1;have hg:=(I1.hok l _ e2).1;exact⟨"dict",id,pa,slot,hty,⟨ob,hg,e3.1⟩,λa q=>by cases q;exact⟨ob,hg,e3.2.1⟩,Calls.callWith_builtin rfl (PySem.evalArgs_none<|hm pins s1 σ H1 (.ref l) [] (.ref l) [] Q I1 rfl .nil q1)⟩
end
def aHN:entryFor table "dict_itemiterator.__iter__"=some Builtin.«dict_keyiterator.__iter__»:=entryFor_alias (id':="dict_keyiterator.__iter__") (by kernel_rfl) rfl (by decide+kernel) (by kernel_rfl)
def ItI(a:BZ)(o:CC)(es:Array DictEntry)(vs:List V):It where
 go:=λi H=>H a=some (exO a o)/\i<es.size
 yld:=λi H x H'=>∃q u b v,H q=none/\x=.ref q/\es[i]? =some u/\u.key=.ref b/\vs[i]? =some v/\H'=upd H q (.tup [.ref b,v])
 stop:=λi H=>H a=some (exO a o)/\es.size<=i
def aBz{a:BZ}(hd:o.data=.dict es ep)(hr:∀ (i:Nat) (h:i<es.size),∃b v,es[i].key=.ref b/\vs[i]? =some v/\RelV v es[i].val)(it:BZ):zT P w K (.Tuple elts kk pos) (ItI a o es vs) [it] it (λi h=>∃ok ov,IsItemIter h it a i es.size ep ok ov) where
 mem:=by simp
 obj:=λi h st b hb=>by
  have e:=by simpa using hb
  subst e;obtain⟨ok,ov,e⟩:=st;exact⟨_,e,λv z=>by cases z⟩
 keep:=λi h h' st k=>by obtain⟨ok,ov,e⟩:=st;exact⟨ok,ov,k it (by simp) _ e⟩
 item:=by
  intro X hP hw hK hc i pins s σ H E I hf st hg;subst hP hw hK;obtain⟨hq,hx⟩:=hg;obtain⟨ok,ov,st⟩:=st;obtain⟨b,v,hb,hv,rv⟩:=hr i hx;have g:=(I.hok a _ hq).1;have f:=hf it (by simp);obtain⟨f0,f1,f2,f3,f4,f5⟩:=f;have isz:=aM st;refine aFB st g hd hx λh1 io ht hz kp=>⟨_,rfl,wpAny_letOwnedTupleGo_items io λh2 ii sb=>?_⟩
  have I1:Inv X pins σ H {s with heap:=h2}:=I.turned (λb o hb e=>(sb.2 b hb).trans<|kp b o hb e) f0 f1 f3 f4 f5;have hn:=I.hok.fresh<|aK _;have g2:=(sb.2 _<|eJ isz).trans ht
  have I2:Inv X pins σ (upd H s.heap.objs.size<|.tup [.ref b,v]) {s with heap:=h2}:=by
   refine I1.track hn I.sz (eJ I.lt) (λy c q=>?_) (λy hy=>?_) ⟨by show 2<=AM;decide,[es[i].key,es[i].val],.cons hb<|.cons rv .nil,⟨_,g2,rfl,⟨_,rfl⟩,rfl⟩⟩
   ·obtain⟨v,o,ho,_⟩:=I.cell y c q;exact bC<|aM ho
   ·exact bC<|aM (I.pin y hy).1
  refine⟨.ref s.heap.objs.size,_,I2,rfl,⟨_,es[i],b,v,hn,rfl,by simp[hx],hb,hv,rfl⟩,⟨_,_,ii⟩,λb hb=>?_⟩;have z:=by simpa using hb
  subst z;rw[bH<|bC isz];exact f0
 done:=by intro X hP hw hK hc i pins s σ H E I hf st hg;subst hP hw hK;obtain⟨hq,hx⟩:=hg;obtain⟨ok,ov,st⟩:=st;have g:=(I.hok a _ hq).1;obtain⟨f0,f1,f2,f3,f4,f5⟩:=hf it (by simp);exact aIJ (I.ok.hd hc) st g hd hx λh' eb=>⟨rfl,I.turned (λb o hb e=>eb b o hb e) f0 f1 f3 f4 f5⟩
 self:=λ_ _ _ _ _ st h=>by obtain⟨ok,ov,st⟩:=st;have ty:Shared.TypeIs _ (.ref it) "dict_itemiterator":=⟨_,st,rfl⟩;exact BQ ty qR (AQ qR ty aHN (AB ⟨_,rfl,"dict_itemiterator",_,ty,PySem.F.slot_dict_itemiterator_next.lookup,h⟩)<|PySem.F.args_dict_itemiterator_iter_1 _)
section
variable {X:Cx}{sd:List Slot}{e:Expr}{pos ap cp tp:Pos}{d:D}{ds:List D}{κ:Type}[DecidableEq κ]{hk:HK X.prog X.w κ}{ks:List κ}{elts:List Expr}{kk:Nat}
theorem aDl(h:PEd X sd e (.val<|gD hk X.K ks ds))(hbase:BV e "items" X.env (eval e X.env)=eval e X.env:=by rfl)(hline:(ap.endLine==cp.line)=true:=by rfl):PId X sd PT0 (.Tuple elts kk tp) (.Call (.Attribute e "items" ap) [] [] cp) ((ks.zip ds).map λp=>.tup [hk.dat p.1,p.2]):=.mk λσ F H S pins s I=>by
 have he:wE X (.Call (.Attribute e "items" ap) [] [] cp) σ H (fun v H1=>∃F1 a o p,v= .ref p∧H1 p=some (exO p (aKS a))∧StF X.K X.B₀ F1 H1 σ sd∧Same F F1∧F1 a=some (exO a o)∧TG hk X.K F1 a o ks ds):=(aOF hV aAM PySem.F.type_dict_items aIj fH hbase hline).to ((h σ F H S).imp fun v H1 ⟨F1,S1,s1,q1⟩=>by
  obtain⟨a,o,rfl,ha,t⟩:=gD_rep.mp q1;obtain⟨es,ep,vs,c,_⟩:=t.ents;have hl:=S1.sub _ _ ha;refine⟨⟨a,o,rfl,hl,c⟩,a,o,rfl,rfl,hl,c,t.2.2.1,λp hp=>?_⟩;obtain⟨S2,s2⟩:=S1.lay (o:=exO p<|aKS a) hp trivial
  exact⟨_,a,o,p,rfl,bX,S2,s1.trans s2,s2 _ _ ha,t.mono s2⟩)
 refine thn (he pins s I) λv s1 ⟨x,H1,I1,r1,F1,a,o,p,ex,hp,S1,s1',ha,t⟩=>?_
 subst ex;cases r1;obtain⟨es,ep,vs,c,e,ez,r,hn⟩:=t.ents;have g:=(I1.hok a _<|S1.sub _ _ ha).1;have gp:=(I1.hok p _ hp).1
 have hr:∀ (i:Nat) (h:i<es.size),∃b v,es[i].key=.ref b/\vs[i]? =some v/\RelV v es[i].val:=λi hi=>by
  have il:i<ks.length:=by rw[<-ez];exact hi
  obtain⟨b,v,u,e1,e2,e3,e4,_⟩:=hn i ks[i] (by simp[il]);rw[jN hi] at e2;cases e2;exact⟨b,v,e3,e1,e4⟩
 refine aFz ⟨_,gp,rfl,rfl⟩ g e ?_;have zl:((ks.zip ds).map λp=>D.tup [hk.dat p.1,p.2]).length=es.size:=by rw[aA,kB,<-t.1,kZ,ez]
 refine⟨s1.heap.objs.size,[s1.heap.objs.size],_,ItI a o es vs,H1,rfl,I1.kept λb o e=>aD _ e,aBz e hr _,⟨_,_,aR _ rfl⟩,λb hb=>?_,F1,S1,s1',λF' H' sF sH sm _ i=>?_⟩
 ·have e:=by simpa using hb
  subst e;exact I1.fpOk (aK _) (I1.hok.fresh<|aK _)
 ·have ha':=sH _ _<|sF _ _ ha;refine⟨λhi=>⟨ha',by rw[<-zl];exact hi⟩,λhi=>⟨ha',by rw[<-zl];exact hi⟩,λx H2 dd hdd y=>?_⟩;obtain⟨q,u,b,v,hq,rfl,e1,e2,e3,rfl⟩:=y;rw[aY] at hdd;obtain⟨⟨k,dv⟩,hz,rfl⟩:=eX.mp hdd;obtain⟨hk1,hd1⟩:=jO.mp hz;obtain⟨b',v',u',e0,e4,e5,_,rl⟩:=hn i k hk1;rw[e1] at e4;cases e4;rw[e2] at e5;cases e5;obtain⟨v2,e6,rv⟩:=r.get hd1;rw[e3] at e6;cases e6;have fq:=sH.free hq;have s2:Same F' (upd F' q<|.tup [.ref b,v]):=λc u z=>by rw[bH<|cD z fq];exact z
  refine⟨upd F' q<|.tup [.ref b,v],s2,?_,λH₀ σ sd S=>(S.lay (o:=.tup [.ref b,v]) hq trivial).1⟩;exact⟨q,_,rfl,bX,.cons (hk.back<|hk.mono (sF.trans s2) rl)<|.one (rv.mono<|sF.trans s2)⟩
end
def aDc(sm:(d==AX)=false):MeetsIn prog w (Builtin.«dict.__len__» ⟨[.ref d],[]⟩) (λ_ R s=>∃ (od:CC) (es:Array DictEntry) (ep:Nat),s.heap.get? d=some od/\od.ExactDict/\od.data=.dict es ep/\R (.ok (.ret<|.int es.size s.toks)) {s with toks:=s.toks+1}):=
 .of_wp λA R s ⟨od,es,ep,g,c,e,q⟩=>by refine AA ?_;refine AA<|BB (oP g c) (AB<|AA (AB<|AA ?_));exact AA (Ad g e<|AB (AA<|wpAny_pendingCount_other sm (wpAny_ret_mkInt<|by exact q)))
theorem aFK(sm:(d==AX)=false)(g:s.heap.get? d=some od)(c:od.ExactDict)(e:od.data=.dict es ep)(fit:es.size<=AM)(q:∀t t2,Q (.int es.size t) {s with toks:=t2}):AH (AD prog w) A (call (.builtin "len") [.ref d]) Q E s:=by
 have lim:=Ao;have ty:=oP g c;refine Calls.call_function_entry kind_len plain_len entry_len (args_len1 _) ?_;refine AA (AB<|AA (AS ty F.slot_dict_len<|BZ F.slot_dict_len ty F.entry_dict_len (F.args_dict_len_1 _) (aDc sm) ⟨od,es,ep,g,c,e,?_⟩));refine AA (AV<|AB (AA<|BF ?_));refine BE (λz=>by lia) λ_=>BE (λz=>by lia) λ_=>?_
 exact AA (wpAny_mkInt<|AB ⟨_,rfl,q _ _⟩)
section
variable {X:Cx}{sd:List Slot}{e:Expr}{pos:Pos}{d:D}{ds:List D}{κ:Type}[DecidableEq κ]{hk:HK X.prog X.w κ}{ks:List κ}
def aFW:mG X (.builtin "len") (λxs H Q=>∃ (l:BZ) (o:CC) (es:Array DictEntry) (ep:Nat),xs=[.ref l]/\H l=some (exO l o)/\o.ExactDict/\o.data=.dict es ep/\(l==AX)=false/\es.size<=AM/\Q (.int es.size) H):=by intro pins s σ H xs us Q I r h;obtain⟨l,o,es,ep,rfl,hl,c,e,sm,fit,q⟩:=h;obtain⟨u,rfl,rx⟩:=oX r;cases(rx);exact aFK sm (I.hok l _ hl).1 c e fit λt t2=>⟨.int es.size,H,I.tok _,⟨_,rfl⟩,q⟩
end
theorem xL[DecidableEq κ]:∀ {ks:List κ}{xs:List V}{k:κ}{z:V},fY (ks.zip xs) k=some z->∃n:Nat,ks[n]? =some k/\xs[n]? =some z
 |[],_,_,_,h=>by cases h
 |_::_,[],_,_,h=>by cases h
 |j::js,y::ys,k,z,h=>by
  rw[eV] at h
  by_cases e:j=k
  ·rw[gW e] at h;cases h;exact⟨0,by simp[e],rfl⟩
  ·rw[fZ e] at h;obtain⟨n,h1,h2⟩:=xL h;exact⟨n+1,by simpa using h1,by simpa using h2⟩
structure LyOk(K:aB)(F H:Hp)(p:Int)(L:Int->List D)(kvs:List (Key×V))(ls:List BZ):Prop where
 live:∃ (lk:List Int) (dss:List (List D)),lk.Nodup/\lk.length=ls.length/\InD K F H ls dss/\(∀k,p<k->fY kvs (.inl k)=fY (lk.zip<|ls.map V.ref) k)/\(∀ (n:Nat) (k:Int),lk[n]? =some k->p<k/\dss[n]? =some (L k))/\∀k,p<k->k∉lk->L k=[]
 cur:(fY kvs (.inl p)=none/\L p=[])\/∃v,fY kvs (.inl p)=some v/\Rep K F (.lst<|L p) v
def GLy(K:aB)(l:BZ)(p:Int)(L:Int->List D)(kvs:List (Key×V))(ls:List BZ):V->Hp->Hp->Prop:=λv F H=>v=.ref l/\H l=some (.dK kvs)/\LyOk K F H p L kvs ls
noncomputable def oLy(K:aB)(l:BZ)(p:Int)(L:Int->List D)(kvs:List (Key×V))(ls:List BZ):Slot:=.ox (l::ls)<|GLy K l p L kvs ls
variable {p:Int}{L:Int->List D}{kvs:List (Key×V)}
def LyOk.mono(o:LyOk K F H p L kvs ls)(s:Same F F')(k:∀a∈ls,∀ob,H a=some ob->H' a=some ob):LyOk K F' H' p L kvs ls:=by
 obtain⟨⟨lk,dss,h1,h2,h3,h4,h5,h6⟩,h7⟩:=o;refine⟨⟨lk,dss,h1,h2,h3.mono2 s k,h4,h5,h6⟩,?_⟩
 rcases h7 with h|⟨v,q1,q2⟩
 ·exact .inl h
 ·exact .inr ⟨v,q1,q2.mono s⟩
def mX(S:StF K H₀ F H σ sd)(hs:sd[i]? =some (oLy K l p L kvs ls)):σ[i]? =some (some<|.ref l)/\(∀a∈l::ls,F a=none)/\(H l=some (.dK kvs)/\LyOk K F H p L kvs ls)/\(l::ls).Nodup:=by
 obtain⟨o,h1,v,h2,h3,h4⟩:=S.slots.get hs;obtain⟨e,g⟩:=h4 F H (Same.refl _) λ_ _ _ q=>q
 subst e h2;exact⟨h1,λa ha=>(h3 a ha).1,g,xJ S.nd hs⟩
def uU(hF:∀a∈l::ls,F a=none)(h1:H l=some (.dK kvs))(o:LyOk K F H p L kvs ls):iB K F H (oLy K l p L kvs ls) (some<|.ref l):=by
 refine⟨.ref l,rfl,λa ha=>⟨hF a ha,?_⟩,λF' H' s k=>⟨rfl,k l aG _ h1,o.mono s λa ha ob e=>k a (aF _ ha) ob e⟩⟩
 rcases aP.mp ha with rfl|ha
 ·exact⟨_,h1,trivial⟩
 ·obtain⟨⟨lk,dss,_,_,h3,_⟩,_⟩:=o;obtain⟨t,ht⟩:=cY ha;obtain⟨_,xs,_,q,_⟩:=h3.get ht;exact⟨_,q,trivial⟩
def InD.erase:∀ {as:List BZ}{dss:List (List D)} (n:Nat),InD K F H as dss->InD K F H (as.eraseIdx n) (dss.eraseIdx n)
 |[],[],n,h=>by exact h
 |[],_::_,_,h=>h.elim
 |_::_,[],_,h=>h.elim
 |a::as,ds::dss,0,h=>h.2
 |a::as,ds::dss,n+1,h=>⟨h.1,InD.erase n h.2⟩
theorem aAm:∀ {lk:List Int}{vs:List V}{n:Nat}{q k:Int},lk[n]? =some q->k≠q->fY ((lk.eraseIdx n).zip<|vs.eraseIdx n) k=fY (lk.zip vs) k
 |[],_,n,_,_,h,_=>by simp at h
 |j::js,[],n,q,k,h,ne=>by cases n<;>simp[List.eraseIdx]
 |j::js,y::ys,0,q,k,h,ne=>by
  have:=by simpa using h
  subst this;rw[eV,fZ λe=>ne e.symm];rfl
 |j::js,y::ys,n+1,q,k,h,ne=>by
  have ih:=aAm (vs:=ys) (by simpa using h) ne;show fY ((j,y)::(js.eraseIdx n).zip (ys.eraseIdx n)) k=fY ((j,y)::js.zip ys) k
  by_cases e:j=k
  ·rw[gW e,gW e]
  ·rw[fZ e,fZ e,ih]
theorem uB{α β:Type}(f:α->β):∀ (l:List α) (n:Nat),(l.map f).eraseIdx n=(l.eraseIdx n).map f
 |[],_=>by simp
 |_::_,0=>rfl
 |a::l,n+1=>by show f a::(l.map f).eraseIdx n=f a::(l.eraseIdx n).map f;rw[uB f l n]
variable {tg iter:Expr}{d:D}{E:jJ}
def aFG(p:Int)(i:Nat)(hN:X.N.Nodup)(hi:X.N[i]? =some x)(hx:Loc X.env.scope x)(hE:∀l,E.nx (sd.set i<|oLy X.K l p (λ_=>[]) [] []))(hs:Af (.Dict [] [] p2) (some<|.Name x p1) pos.line X.env=pure false:=by rfl)(hf:X.fn x=true\/X.env.scope.names.lookup x=some .local:=by first|exact .inl rfl|exact .inr rfl|assumption):PSd1 X sd (.Assign [.Name x p1] (.Dict [] [] p2) pos) E:=.mk λσ F H S=>
 (qZ hN hi hx aHY hs hf).to λq hq=>by
  have fp:=S.sub.free hq
  have no:q∉dL sd:=λhl=>by obtain⟨_,ob,h,_⟩:=S.slots.owns hl;rw[hq] at h;cases h
  have S1:StF X.K X.B₀ F (upd H q<|.dK []) σ sd:=by
   refine⟨S.base,λb u e=>?_,sE S.smp q trivial,S.slots.mono (Same.refl _) λl hl=>?_,S.nd⟩
   ·rw[bH<|cD e fp];exact S.sub _ _ e
   ·obtain⟨n,ys,y,_⟩:=S.slots.owns hl;have hne:=cD y hq;exact⟨n,λys e=>by rw[bH hne];exact e⟩
  refine⟨_,F,S1.setT i (uU (ls:=[]) (λa ha=>by rw[aH.mp ha];exact fp) bX ⟨⟨[],[],dS,rfl,trivial,λ_ _=>rfl,λn k e=>by simp at e,λ_ _ _=>rfl⟩,.inl ⟨rfl,rfl⟩⟩) (by simp) λa ha=>?_,Same.refl _,hE q⟩;rw[aH.mp ha];exact no
theorem aMN(i:Nat)(hs:sd[i]? =some (oLy X.K l p L kvs ls))(h:∀ls',PSd X (sd.set i<|oLy X.K l (p+1) L kvs ls') sts E):PSd X sd sts E:=.mk λσ F H S=>by
 obtain⟨h1,h2,⟨g1,⟨lk,dss,o1,o2,o3,o4,o5,o6⟩,_⟩,nd⟩:=mX S hs
 by_cases q:p+1∈lk
 ·obtain⟨n,hn⟩:=cY q;have nl:n<ls.length:=by rw[<-o2];exact(aE.mp hn).1
  have ha:ls[n]? =some ls[n]:=by simp[nl]
  generalize ls[n]=a at ha;have am:=aQ ha;obtain⟨ds,xs,d1,d2,d3⟩:=o3.get ha;rw[(o5 n _ hn).2] at d1;cases d1;have S0:=S.le<|gS sd i;have no:∀b∈l::ls,b∉dL (sd.set i .un):=λb hb z=>iF S.nd hs hb z
  obtain⟨S1,s1⟩:=S0.inN (λb hb=>by rw[aH.mp hb];exact h2 a<|aF _ am) λb hb=>by rw[aH.mp hb];exact no a<|aF _ am
  have fa:(inF F H [a]) a=some (.lst xs):=by rw[aEc aG];exact d2
  obtain⟨nd1,nd2⟩:=bE.mp nd
  have ne:∀b∈ls.eraseIdx n,b≠a:=λb hb z=>by obtain⟨m,mn,hm⟩:=wR.mp hb;subst z;obtain⟨m1,e1⟩:=aE.mp hm;obtain⟨n1,e2⟩:=aE.mp ha;exact mn ((fI nd2).mp<|e1.trans e2.symm)
  have sub:∀b∈l::ls.eraseIdx n,b∈l::ls:=λb hb=>(aP.mp hb).elim (λz=>z▸aG) λz=>aF _<|(fT ls n).subset z
  have ok:LyOk X.K (inF F H [a]) H (p+1) L kvs (ls.eraseIdx n):=by
   refine⟨⟨lk.eraseIdx n,dss.eraseIdx n,o1.sublist<|fT _ _,?_,(o3.erase n).mono2 s1 λ_ _ _ e=>e,λk hk=>?_,λm k hm=>?_,λk hk hm=>?_⟩,.inr ⟨.ref a,?_,?_⟩⟩
   ·rw[lY,lY,o2]
   ·rw[o4 k<|by lia,<-uB,aAm hn<|by lia]
   ·have mk:∃j,j≠n/\lk[j]? =some k/\(dss.eraseIdx n)[m]? =dss[j]? :=by
     rw[List.getElem?_eraseIdx] at hm ⊢
     by_cases z:m<n
     ·rw[if_pos z] at hm ⊢;exact⟨m,by lia,hm,rfl⟩
     ·rw[if_neg z] at hm ⊢;exact⟨m+1,by lia,hm,rfl⟩
    obtain⟨j,jn,e1,e2⟩:=mk;obtain⟨e3,e4⟩:=o5 j k e1;refine⟨?_,e2.trans e4⟩
    have:k≠p+1:=λz=>by subst z;obtain⟨j1,f1⟩:=aE.mp e1;obtain⟨n1,f2⟩:=aE.mp hn;exact jn ((fI o1).mp<|f1.trans f2.symm)
    lia
   ·refine o6 k (by lia) λz=>hm ?_
    obtain⟨j,hj⟩:=cY z;refine wR.mpr ⟨j,λw=>?_,hj⟩;subst w;rw[hn] at hj;cases hj;lia
   ·rw[o4 (p+1)<|by lia];exact wN o1 hn (by rw[aY,ha];rfl)
   ·exact⟨a,xs,rfl,fa,d3.mono s1⟩
  have S2:=S1.setT i (uU (fun b hb=>by
   rw[aBM λz=>?_]
   ·exact h2 b<|sub b hb
   ·rcases aP.mp hb with rfl|hb
    ·exact nd1<|(aH.mp z)▸am
    ·exact ne b hb (aH.mp z)) g1 ok) (bE.mpr ⟨λz=>nd1 ((fT ls n).subset z),nd2.sublist (fT _ _)⟩) λb hb=>no b (sub b hb)
  rw[jD,lH h1] at S2;exact aDV s1<|h _ σ _ H S2
 ·have ok:LyOk X.K F H (p+1) L kvs ls:=by
   refine⟨⟨lk,dss,o1,o2,o3,λk hk=>o4 k<|by lia,λn k hn=>⟨?_,(o5 n k hn).2⟩,λk hk=>o6 k<|by lia⟩,.inl ⟨?_,o6 _ (by lia) q⟩⟩
   ·have:=(o5 n k hn).1;have:k≠p+1:=λz=>q (z▸aQ hn)
    lia
   ·rw[o4 _<|by lia];exact nN q
  have S2:=S.reT hs h1 (λb ob _ q=>q) S.smp (uU h2 g1 ok) nd λa ha=>.inl ha
  exact h _ σ F H S2
theorem aIf(i:Nat)(hu:X.A.units+1<AR)(hs:sd[i]? =some (oLy X.K l p L kvs ls))(hx:PE X (.Name x p1) (kU i))(hb:PEd X sd b (.val<|.int p))(m:M2 X (.Name x p1) "get" ap b (.List [] p5) cp):PEd X sd (.Call (.Attribute (.Name x p1) "get" ap) [b, .List [] p5] [] cp) (.val (.lst<|L p)):=.mk λσ F H S=>
 (aIA hu hx fH fH m).to (by
  obtain⟨h1,_,⟨g1,_⟩,_⟩:=mX S hs;refine⟨.ref l,h1,l,rfl,.inl ⟨kvs,.inl g1⟩,(hb σ F H S).imp λv1 H1 ⟨F1,S1,s1,q1⟩=>((PEd.val (pO aN<|bM _):PEd X sd (.List [] p5) (.val<|.lst [])) σ F1 H1 S1).imp λv2 H2 ⟨F2,S2,s2,q2⟩=>?_⟩;obtain⟨_,_,⟨g1,_,cur⟩,_⟩:=mX S2 hs;subst q1;refine⟨fY kvs<|.inl p,.k (k:=.inl p) g1,F2,S2,s1.trans s2,?_⟩
  rcases cur with⟨e1,e2⟩|⟨v,e1,e2⟩
  ·rw[e1,e2];exact q2
  ·rw[e1]
   exact e2)
noncomputable def nV(L:Int->List D)(k:Int)(ds:List D):Int->List D:=λj=>if j=k then ds else L j
def wH(L:Int->List D)(k:Int)(ds:List D):nV L k ds k=ds:=if_pos rfl
def qD(L:Int->List D)(ds:List D)(h:j≠k):nV L k ds j=L j:=if_neg h
theorem rL(h:n<=100000):n<AM:=by have:=Ao;lia
variable {a:BZ}
theorem LyOk.new(o:LyOk K F H p L kvs ls)(hk:p<k)(hn:fY kvs (.inl k)=none)(ha:H a=some (.lst [])):LyOk K F H p (nV L k []) (kvs++[(.inl k,.ref a)]) (ls++[a]):=by
 obtain⟨⟨lk,dss,o1,o2,o3,o4,o5,o6⟩,cur⟩:=o
 have nk:k∉lk:=λz=>by have:=uQ (xs:=ls.map V.ref) o1 (by rw[aA,o2]) z;rw[<-o4 k hk,hn] at this;cases this
 have vs:∀j,fY (kvs++[((.inl k:Key),V.ref a)]) (.inl j)=if j=k then some (.ref a) else fY kvs (.inl j):=λj=>by
  rw[nH _ _ _ kvs hn]
  by_cases e:j=k
  ·rw[if_pos e,if_pos<|congrArg Sum.inl e]
  ·rw[if_neg e,if_neg λz=>e<|Sum.inl.inj z]
 have vz:∀j:Int,fY ((lk++[k]).zip<|(ls++[a]).map V.ref) j=if j=k then some (.ref a) else fY (lk.zip<|ls.map V.ref) j:=λj=>by rw[aO,aNc<|by rw[aA,o2]];exact nH _ _ _ _<|nN nk
 refine⟨⟨lk++[k],dss++[[]],bD.mpr ⟨o1,by simp,λx hx y hy e=>nk<|by rw[<-aH.mp hy,<-e];exact hx⟩,by rw[aV,aV,o2];rfl,InD.snoc o3 ha,λj hj=>by rw[vs,vz,o4 j hj],λn j hj=>?_,λj hj nj=>?_⟩,?_⟩
 ·have dl:dss.length=lk.length:=by rw[<-o3.len,o2]
  by_cases z:n<lk.length
  ·rw[cO z] at hj;obtain⟨e1,e2⟩:=o5 n j hj;refine⟨e1,?_⟩;rw[cO<|by lia,e2,qD L [] (λw=>nk<|by rw[<-w];exact aQ hj)]
  ·rw[dR<|by lia] at hj
   have n0:n-lk.length=0:=by have:=(aE.mp hj).1;simp at this;omega
   rw[n0] at hj;cases hj;refine⟨hk,?_⟩;rw[dR<|by lia,dl,n0,wH];rfl
 ·by_cases e:j=k
  ·rw[e,wH]
  ·rw[qD L [] e];exact o6 j hj λz=>nj<|bP _ z
 ·have ne:p≠k:=aSy hk;rw[vs,if_neg ne,qD L [] ne];exact cur
def LyOk.at(o:LyOk K F H p L kvs ls)(hk:p<k)(hz:fY kvs (.inl k)=some z):∃ (n:Nat) (b:BZ) (xs:List V),z=.ref b/\ls[n]? =some b/\H b=some (.lst xs)/\RepL K F (L k) xs:=by obtain⟨⟨lk,dss,o1,o2,o3,o4,o5,o6⟩,cur⟩:=o;rw[o4 k hk] at hz;obtain⟨n,e1,e2⟩:=xL hz;rw[aY] at e2;obtain⟨b,e3,rfl⟩:=eX.mp e2;obtain⟨ds,xs,d1,d2,d3⟩:=o3.get e3;rw[(o5 n k e1).2] at d1;cases d1;exact⟨n,b,xs,rfl,e3,d2,d3⟩
def LyOk.wr{b:BZ}(o:LyOk K F H p L kvs ls)(nd:ls.Nodup)(hk:p<k)(hz:fY kvs (.inl k)=some (.ref b))(r:RepL K F ds ys):LyOk K F (upd H b<|.lst ys) p (nV L k ds) kvs ls:=by
 obtain⟨⟨lk,dss,o1,o2,o3,o4,o5,o6⟩,cur⟩:=o;have hz':=hz;rw[o4 k hk] at hz';obtain⟨n,e1,e2⟩:=xL hz';rw[aY] at e2;obtain⟨b',e3,e4⟩:=eX.mp e2;cases e4;have nl:n<dss.length:=by rw[<-o3.len];exact(aE.mp e3).1
 refine⟨⟨lk,dss.set n ds,o1,o2,o3.set nd e3 r,o4,λm j hj=>?_,λj hj nj=>?_⟩,?_⟩
 ·obtain⟨f1,f2⟩:=o5 m j hj;refine⟨f1,?_⟩
  by_cases e:m=n
  ·subst e;rw[e1] at hj;cases hj;rw[iJ nl,wH]
  ·have:j≠k:=fun z=>e (by
    subst z;obtain⟨a1,a2⟩:=aE.mp hj;obtain⟨b1,b2⟩:=aE.mp e1
    exact(fI o1).mp (a2.trans b2.symm))
   rw[lX<|Ne.symm e,f2,qD L ds this]
 ·have:j≠k:=λz=>nj (z▸aQ e1)
  rw[qD L ds this];exact o6 j hj nj
 ·rw[qD L ds<|aSy hk];exact cur
variable {a:Expr}
theorem aGf(i:Nat)(hs:sd[i]? =some (oLy X.K l p L kvs ls))(hx:PE X (.Name x p1) (kU i))(hb:PEd X sd b (.val<|.int k))(h:∀z,PEd X (sd.set i z) e<|.val d)(hpk:p<k)(hc:kvs.length<=100000)(hl:(L k).length<=100000)(hE:∀kvs' ls',kvs'.length<=kvs.length+1->E.nx (sd.set i<|oLy X.K l p (nV L k<|L k++[d]) kvs' ls'))(hm:PE X (.Call (.Attribute (.Call (.Attribute (.Name x p1) "setdefault" ap1) [b, .List [] p5] [] cp1) "append" ap) [e] [] cp) (tBM X.K "list" qB (tBM X.K "dict" rSI (kU i) (lV (wE X b) (lV (wE X (.List [] p5)) vM))) (lV (wE X e) vM)):=by exact aCM hW nF nG uL (aCM hV iG vV aOW (pv _) (fN fH (fN fH pa_nil))) (fN fH pa_nil))(hsw:Af (.Call (.Attribute (.Call (.Attribute (.Name x p1) "setdefault" ap1) [b, .List [] p5] [] cp1) "append" ap) [e] [] cp) none pos.line X.env=pure false:=by rfl):PSd1 X sd (.Expr (.Call (.Attribute (.Call (.Attribute (.Name x p1) "setdefault" ap1) [b, .List [] p5] [] cp1) "append" ap) [e] [] cp) pos) E:=.mk λσ F H S=>
 (qC hm hsw).to (by
  have il:=(aE.mp hs).1
  have fin:∀ (F2 H2:Hp) (L2:Int->List D) (kvs2:List (Key×V)) (ls2:List BZ) (ad:BZ),StF X.K X.B₀ F2 H2 σ (sd.set i<|oLy X.K l p L2 kvs2 ls2)->Same F F2->L2 k=L k->nV L2 k (L k++[d])=nV L k (L k++[d])->kvs2.length<=kvs.length+1->fY kvs2 (.inl k)=some (.ref ad)->
    tyV X.K "list" (.ref ad) H2/\(lV (wE X e) vM) σ H2 λxs H3=>qB (.ref ad) xs H3 λ_ H4=>(lft X F E).nx σ H4:=λF2 H2 L2 kvs2 ls2 ad S2 s2 eL eU hl2 hv=>by
   have hs2:(sd.set i<|oLy X.K l p L2 kvs2 ls2)[i]? =some (oLy X.K l p L2 kvs2 ls2):=iJ il;obtain⟨_,_,⟨_,o⟩,_⟩:=mX S2 hs2;obtain⟨n,b',xs,ez,hn,hb',rb⟩:=o.at hpk hv;cases ez;refine⟨.inl ⟨rfl,xs,.of hb'⟩,(h _ σ F2 H2 S2).imp λv H3 ⟨F3,S3,s3,q3⟩=>?_⟩;obtain⟨f1,f2,⟨f3,o'⟩,f5⟩:=mX S3 hs2;obtain⟨n',b2,xs3,ez,hn',u2,u3⟩:=o'.at hpk hv;cases ez;obtain⟨nd1,nd2⟩:=bE.mp f5;have am:=aQ hn';have nl:l≠ad:=λz=>nd1<|z▸am
   have o2:=o'.wr nd2 hpk hv (u3.app<|.one q3)
   have W:StF X.K X.B₀ F3 (upd H3 ad (.lst (xs3++[v]))) σ ((sd.set i (oLy X.K l p L2 kvs2 ls2)).set i (oLy X.K l p (nV L2 k (L2 k++[d])) kvs2 ls2)):=S3.reT hs2 f1 (fun b ob hb q=>by
    rw[bH (show b≠ad from λz=>hb<|z▸aF _ am)]
    exact q) (sE S3.smp ad trivial) (uU f2 (by rw[bH nl];exact f3) o2) f5 λa ha=>.inl ha
   rw[jD,eL,eU] at W;exact⟨ad,xs3,v,rfl,rfl,u2,by rw[u3.len,eL];exact rL hl,_,F3,W,s2.trans s3,hE kvs2 ls2 hl2⟩
  obtain⟨h1,h2,⟨h3,_⟩,_⟩:=mX S hs;refine⟨.ref l,h1,.inr (.inr<|.inl ⟨rfl,.inl ⟨_,h3⟩⟩),(hb σ F H S).imp λv1 H1 ⟨F1,S1,s1,q1⟩=>((pO aN (bM _):PEd X sd (.List [] p5) (.own [])) σ F1 H1 S1).imp λv2 H2 ⟨F2,S2,s2,q2⟩=>?_⟩;obtain⟨g1,g2,⟨g3,o⟩,g5⟩:=mX S2 hs;subst q1;obtain⟨a,xs,rfl,fa,ha2,rl2,na⟩:=q2;have xn:=cI (by rw[rl2.len];rfl);subst xn;refine⟨l,.inl k,.ref a,kvs,rfl,rfl,g3,rL hc,λz hz=>?_,λhz=>?_⟩
  ·obtain⟨n,b',xs,ez,_⟩:=o.at hpk hz;subst ez;have S2':StF X.K X.B₀ F2 H2 σ (sd.set i<|oLy X.K l p L kvs ls):=by rw[aAy hs];exact S2
   exact fin F2 H2 L kvs ls b' S2' (s1.trans s2) rfl rfl (jK _) hz
  ·have hne:=λz=>na (dM.mpr ⟨_,aQ hs,z⟩)
   have hal:a≠l:=λz=>hne<|z▸aG
   have e0:L k=[]:=by
    obtain⟨⟨lk,dss,o1,o2,o3,o4,o5,o6⟩,_⟩:=o;refine o6 k hpk λz=>?_
    have:=uQ (xs:=ls.map V.ref) o1 (by rw[aA,o2]) z;rw[<-o4 k hpk,hz] at this;cases this
   have S3:StF X.K X.B₀ F2 (upd H2 l (.dK<|kvs++[((Sum.inl k),V.ref a)])) σ (sd.set i (oLy X.K l p (nV L k []) (kvs++[((Sum.inl k),V.ref a)])<|ls++[a])):=by
    refine S2.reT hs g1 (λb ob hb q=>?_) (sE S2.smp l trivial) (uU (λb hb=>?_) bX ?_) ?_ λb hb=>?_
    ·rw[bH (show b≠l from λz=>hb<|z▸aG)];exact q
    ·rcases aP.mp hb with rfl|hb
     ·exact g2 _ aG
     ·rcases aS.mp hb with hb|hb
      ·exact g2 b<|aF _ hb
      ·rw[aH.mp hb];exact fa
    ·refine LyOk.new (o.mono (Same.refl _) λb hb ob q=>?_) hpk hz ?_
     ·rw[bH (show b≠l from λz=>(bE.mp g5).1<|z▸hb)];exact q
     ·rw[bH hal];exact ha2
    ·refine bE.mpr ⟨λz=>?_,bD.mpr ⟨(bE.mp g5).2,by simp,λx hx y hy e=>?_⟩⟩
     ·rcases aS.mp z with z|z
      ·exact(bE.mp g5).1 z
      ·exact hal (aH.mp z).symm
     ·rw[aH.mp hy] at e;exact hne (aF _<|e▸hx)
    ·rcases aP.mp hb with rfl|hb
     ·exact .inl aG
     ·rcases aS.mp hb with hb|hb
      ·exact .inl<|aF _ hb
      ·rw[aH.mp hb];exact .inr na
   refine fin F2 _ (nV L k []) _ _ a S3 (s1.trans s2) (by rw[wH,e0]) (funext λj=>?_) (by rw[aV];exact aK _) (by rw[nH _ _ _ kvs hz,if_pos rfl]);unfold nV
   by_cases z:j=k
   ·rw[if_pos z,if_pos z]
   ·rw[if_neg z,if_neg z,if_neg z])
theorem aFU(i:Nat)(hs:sd[i]? =some (oLy X.K l p L kvs ls))(h:PEd X sd e (.own ds))(hpk:p<k)(hn:fY kvs (.inl k)=none)(hc:kvs.length<=100000)(hE:∀a ls',E.nx (sd.set i<|oLy X.K l p (nV L k ds) (kvs++[(.inl k,.ref a)]) ls'))(hm:PS X (.Assign [.Subscript (.Name x p1) (.Constant (.int k) j p3) p2] e pos) (aNF (kU i) (tC<|.int k)<|wE X e)):PSd1 X sd (.Assign [.Subscript (.Name x p1) (.Constant (.int k) j p3) p2] e pos) E:=.mk λσ F H S=>
 hm.to ((h σ F H S).imp fun v H1 ⟨F1,S1,s1,q1⟩=>by
  obtain⟨g1,g2,⟨g3,o⟩,g5⟩:=mX S1 hs;obtain⟨a,xs,rfl,fa,ha2,rl2,na⟩:=q1;have hne:=λz=>na<|dM.mpr ⟨_,aQ hs,z⟩
  have hal:a≠l:=λz=>hne<|z▸aG
  refine⟨.ref l,g1,l,_,rfl,DPut.k (k:=.inl k) g3<|rL hc,?_⟩;rw[pK _ hn]
  have o1:LyOk X.K F1 (upd (upd H1 a<|.lst []) l (.dK<|kvs++[((Sum.inl k),V.ref a)])) p (nV L k []) (kvs++[((Sum.inl k),V.ref a)]) (ls++[a]):=by
   refine LyOk.new (o.mono (Same.refl _) λb hb ob q=>?_) hpk hn ?_
   ·rw[bH (show b≠l from λz=>(bE.mp g5).1<|z▸hb),bH (show b≠a from λz=>hne<|z▸aF _ hb)];exact q
   ·rw[bH hal,bX]
  have nd:(l::(ls++[a])).Nodup:=by
   refine bE.mpr ⟨λz=>?_,bD.mpr ⟨(bE.mp g5).2,by simp,λx hx y hy e=>?_⟩⟩
   ·rcases aS.mp z with z|z
    ·exact(bE.mp g5).1 z
    ·exact hal (aH.mp z).symm
   ·rw[aH.mp hy] at e;exact hne (aF _<|e▸hx)
  have o2:=o1.wr (bE.mp nd).2 hpk (by rw[nH _ _ _ kvs hn,if_pos rfl]) rl2
  have eH:upd (upd (upd H1 a<|.lst []) l (.dK<|kvs++[((Sum.inl k),V.ref a)])) a (.lst xs)=upd H1 l (.dK<|kvs++[((Sum.inl k),V.ref a)]):=funext λb=>by
   by_cases z:b=a
   ·rw[z,bX,bH hal,ha2]
   ·rw[bH z]
    by_cases z2:b=l
    ·rw[z2,bX,bX]
    ·rw[bH z2,bH z,bH z2]
  have eL:nV (nV L k []) k ds=nV L k ds:=funext λj=>by
   unfold nV
   by_cases z:j=k
   ·rw[if_pos z,if_pos z]
   ·rw[if_neg z,if_neg z,if_neg z]
  rw[eH,eL] at o2;refine⟨_,F1,S1.reT hs g1 (λb ob hb q=>?_) (sE S1.smp l trivial) (uU (λb hb=>?_) bX o2) nd λb hb=>?_,s1,hE a _⟩
  ·rw[bH (show b≠l from λz=>hb<|z▸aG)];exact q
  ·rcases aP.mp hb with rfl|hb
   ·exact g2 _ aG
   ·rcases aS.mp hb with hb|hb
    ·exact g2 b<|aF _ hb
    ·rw[aH.mp hb];exact fa
  ·rcases aP.mp hb with rfl|hb
   ·exact .inl aG
   ·rcases aS.mp hb with hb|hb
    ·exact .inl<|aF _ hb
    ·rw[aH.mp hb]
     exact .inr na)
namespace S45
variable {T:Type}[DecidableEq T](n:Nat)(pr:Nat->Int)(beh:Nat->T->T)(t0:T)
abbrev Ent(T:Type):=Int×List Nat×T
abbrev Lay(T:Type):=Int->List (List Nat×T)
noncomputable def tabQ(row:List Nat):T:=row.foldl (λt k=>beh k t) t0
def prQ(row:List Nat):Int:=(row.map pr).sum
def tab_snoc(row:List Nat)(k:Nat):tabQ beh t0 (row++[k])=beh k (tabQ beh t0 row):=by unfold tabQ;rw[iW];rfl
def pr_snoc(row:List Nat)(k:Nat):prQ pr (row++[k])=prQ pr row+pr k:=by unfold prQ;simp
noncomputable def put(t:Int)(row:List Nat)(tab:T):Nat->Lay T->Lay T
 |0,ly=>ly
 |k+1,ly=>λj=>if j=t+pr k then put t row tab k ly j++[(row++[k],beh k tab)] else put t row tab k ly j
def one(t:Int)(s:List (Ent T)×Lay T)(e:List Nat×T):List (Ent T)×Lay T:=if e.2∉s.1.map (λx=>x.2.2)/\s.1.length<=600 then(s.1++[(t,e.1,e.2)],put pr beh t e.1 e.2 n s.2) else s
noncomputable def aQj:Lay T:=λj=>if j=0 then[([],t0)] else[]
def run:Nat->List (Ent T)×Lay T
 |0=>([],aQj t0)
 |t+1=>((run t).2 t).foldl (one n pr beh t)<|run t
theorem qF(t:Int)(row:List Nat)(tab:T)(ly:Lay T):∀ (m:Nat) (j:Int) (x:List Nat×T),x∈put pr beh t row tab m ly j↔x∈ly j\/∃k,k<m/\j=t+pr k/\x=(row++[k],beh k tab)
 |0,j,x=>by exact⟨.inl,λh=>h.elim id λ⟨k,hk,_⟩=>absurd hk<|Nat.not_lt_zero k⟩
 |m+1,j,x=>by
  have ih:=qF t row tab ly m j x;show x∈(if j=t+pr m then put pr beh t row tab m ly j++[(row++[m],beh m tab)] else put pr beh t row tab m ly j)↔_
  by_cases e:j=t+pr m
  ·rw[if_pos e,aS,ih,aH]
   constructor
   ·rintro((h|⟨k,hk,h⟩)|h)
    ·exact .inl h
    ·exact .inr ⟨k,by lia,h⟩
    ·exact .inr ⟨m,by omega,e,h⟩
   ·rintro(h|⟨k,hk,h1,h2⟩)
    ·exact .inl<|.inl h
    ·by_cases z:k=m
     ·subst z;exact .inr h2
     ·exact .inl<|.inr ⟨k,by lia,h1,h2⟩
  ·rw[if_neg e,ih]
   constructor
   ·rintro(h|⟨k,hk,h⟩)
    ·exact .inl h
    ·exact .inr ⟨k,by lia,h⟩
   ·rintro(h|⟨k,hk,h1,h2⟩)
    ·exact .inl h
    ·by_cases z:k=m
     ·subst z;exact absurd h1 e
     ·exact .inr ⟨k,by lia,h1,h2⟩
structure Ok(t:Int)(rest:List (List Nat×T))(s:List (Ent T)×Lay T):Prop where
 ent:∀e∈s.1,0<=e.1/\e.1<=t/\e.1=prQ pr e.2.1/\(∀k∈e.2.1,k<n)/\e.2.2=tabQ beh t0 e.2.1
 nd:(s.1.map λx=>x.2.2).Nodup
 ly:∀ (j:Int) (x:List Nat×T),x∈s.2 j->j=prQ pr x.1/\(∀k∈x.1,k<n)/\x.2=tabQ beh t0 x.1/\(x.1=[]\/∃r k,x.1=r++[k]/\(prQ pr r,r,tabQ beh t0 r)∈s.1)
 par:∀ (i:Nat) (e:Ent T),s.1[i]? =some e->(e.2.1=[]/\i=0)\/∃r k i',e.2.1=r++[k]/\i'<i/\s.1[i']? =some (prQ pr r,r,tabQ beh t0 r)
 ch:∀e∈s.1,∀k,k<n->(e.2.1++[k],beh k e.2.2)∈s.2 (e.1+pr k)
 done:∀ (j:Int) (x:List Nat×T),j<=t->x∈s.2 j->(j=t/\x∈rest)\/(∃e∈s.1,e.2.2=x.2/\e.1<=j)\/600<(s.1.filter λe=>decide<|e.1<=j).length
 sub:∀x∈rest,x∈s.2 t
 le:s.1.length<=601
variable {n pr beh t0}
theorem Ok.step(hp:∀k,k<n->1<=pr k)(ht:0<=t){e:List Nat×T}{rest:List (List Nat×T)}{s:List (Ent T)×Lay T}(o:Ok n pr beh t0 t (e::rest) s):Ok n pr beh t0 t rest (one n pr beh t s e):=by
 have em:=o.sub e aG;obtain⟨l1,l2,l3,l4⟩:=o.ly t e em;unfold one
 by_cases c:e.2∉s.1.map (λx=>x.2.2)/\s.1.length<=600
 ·rw[if_pos c];obtain⟨c1,c2⟩:=c
  have old:∀ (j:Int) (x:List Nat×T),j<=t->x∈put pr beh t e.1 e.2 n s.2 j->x∈s.2 j:=λj x hj hx=>by
   rcases(qF pr beh t e.1 e.2 s.2 n j x).mp hx with h|⟨k,hk,h,_⟩
   ·exact h
   ·have:=hp k hk;lia
  refine⟨λx hx=>?_,?_,λj x hx=>?_,λi x hx=>?_,λx hx k hk=>?_,λj x hj hx=>?_,λx hx=>(qF pr beh t e.1 e.2 s.2 n t x).mpr<|.inl (o.sub x<|aF _ hx),?_⟩
  ·rcases aS.mp hx with hx|hx
   ·exact o.ent x hx
   ·rw[aH.mp hx];exact⟨ht,kJ _,l1,l2,l3⟩
  ·rw[aO]
   exact bD.mpr ⟨o.nd,by simp,fun x hx y hy z=>c1 (by
    have:=by simpa using hy
    rw[<-this,<-z]
    exact hx)⟩
  ·rcases(qF pr beh t e.1 e.2 s.2 n j x).mp hx with h|⟨k,hk,h1,h2⟩
   ·obtain⟨q1,q2,q3,q4⟩:=o.ly j x h;exact⟨q1,q2,q3,q4.imp id λ⟨r,k,z1,z2⟩=>⟨r,k,z1,bP _ z2⟩⟩
   ·rw[h2];refine⟨by rw[h1,pr_snoc,<-l1],λi hi=>?_,by rw[tab_snoc,<-l3],.inr ⟨e.1,k,rfl,aU _<|by rw[<-l1,<-l3];exact cC _⟩⟩
    rcases aS.mp hi with hi|hi
    ·exact l2 i hi
    ·rw[aH.mp hi];exact hk
  ·by_cases z:i<s.1.length
   ·rw[cO z] at hx
    rcases o.par i x hx with h|⟨r,k,i',h1,h2,h3⟩
    ·exact .inl h
    ·exact .inr ⟨r,k,i',h1,h2,by rw[cO<|by lia];exact h3⟩
   ·rw[dR<|by lia] at hx
    have i0:=by have:=(aE.mp hx).1;simp at this;omega
    rw[i0] at hx;have ex:=by simpa using hx
    subst ex
    rcases l4 with h|⟨r,k,h1,h2⟩
    ·refine .inl ⟨h,?_⟩
     have:s.1=[]:=by
      cases q:s.1 with
      |nil=>rfl
      |cons f fs=>
       exfalso;have f0:s.1[0]? =some f:=by rw[q];rfl
       rcases o.par 0 f f0 with⟨g1,_⟩|⟨_,_,i',_,g2,_⟩
       ·have fm:=aQ f0;obtain⟨_,_,_,_,g5⟩:=o.ent f fm;refine c1<|aJ.mpr ⟨f,fm,?_⟩;rw[g5,g1,l3,h]
       ·lia
     rw[this] at i0 z;exact i0
    ·obtain⟨i',hi'⟩:=cY h2;have:=(aE.mp hi').1;exact .inr ⟨r,k,i',h1,by lia,by rw[cO this];exact hi'⟩
  ·rcases aS.mp hx with hx|hx
   ·exact(qF pr beh t e.1 e.2 s.2 n _ _).mpr (.inl<|o.ch x hx k hk)
   ·rw[aH.mp hx];exact(qF pr beh t e.1 e.2 s.2 n _ _).mpr<|.inr ⟨k,hk,rfl,rfl⟩
  ·rcases o.done j x hj (old j x hj hx) with⟨h1,h2⟩|⟨f,h1,h2,h3⟩|h
   ·rcases aP.mp h2 with h2|h2
    ·refine .inr<|.inl ⟨(t,e.1,e.2),aU _<|cC _,by rw[h2],?_⟩;rw[h1];exact kJ _
    ·exact .inl ⟨h1,h2⟩
   ·exact .inr<|.inl ⟨f,bP _ h1,h2,h3⟩
   ·refine .inr<|.inr ?_;rw[aIS,aV];lia
  ·rw[aV];show s.1.length+1<=601;lia
 ·rw[if_neg c];refine⟨o.ent,o.nd,o.ly,o.par,o.ch,λj x hj hx=>?_,λx hx=>o.sub x<|aF _ hx,o.le⟩
  rcases o.done j x hj hx with⟨h1,h2⟩|h
  ·rcases aP.mp h2 with h2|h2
   ·refine .inr ?_
    by_cases m:e.2∈s.1.map (λx=>x.2.2)
    ·obtain⟨f,f1,f2⟩:=aJ.mp m;exact .inl ⟨f,f1,by rw[h2];exact f2,by rw[h1];exact(o.ent f f1).2.1⟩
    ·refine .inr ?_;have:s.1.filter (λe=>decide<|e.1<=j)=s.1:=cB.mpr λf hf=>decide_eq_true (by rw[h1];exact(o.ent f hf).2.1)
     rw[this];exact aNj λz=>c ⟨m,z⟩
   ·exact .inl ⟨h1,h2⟩
  ·exact .inr h
def Ok.fold(hp:∀k,k<n->1<=pr k)(ht:0<=t):∀ {rest:List (List Nat×T)}{s:List (Ent T)×Lay T},Ok n pr beh t0 t rest s->Ok n pr beh t0 t [] (rest.foldl (one n pr beh t) s)
 |[],_,o=>o
 |e::rest,s,o=>Ok.fold (s:=one n pr beh t s e) hp ht<|o.step hp ht
theorem aKh(hp:∀k,k<n->1<=pr k):∀t:Nat,Ok n pr beh t0 (t:Int) ((run n pr beh t0 t).2 t) (run n pr beh t0 t)
 |0=>by
  refine⟨λe h=>(nomatch h),dS,λj x hx=>?_,λi e h=>by simp[run] at h,λe h=>(nomatch h),λj x hj hx=>?_,λx hx=>hx,bM _⟩
  ·have hx:x∈(if j=0 then[(([]),t0)] else[]):=hx
   by_cases z:j=0
   ·rw[if_pos z] at hx;rw[aH.mp hx,z];exact⟨rfl,λk hk=>(nomatch hk),rfl,.inl rfl⟩
   ·rw[if_neg z] at hx;cases hx
  ·have hx2:x∈(if j=0 then[(([]),t0)] else[]):=hx
   by_cases z:j=0
   ·subst z;exact .inl ⟨rfl,hx⟩
   ·rw[if_neg z] at hx2;cases hx2
 |t+1=>by
  have o:=Ok.fold hp (kI t)<|aKh hp t;refine⟨λe he=>?_,o.nd,o.ly,o.par,o.ch,λj x hj hx=>?_,λx hx=>hx,o.le⟩
  ·obtain⟨h1,h2,h3⟩:=o.ent e he;exact⟨h1,by lia,h3⟩
  ·by_cases z:j<=(t)
   ·rcases o.done j x z hx with⟨_,h⟩|h
    ·cases h
    ·exact .inr h
   ·have:j=((t+1)):=by lia
    subst this;exact .inl ⟨rfl,hx⟩
variable (n pr beh)
def HoldsP(b:Int)(B:List (Ent T)):Prop:=(∃e∈B,e.2.1=[])/\∀e∈B,∀k,k<n->e.1+pr k<=b->∃e'∈B,e'.2.2=beh k e.2.2/\e'.1<=e.1+pr k
variable {n pr beh}
variable {t b:Int}{s:List (Ent T)×Lay T}{B:List (Ent T)}
theorem holds_all(hp:∀k,k<n->1<=pr k)(o:Ok n pr beh t0 t [] s)(hb:b<=t)(h0:0<=b)(ne:s.1≠[])(hc:(s.1.filter λe=>decide<|e.1<=b).length<=600)(hB:∀x,x∈B↔x∈s.1/\x.1<=b):HoldsP n pr beh b B:=by
 refine⟨?_,λe he k hk hle=>?_⟩
 ·cases q:s.1 with
  |nil=>exact absurd q ne
  |cons f fs=>
   have f0:s.1[0]? =some f:=by rw[q];rfl
   have fm:=aQ f0
   rcases o.par 0 f f0 with⟨g1,_⟩|⟨_,_,i',_,g2,_⟩
   ·refine⟨f,(hB f).mpr ⟨fm,?_⟩,g1⟩;have:=(o.ent f fm).2.2.1;rw[g1] at this;have:f.1=0:=this;lia
   ·lia
 ·obtain⟨e1,e2⟩:=(hB e).mp he
  rcases o.done _ _ (by lia) (o.ch e e1 k hk) with⟨_,h⟩|⟨f,h1,h2,h3⟩|h
  ·cases h
  ·exact⟨f,(hB f).mpr ⟨h1,by lia⟩,h2,h3⟩
  ·exfalso
   have mono:(s.1.filter λf=>decide<|f.1<=e.1+pr k).length<=(s.1.filter λf=>decide<|f.1<=b).length:=by rw[<-zR,<-zR];exact List.countP_mono_left λf _ hf=>decide_eq_true<|Int.le_trans (of_decide_eq_true hf) hle
   lia
end S45
end DL
namespace DL
open PySem PySem.Spec PyProof.Rows L2
variable {p:Int×Int}{L:List SK}
def jA(p:Int×Int)(q:SQ):List Nat:=(bU p).map λws=>pD p<|onQ p q ws
def hX(other one:List Nat):List Nat:=one.map λi=>other.getD i 0
def lJ(p:Int×Int)(nb:List Nat):List (List Int):=nb.map λi=>(bU p).getD i []
def fG(p:Int×Int)(L:List SK)(k:Nat)(t:List (List Int)):List (List Int):=t.map<|onQ p (L.getD k AN).1
noncomputable def prK(L:List SK)(k:Nat):Int:=(L.getD k AN).2
def mvD(p:Int×Int)(s:SK):D:=.tup [.int s.2,.tup (cS<|jA p s.1)]
def NOk(p:Int×Int)(nb:List Nat):Prop:=nb.length=(bU p).length/\∀i∈nb,i<(bU p).length
def aBm(p:Int×Int)(q:SQ):(jA p q).length=(bU p).length:=by unfold jA;rw[aA]
def aJE(q:SQ)(hi:i<(bU p).length):(jA p q).getD i 0=pD p (onQ p q<|(bU p).getD i []):=by unfold jA;simp[bV,hi]
def aNK(hp:p∈bS)(hi:i<(bU p).length):Fil p ((bU p).getD i []):=lF hp<|getD_mem hi
def aPK(hp:p∈bS)(O:rA p q)(hi:i<(bU p).length):(jA p q).getD i 0<(bU p).length:=by rw[aJE q hi];exact(xP hp (aBb O<|aNK hp hi)).2.1
def aEB(hp:p∈bS)(O:rA p q)(h:NOk p nb):NOk p (hX (jA p q) nb):=by refine⟨by unfold hX;rw[aA];exact h.1,λi hi=>?_⟩;obtain⟨j,hj,rfl⟩:=aJ.mp hi;exact aPK hp O<|h.2 j hj
def xV(hp:p∈bS)(O:rA p q)(h:NOk p nb):lJ p (hX (jA p q) nb)=(lJ p nb).map (onQ p q):=by
 unfold lJ hX;rw[aW,aW];refine bQ λi hi=>?_
 show(bU p).getD ((jA p q).getD i 0) []=onQ p q ((bU p).getD i []);rw[aJE q<|h.2 i hi];exact(xP hp<|aBb O (aNK hp<|h.2 i hi)).2.2
def aCa(hp:p∈bS)(ha:NOk p a)(hb:NOk p b)(h:lJ p a=lJ p b):a=b:=by
 refine lO (ha.1.trans hb.1.symm) λi h1 h2=>?_
 have e:(lJ p a)[i]'(by unfold lJ;rw[aA];exact h1)=(lJ p b)[i]'(by unfold lJ;rw[aA];exact h2):=by simp only[h]
 unfold lJ at e;rw[fA,fA] at e;rw[<-yL hp (ha.2 _<|fJ h1),<-yL hp (hb.2 _<|fJ h2),e]
def st0(p:Int×Int):List Nat:=bI (bU p).length
def aPJ(p:Int×Int):NOk p (st0 p):=⟨by unfold st0;rw[eG],λi hi=>bR.mp hi⟩
def aEO(p:Int×Int):lJ p (st0 p)=bU p:=by
 unfold lJ st0;refine lO (by simp) λi h1 h2=>?_
 simp[bV,h2]
def nrQ(p:Int×Int)(L:List SK)(row:List Nat):List Nat:=row.foldl (λnb k=>hX (jA p (L.getD k AN).1) nb)<|st0 p
def wQ(row:List Nat)(k:Nat):nrQ p L (row++[k])=hX (jA p (L.getD k AN).1) (nrQ p L row):=by unfold nrQ;rw[iW];rfl
theorem vG(hp:p∈bS)(S:∀s∈L,rA p s.1):∀ {row:List Nat},fO L row->NOk p (nrQ p L row)/\lJ p (nrQ p L row)=S45.tabQ (fG p L) (bU p) row:=λ{row}=>by
 have g:∀ (row:List Nat) (nb:List Nat) (t:List (List Int)),NOk p nb->lJ p nb=t->fO L row->NOk p (row.foldl (λnb k=>hX (jA p (L.getD k AN).1) nb) nb)/\lJ p (row.foldl (λnb k=>hX (jA p (L.getD k AN).1) nb) nb)=row.foldl (λt k=>fG p L k t) t:=λrow=>by
  induction row with
  |nil=>exact λnb t h1 h2 _=>⟨h1,h2⟩
  |cons k row ih=>
   intro nb t h1 h2 h3;have O:rA p (L.getD k AN).1:=S _ (DL.getD_mem<|h3 k aG);refine ih _ _ (aEB hp O h1) ?_ λj hj=>h3 j<|aF _ hj
   rw[xV hp O h1,h2];rfl
 exact λh=>g row (st0 p) (bU p) (aPJ p) (aEO p) h
open Classical in
def xW(L:List SK)(d:D):SK:=if h:∃s,s∈L/\skD s=d then h.choose else AN
def yW(nd:(L.map λs=>sqD s.1).Nodup)(h:s∈L):xW L (skD s)=s:=by
 have ex:∃z,z∈L/\skD z=skD s:=⟨s,h,rfl⟩;unfold xW;rw[dif_pos ex];obtain⟨h1,h2⟩:=ex.choose_spec;generalize ex.choose=z at h1 h2;obtain⟨i,hi,ez⟩:=cP h1;obtain⟨j,hj,es⟩:=cP h
 have e:sqD z.1=sqD s.1:=by
  injection h2 with h2
  exact(aNd.inj h2).1
 have:=(fI (h₀:=by rw[aA];exact hi) (h₁:=by rw[aA];exact hj) nd).mp (by rw[fA,fA,ez,es,e]);subst this;exact ez.symm.trans es
def aRW:List D->R->Prop:=λds r=>∃p q,p∈bS/\rA p q/\ds=[dI p,sqD q]/\r=.val (.tup (cS<|jA p q))
def aEk:List D->R->Prop:=λds r=>∃p L,p∈bS/\StkOk p L/\(L.map λs=>sqD s.1).Nodup/\ds=[dI p,.lst<|L.map skD]/\r=.own (L.map<|mvD p)
def aHg:List D->R->Prop:=λds r=>∃one other:List Nat,one.length<=100/\(∀i∈one,i<other.length)/\ds=[.tup<|cS one,.tup<|cS other]/\r=.val (.tup (cS<|hX other one))
def aEn:List D->R->Prop:=λds r=>∃ (B:List (List Int)) (nb:List Nat),nb.length<=100/\(∀i∈nb,i<B.length)/\ds=[.lst<|B.map bF,.tup<|cS nb]/\r=.val (.tup<|(nb.map λi=>B.getD i []).map bF)
def aNt:List D->R->Prop:=λds r=>∃p L row,p∈bS/\StkOk p L/\fO L row/\ds=[.lst (L.map<|mvD p),.tup<|cS row,.tup (cS<|st0 p)]/\r=.val (.tup (cS<|nrQ p L row))
section
variable {X:Cx}{sd:List Slot}{a b:Expr}{pos:Pos}{ds:List D}{κ:Type}[DecidableEq κ]{hk:HK X.prog X.w κ}{ks:List κ}{k:κ}
theorem aPd(hu:X.A.units+2<AR)(ha:PEd X sd a (.val<|hk.dat k))(hb:PDc X sd b hk ks ds)(hm:AY .In b=false:=by with_unfolding_all rfl):PEd X sd (.Compare a [.In] [b] pos) (.val<|.bl (decide<|k∈ks)):=.mk λσ F H S=>
 (aFt (aJY) fH fH hm).to ((ha σ F H S).imp fun v H1 ⟨F1,S1,s1,q1⟩=>(hb.get σ F1 H1 S1).imp fun u H2 ⟨F2,l,S2,s2,eu,g⟩=>by
  obtain⟨ad,rfl,hr⟩:=hk.key q1;obtain⟨o,g1,g2⟩:=g F2 H2 S2<|Same.refl _;refine⟨F2,ad,l,o,k,ks,ds,rfl,eu,S2.sub,hk.mono s2 hr,g1,g2,hu,F2,S2,s1.trans s2,?_⟩
  rfl)
end
section
variable {X:Cx}{sd:List Slot}{a b:Expr}{pos:Pos}{ds:List D}{κ:Type}[DecidableEq κ]{hk:HK X.prog X.w κ}{ks:List κ}{k:κ}{kk:Bool}
def yZ(h:kk=true↔k∈ks):decide (k∈ks)=kk:=by
 cases kk with
 |true=>exact decide_eq_true<|h.mp rfl
 |false=>exact decide_eq_false λz=>by cases h.mpr z
def aKl(h:kk=true↔k∈ks)(hu:X.A.units+2<AR)(ha:PEd X sd a (.val<|hk.dat k))(hb:PDc X sd b hk ks ds)(hm:AY .In b=false:=by with_unfolding_all rfl):PEd X sd (.Compare a [.In] [b] pos) (.val<|.bl kk):=PEd.cast (aPd hu ha hb hm) (by rw[yZ h])
def aLw(h:kk=true↔k∈ks)(hu:X.A.units+2<AR)(ha:PEd X sd a (.val<|hk.dat k))(hb:PDc X sd b hk ks ds)(hm:AY .In b=false:=by with_unfolding_all rfl):PTd X sd (.Compare a [.In] [b] pos) kk:=PTd.cast (aLE hu ha hb hm)<|yZ h
def aCt(h:kk=true↔k∈ks)(hu:X.A.units+2<AR)(ha:PEd X sd a (.val<|hk.dat k))(hb:PDc X sd b hk ks ds)(hm:AY .NotIn b=false:=by with_unfolding_all rfl):PTd X sd (.Compare a [.NotIn] [b] pos) (!kk):=PTd.cast (aIy hu ha hb hm) (by rw[yZ h])
end
def aCV(bs:List Bool):((bI bs.length).any λi=>(bs[i]?).getD false)=bs.any id:=by
 apply gY.mpr;simp only[fW,bR,id_eq]
 constructor
 ·rintro⟨i,hi,h⟩;exact⟨bs[i],fJ hi,by simpa[hi] using h⟩
 ·rintro⟨b,hb,h⟩;obtain⟨i,hi,rfl⟩:=cP hb;exact⟨i,hi,by simpa[hi] using h⟩
variable {X:Cx}{sd:List Slot}{e:Expr}{pos:Pos}
def aFV(hc:X.calm=true):mG X (.builtin "any") (λxs H Q=>∃ (a:BZ) (bs:List Bool),xs=[.ref a]/\SqL X.K H a (bs.map V.bl)/\Q (.bl<|bs.any id) H):=by
 intro pins s σ H xs us Q I r h;obtain⟨a,bs,rfl,ha,q⟩:=h;obtain⟨u,rfl,ru⟩:=oX r;cases ru;obtain⟨its,rv,p,hz⟩:=I.list ha;have hl:=rv.length;rw[aA] at hl;have isl:=p.isList;have alt:a<s.heap.objs.size:=by obtain⟨o,ho,_⟩:=isl;exact aM ho
 refine call_any_walk<|Au isl ?_;refine⟨s.heap.objs.size,[s.heap.objs.size,a],[s.heap.objs.size],its.toArray.size,_,_,λi=>(bs[i]?).getD false,rfl,Walks.list (A:=X.A.in1) (I.ok.hd hc) _ a (bC alt) its.toArray,⟨⟨_,aR _ rfl,rfl,rfl⟩,isl.push _⟩,λi v s' Q' E' hP hQ=>?_,λh' tk hk=>?_⟩
 ·obtain⟨b,e,rfl⟩:=aCv rv (by simpa using hP);simp only[e,aIZ] at hQ;exact Ac hQ
 ·have e:((bI its.toArray.size).any λi=>(bs[i]?).getD false)=bs.any id:=by rw[bB,<-hl];exact aCV bs
  rw[e];refine⟨.bl<|bs.any id,H,I.kept λb o g=>hk b o (λz=>?_)<|aD _ g,rfl,q⟩;have zb:=by simpa using z
  exact bC (aM g) zb
def aMd{p:Pos}{bs:List Bool}(hg:Gl X "any")(hm:X.mg "any"=none)(ha:PEd X sd e (.bor<|bs.map D.bl))(hc:X.calm=true:=by rfl)(hst:AE [e] X.env=(false,eval e X.env)::AE [] X.env:=by rfl):PEd X sd (.Call (.Name "any" p) [e] [] pos) (.val (.bl<|bs.any id)):=
 lG (he:=hst) (aFV hc) hg hm boot_any (aC ha aN trivial hst) λσ F H vs Q S q k=>by
  cases q with
  |cons q1 q2=>cases q2;obtain⟨p,xs,rfl,hp,rl,_⟩:=q1;exact⟨p,bs,rfl,.of (by rw[<-rl.bls];exact hp),k _ F H S (Same.refl _)<|by simp only[ResOk,Rep]⟩
abbrev Bk:=S45.Ent (List<|List Int)
def enD(e:Bk):D:=.tup [.int e.1,.tup<|cS e.2.1,.tup<|e.2.2.map bF]
structure BkOk(p:Int×Int)(L:List SK)(b:Int)(B:List Bk):Prop where
 len:B.length<=700
 ent:∀e∈B,e.1=S45.prQ (prK L) e.2.1/\e.1<=b/\fO L e.2.1/\e.2.1.length<=400/\e.2.2=S45.tabQ (fG p L) (bU p) e.2.1
 nd:(B.map λe=>e.2.2).Nodup
noncomputable def jE(nb:List Nat):List Key:=nb.map λ(i:Nat)=>(Sum.inl (i:Int):Key)
def oE(nb:List Nat):tD (jE nb)=.tup (cS nb):=by unfold tD jE cS;rw[aW];rfl
theorem sI:∀ {a b:List Nat},jE a=jE b->a=b
 |[],[],_=>rfl
 |[],_::_,h=>by cases h
 |_::_,[],h=>by cases h
 |x::a,y::b,h=>by
  injection h with h1 h2
  have:=Sum.inl.inj h1;rw[sI h2];congr 1;lia
def ksB(p:Int×Int)(L:List SK)(B:List Bk):List (List Key):=B.map λe=>jE<|nrQ p L e.2.1
def pcD(P:AF)(w:AL)(K:aB)(p:Int×Int)(L:List SK)(B:List Bk):D:=gD (hkT P w) K (ksB p L B)<|B.map λe=>.int e.1
theorem aKa(L:List SK)(row:List Nat):aNa (aKz L row)=S45.prQ (prK L) row:=by
 unfold S45.prQ aKz prK;generalize row.map (λt=>(L.getD t AN).2)=xs
 have g:∀n,aNa (xs.take n)=(xs.take n).sum:=λn=>by
  induction n with
  |zero=>rfl
  |succ n ih=>
   by_cases h:n<xs.length
   ·rw[aAs 0 h,aGx,ih];simp
   ·have e:xs.take (n+1)=xs.take n:=by rw[eZ<|by lia,eZ<|by lia]
    rw[e,ih]
 have:=g xs.length;rw[dA] at this;exact this
variable {b:Int}{B:List Bk}
def BkOk.nr(hp:p∈bS)(S:StkOk p L)(O:BkOk p L b B){e:Bk}(he:e∈B):NOk p (nrQ p L e.2.1)/\lJ p (nrQ p L e.2.1)=e.2.2:=by obtain⟨_,_,h3,_,h5⟩:=O.ent e he;obtain⟨q1,q2⟩:=vG hp (λs hs=>(S.st s hs).1) h3;exact⟨q1,q2.trans h5.symm⟩
def BkOk.inj(hp:p∈bS)(S:StkOk p L)(O:BkOk p L b B)(hx:x∈B)(hy:y∈B)(h:nrQ p L x.2.1=nrQ p L y.2.1):x=y:=by
 have e:x.2.2=y.2.2:=by rw[<-(O.nr hp S hx).2,<-(O.nr hp S hy).2,h]
 obtain⟨i,hi,ex⟩:=cP hx;obtain⟨j,hj,ey⟩:=cP hy;have:=(fI (h₀:=by rw[aA];exact hi) (h₁:=by rw[aA];exact hj) O.nd).mp (by rw[fA,fA,ex,ey,e]);subst this;exact ex.symm.trans ey
def aNU:List D->R->Prop:=λds r=>∃p L b B e,StkOk p L/\BkOk p L b B/\e∈B/\ds=[.lst<|L.map skD,.int b,.int e.1,.tup<|cS e.2.1]/\r=.val (.bl true)
def aSd(P:AF)(w:AL)(K:aB):List D->R->Prop:=λds r=>∃p L b B,p∈bS/\StkOk p L/\BkOk p L b B/\ds=[dI p,.lst<|L.map skD,.lst (L.map<|mvD p),.int b,.lst<|B.map enD]/\r=.val (pcD P w K p L B)
def aJb(p:Int×Int)(L:List SK)(B:List Bk)(nb:List Nat)(m:Int):Bool:=B.any λe=>decide (nrQ p L e.2.1=nb)&&decide (e.1<=m)
def aFk(P:AF)(w:AL)(K:aB):List D->R->Prop:=λds r=>∃p L b B nb m,p∈bS/\StkOk p L/\BkOk p L b B/\ds=[pcD P w K p L B,.tup<|cS nb,.int m]/\r=.val (.bl<|aJb p L B nb m)
def aJd(p:Int×Int)(L:List SK)(b:Int)(B:List Bk):Bool:=B.all λe=>(bI L.length).all λk=> !decide (e.1+prK L k<=b)||aJb p L B (hX (jA p (L.getD k AN).1)<|nrQ p L e.2.1) (e.1+prK L k)
def aFh(P:AF)(w:AL)(K:aB):List D->R->Prop:=λds r=>∃p L b B,p∈bS/\StkOk p L/\BkOk p L b B/\ds=[.lst (L.map<|mvD p),.int b,pcD P w K p L B]/\r=.val (.bl<|aJd p L b B)
def aJs:List D->R->Prop:=λds r=>∃p L b B,BkOk p L b B/\0<=b/\ds=[.int b,.lst<|B.map enD]/\r=.val (.bl (B.any λe=>decide<|e.2.1=[]))
def aJh:List D->R->Prop:=λds r=>∃p L b B,p∈bS/\StkOk p L/\(L.map λs=>sqD s.1).Nodup/\BkOk p L b B/\0<=b/\ds=[dI p,.lst<|L.map skD,.int b,.lst<|B.map enD]/\r=.val (.bl<|(B.any λe=>decide<|e.2.1=[])&&aJd p L b B)
def aFA(hp:p∈bS)(S:StkOk p L)(O:BkOk p L b B):((B.any λe=>decide<|e.2.1=[])&&aJd p L b B)=true↔S45.HoldsP L.length (prK L) (fG p L) b B:=by
 rw[bL,fW];refine and_congr ⟨λ⟨e,h1,h2⟩=>⟨e,h1,of_decide_eq_true h2⟩,λ⟨e,h1,h2⟩=>⟨e,h1,decide_eq_true h2⟩⟩ ?_;unfold aJd;rw[cZ];refine⟨λh e he k hk hle=>?_,λh e he=>?_⟩
 ·have:=cZ.mp (h e he) k<|bR.mpr hk;rw[decide_eq_true hle] at this;obtain⟨x,x1,x2⟩:=fW.mp this;rw[bL] at x2;have y1:=of_decide_eq_true x2.1;refine⟨x,x1,?_,of_decide_eq_true x2.2⟩;obtain⟨n1,n2⟩:=O.nr hp S he;have Ok:=(S.st _<|DL.getD_mem (d:=(AN)) hk).1;rw[<-(O.nr hp S x1).2,y1,xV hp Ok n1,n2];rfl
 ·rw[cZ];intro k hk;have hk:=bR.mp hk
  by_cases hle:e.1+prK L k<=b
  ·obtain⟨x,x1,x2,x3⟩:=h e he k hk hle;obtain⟨n1,n2⟩:=O.nr hp S he;have Ok:=(S.st _<|DL.getD_mem (d:=(AN)) hk).1
   have:aJb p L B (hX (jA p (L.getD k AN).1) (nrQ p L e.2.1)) (e.1+prK L k)=true:=fW.mpr ⟨x,x1,by
    rw[bL];refine⟨decide_eq_true<|aCa hp (O.nr hp S x1).1 (aEB hp Ok n1) ?_,decide_eq_true x3⟩;rw[(O.nr hp S x1).2,xV hp Ok n1,n2,x2]
    rfl⟩
   rw[this,Bool.or_true]
  ·rw[decide_eq_false hle];rfl
variable {prog:AF}{w:AL}{A:CA}{E:BX->BY->Prop}{s:BY}{r:BZ}{n:Nat}{t u v:Tok}
theorem aAG(hh:A.handled=none)(ir:IsRange s.heap r 0 (n:Int) 1 t u v)(hn:n<=1000)(q:∀ (h':CB) (tk:Nat) (acc:Array BX),(∀b o,s.heap.get? b=some o->h'.get? b=some o)->ItemsOf (λi v=>∃t,v=.int (0+i*1) t) acc n->Q acc.toList {s with heap:=h',toks:=tk}):AH (AD prog w) A (collect<|.ref r) Q E s:=by
 have sz:Builtin.Range.rangeSize 0 (n) 1=(n):=by
  rw[rangeSize_one]
  split<;>lia
 have fin:∀ (h':CB) (tk:Nat) (acc:Array BX) (c':Nat),(∀b o,s.heap.get? b=some o→h'.get? b=some o)→h'.get? s.heap.objs.size=some {cls:= .type "list",dict:=none,data:= .seq acc c',slots:= #[]}→ItemsOf (fun i v=>∃t,v= .int (0+i * 1) t) acc n→AH (AD prog w) A (do
   let o <-load s.heap.objs.size
   match o.data with
   |.seq xs _=>pure xs.toList
   |_=>unsupported "internal:collect") Q E {s with heap:=h',toks:=tk}:=λh' tk acc c' k1 k2 k3=>AA (wpAny_load k2 (AB (q h' tk acc k1 k3)))
 have new:(s.heap.push {cls:=.type "list",data:=.seq ([]).toArray}).get? s.heap.objs.size=some {cls:=.type "list",data:=.seq #[]}:=aR _ rfl;have main:=wpAny_extend_range (prog:=prog) (w:=w) (s:={s with heap:=s.heap.push {cls:=.type "list",data:=.seq ([]).toArray}}) (R:=λ(x) (st)=>∃ (h':CB) (tk:Nat) (acc:Array BX) (c':Nat),x=.ok (.ret<|.ref s.heap.objs.size)/\st={s with heap:=h',toks:=tk}/\(∀b o,s.heap.get? b=some o->h'.get? b=some o)/\h'.get? s.heap.objs.size=some {cls:=.type "list",dict:=none,data:=.seq acc c',slots:= #[]}/\ItemsOf (λi v=>∃t,v=.int (0+i*1) t) acc n) hh (aD _ ir) (small_one (by lia) (by lia) (by lia)<|by lia) sz (by lia) s.heap.objs.size (.ref s.heap.objs.size) 0 new λh' tk acc c' k1 k2 k3=>⟨h',tk,acc,c',rfl,rfl,λb o g=>k1 b o (bC<|aM g)<|aD _ g,k2,k3⟩
 refine AA (wpAny_runValue<|An entry_proto_collect' ?_);refine AA (AO<|AB ⟨BO aAN _,An entry_list_iadd' ?_⟩);rw[Around.under_plainId aAN _];refine Ak main (λz st x=>?_) λz st x=>?_
 ·cases z with
  |done f=>obtain⟨h',tk,acc,c',e,rfl,k1,k2,k3⟩:=x;cases e;exact fin h' tk acc c' k1 k2 k3
  |again c1=>refine⟨x.1,BK x.2 λy st y2=>?_⟩;obtain⟨h',tk,acc,c',rfl,rfl,k1,k2,k3⟩:=y2;exact fin h' tk acc c' k1 k2 k3
 ·obtain⟨_,_,_,_,e,_⟩:=x;cases e
def aAI(r:BZ)(n:Nat)(t u v:Tok)(hn:n<=1000):Meets (Builtin.«tuple.__new__» ⟨[.type "tuple",.ref r],[]⟩) (λA R s=>A.handled=none/\IsRange s.heap r 0 (n:Int) 1 t u v/\∀ (h':CB) (tk:Nat) (acc:Array BX),(∀b o,s.heap.get? b=some o->h'.get? b=some o)->ItemsOf (λi v=>∃t,v=.int (0+i*1) t) acc n->R (.ok (.ret<|.ref h'.objs.size)) {s with heap:=h'.push {cls:=.type "tuple",data:=.seq acc},toks:=tk}):=
 .of_wp λprog w A R s h=>by
  obtain⟨hp,gn,dr,tk,os⟩:=s;obtain⟨hh,ir,q⟩:=h;have a1:=sub_tuple_self;have a2:=init_tuple_lookup;have a3:=madeHere_tuple;have ty:Shared.TypeIs ⟨hp,gn,dr,tk,os⟩ (.ref r) "range":=⟨_,ir,rfl⟩;have hh1:A.in1.handled=none:=hh
  wp_walk using AutoSeq1.wpAny_loadPart' ir,wpAny_typeOf ty,aAG hh1 ir hn
  intro h' tk' acc k1 k2;refine AA (m:=Builtin.Tuple.tupleExact acc.toList.toArray) ?_;unfold Builtin.Tuple.tupleExact;have e:acc.toList.toArray=acc:=by simp
  rw[e];exact AO (AB ⟨_,rfl,q h' tk' acc k1 k2⟩) (show acc.size<=AM by rw[k2.1];exact cX<|gG hn)
theorem zY(hh:A.handled=none)(ir:IsRange s.heap r 0 (n:Int) 1 t u v)(hn:n<=1000)(q:∀ (h':CB) (tk:Nat) (acc:Array BX),(∀b o,s.heap.get? b=some o->h'.get? b=some o)->ItemsOf (λi v=>∃t,v=.int (0+i*1) t) acc n->Q (.ref h'.objs.size) {s with heap:=h'.push {cls:=.type "tuple",data:=.seq acc},toks:=tk}):AH (AD prog w) A (call (.type "tuple") [.ref r]) Q E s:=
 callType_new F.called_tuple (by decide) (F.typeCall_tuple_1 _) (F.newCall_tuple_1 _) (λobj=>F.args_object_init_2 obj _) F.entry_tuple_new (aAI r n t u v hn) ⟨hh,ir,λh' tk acc k1 k2=>⟨⟨_,aR _ rfl,rfl⟩,q h' tk acc k1 k2⟩⟩
theorem vE{p p2 q2:Pos}(hg:Gl X "tuple")(hm:X.mg "tuple"=none)(hg2:Gl X "range")(hm2:X.mg "range"=none)(ha:PEd X sd e (.val<|.int (n:Int)))(h1:n<=1000)(hc:X.calm=true:=by rfl) (hst:AE [e] X.env=(false,eval e X.env)::AE [] X.env:=by rfl) (hst2:AE [.Call (.Name "range" p2) [e] [] q2] X.env=(false,eval (.Call (.Name "range" p2) [e] [] q2) X.env)::AE [] X.env:=by rfl):PEd X sd (.Call (.Name "tuple" p) [.Call (.Name "range" p2) [e] [] q2] [] pos) (.val<|.tup (cS<|bI n)):=.mk λσ F H S pins s I=>by
 refine Ai (mM I hg hm PyProof.Rows.boot_tuple<|PyProof.Rows.callWith_type1 ?_ hst2 rfl);refine Calls.spliced_cons (Ai<|mM I hg2 hm2 boot_range ?_);refine PyProof.Rows.callWith_type1 (thn ((fN fH pa_nil hst) q2 pins s σ H (λus H1=>∃v F1,us=[v]/\StF X.K X.B₀ F1 H1 σ sd/\Same F F1/\ResOk X.K F1 H1 sd (.val (.int<|n)) v) I<|(ha σ F H S).imp λv H1 ⟨F1,S1,s1,q1⟩=>⟨v,F1,rfl,S1,s1,q1⟩) λus s1 hus=>?_) hst rfl;obtain⟨ws,H1,I1,rv,v,F1,rfl,S1,sF,q1⟩:=hus;obtain⟨u,rfl,ru⟩:=oX rv;subst q1;obtain⟨t,rfl⟩:=ru;refine call_range_1<|Calls.spliced_nil ?_;refine zY (I1.ok.hd hc) (IsRange.new ..) h1 λh' tk acc kp it=>?_
 have kp2:=λb o g=>kp b o<|aD _ g
 have le:=cX<|aM (kp s1.heap.objs.size _<|aR _ rfl);have hD:=I1.hok.fresh le;have ln:acc.toList.length=n:=by exact it.1
 have vl:=by
  have g:∀ (l:List BX) (f:Nat->Int),(∀ (j:Nat) (v:BX),l[j]? =some v->∃t,v=.int (f j) t)->Vals ((bI l.length).map λ(k)=>V.int<|f k) l:=λl=>by
   induction l with
   |nil=>intro f _;exact .nil
   |cons x l ih=>intro f h;obtain⟨t,e⟩:=h 0 x rfl;rw[bZ,List.range_succ_eq_map,bG,aW];exact .cons ⟨t,e⟩ (ih (λk=>f<|k+1) λj v hv=>h (j+1) v<|by simpa using hv)
  have:=g acc.toList (λk=>(k)) λj v hv=>by obtain⟨t,e⟩:=it.2 j v (by rw[<-cU];exact hv);exact⟨t,by rw[e];congr 1;lia⟩
  rw[ln] at this;exact this
 have I3:Inv X pins σ (upd H1 h'.objs.size<|.tup ((bI n).map λ(k:Nat)=>V.int<|k)) {s1 with heap:=h'.push {cls:=.type "tuple",data:=.seq acc},toks:=tk}:=
  I1.laid (λb o g=>aD _<|kp2 b o g) le ⟨by rw[aA,eG];exact cX<|gG h1,acc.toList,vl,by simpa using IsTupD.new h' acc⟩
 obtain⟨S4,s4⟩:=S1.lay (o:=.tup ((bI n).map λ(k:Nat)=>V.int<|k)) hD trivial;refine⟨.ref h'.objs.size,_,I3,rfl,_,S4,sF.trans s4,?_⟩;refine⟨_,_,rfl,bX,?_⟩
 have gg:∀ks:List Nat,RepL X.K (upd F1 h'.objs.size<|.tup ((bI n).map λ(k:Nat)=>V.int<|k)) (ks.map λ(k:Nat)=>D.int<|k) (ks.map λ(k:Nat)=>V.int<|k):=λks=>by
  induction ks with
  |nil=>exact .nil
  |cons k ks ih=>exact .cons (by simp only[Rep]) ih
 exact gg _
noncomputable def mx1(c:Int)(k:Nat):Int:=(c%2147483647+69621*(k:Int)+7919)*48271%2147483647
def mx2(c:Int)(k:Nat):Int:=mx1 c k*mx1 c k%2147483629
def mxS(c:Int)(k:Nat):Int:=if c%2=0 then c / ((2^(8*k+1):Nat):Int) else(mx2 c k*mx2 c k+16807*(k:Int))%2147483587
def CMx:List D->R->Prop:=λds r=>∃ (c:Int) (k:Nat),ds=[.int c,.int (k:Int)]/\k<=400/\r=.val (.int<|mxS c k)
def aNP:List D->R->Prop:=λds r=>∃p q ws,rA p q/\Fil p ws/\ds=[dI p,sqD q,bF ws]/\r=.val (.int<|nwQ p q ws)
def aJw:List D->R->Prop:=λds r=>∃p q ws,rA p q/\Fil p ws/\ds=[dI p,sqD q,bF ws]/\r=.val (bF<|onQ p q ws)
def drQ(p:Int×Int)(c:Int):SQ:=((mxS c 1%10).toNat,mxS c 2%p.2,mxS c 4%p.2,mxS c 3%((2^p.1.toNat:Nat):Int))
def aNX:List D->R->Prop:=λds r=>∃p c,p∈bS/\ds=[dI p,.int c]/\r=.val (sqD<|drQ p c)
theorem aOL(hp:p∈bS)(c:Int):rA p (drQ p c):=by
 obtain⟨h1,h2,h3,h4,h5⟩:=yN p hp;have p20:(0)<p.2:=by omega
 have m0:=pw0 p.1.toNat;exact⟨hp,by show(mxS c 1%10).toNat<10;lia,⟨dU _<|lA p20,dE _ p20⟩,⟨dU _<|lA p20,dE _ p20⟩,⟨dU _<|lA m0,dE _ m0⟩⟩
def lM{α:Type}{f:α->D}{L:List α}{t:Nat}(h:(L.map f)[t]? =some d):∃x,L[t]? =some x/\d=f x/\L.take (t+1)=L.take t++[x]:=by rw[aY] at h;obtain⟨x,h1,h2⟩:=eX.mp h;exact⟨x,h1,h2.symm,by rw[gB,h1];rfl⟩
theorem aMl{α:Type}{L:List α}(nd:L.Nodup){t:Nat}{x:α}(h:L[t]? =some x):x∉L.take t:=λz=>by
 obtain⟨i,hi,e⟩:=cP z;have il:i<t:=by rw[cT] at hi;lia
 rw[vJ] at e;obtain⟨t1,e2⟩:=aE.mp h;have:=(fI nd).mp<|e.trans e2.symm;lia
def aGA(hp:p∈bS):(bU p).Nodup:=by
 have e:(bU p).map (pD p)=bI (bU p).length:=by
  refine lO (by simp) λi h1 h2=>?_
  have hi:=by simpa using h1
  have:=yL hp hi;simpa[hi] using this
 have nd:((bU p).map<|pD p).Nodup:=by rw[e];exact oY
 exact List.Pairwise.of_map _ (λa b h z=>h<|by rw[z]) nd
def inK(ws:List Int):List Key:=ws.map λ(i:Int)=>(Sum.inl i:Key)
def aHo(ws:List Int):tD (inK ws)=bF ws:=by unfold tD inK bF;rw[aW];rfl
theorem aBj:∀ {a b:List Int},inK a=inK b->a=b
 |[],[],_=>rfl
 |[],_::_,h=>by cases h
 |_::_,[],h=>by cases h
 |x::a,y::b,h=>by
  injection h with h1 h2
  rw[aBj h2,Sum.inl.inj h1]
theorem vF:∀ {a b:List (List Int)},a.map inK=b.map inK->a=b
 |[],[],_=>rfl
 |[],_::_,h=>by cases h
 |_::_,[],h=>by cases h
 |x::a,y::b,h=>by
  injection h with h1 h2
  rw[vF h2,aBj h1]
def mgD(P:AF)(w:AL)(K:aB)(p:Int×Int)(s:SK):D:=gD (hkT P w) K ((bU p).map inK) ((bU p).map λws=>bF<|onQ p s.1 ws)
def aQA(P:AF)(w:AL)(K:aB):List D->R->Prop:=λds r=>∃p L,p∈bS/\StkOk p L/\ds=[dI p,.lst<|L.map skD]/\r=.own (L.map<|mgD P w K p)
def aHb(L:List SK)(q:SQ):Bool:=(L.map λs=>sqD s.1).any λz=>deq z<|sqD q
def aLe(h:aHb L q=false):sqD q∉L.map λs=>sqD s.1:=λhm=>by
 have:=aKq.mp h _ hm
 exact this (xU _ (by
  show pl (jT _ _ _ _)=true;unfold jT
  split
  ·rfl
  ·split<;>rfl))
namespace S45
section
variable {T:Type}[DecidableEq T]{n:Nat}{pr:Nat->Int}{beh:Nat->T->T}{t0:T}
theorem put_len(t:Int)(row:List Nat)(tab:T)(ly:Lay T):∀ (m:Nat) (j:Int),(put pr beh t row tab m ly j).length<=(ly j).length+m
 |0,j=>aK _
 |m+1,j=>by
  have ih:=put_len t row tab ly m j;show(if j=t+pr m then put pr beh t row tab m ly j++[(row++[m],beh m tab)] else put pr beh t row tab m ly j).length<=_
  split
  ·rw[aV];show _+1<=_;lia
  ·lia
def Bd(n:Nat)(s:List (Ent T)×Lay T):Prop:=∀j,(s.2 j).length<=1+n*s.1.length
theorem aPF{t:Int}{s:List (Ent T)×Lay T}(e:List Nat×T)(h:Bd n s):Bd n (one n pr beh t s e):=by
 unfold one
 split
 ·intro j;have:=put_len (pr:=pr) (beh:=beh) t e.1 e.2 s.2 n j;have:=h j;show(put pr beh t e.1 e.2 n s.2 j).length<=1+n*(s.1++[_]).length;rw[aV];show _<=1+n*(s.1.length+1);rw[Nat.mul_succ];lia
 ·exact h
theorem fold_bd{t:Int}:∀ {rest:List (List Nat×T)}{s:List (Ent T)×Lay T},Bd n s->Bd n (rest.foldl (one n pr beh t) s)
 |[],_,h=>h
 |e::rest,s,h=>fold_bd (s:=one n pr beh t s e)<|aPF e h
theorem aKk:∀t:Nat,Bd n (run n pr beh t0 t)
 |0=>λj=>by
  show(if j=0 then[(([]),t0)] else[]).length<=_
  split
  ·exact lR _ _
  ·exact bM _
 |t+1=>fold_bd<|aKk t
def Ok.take(hp:∀k,k<n->1<=pr k){t:Int}(ht:0<=t):∀ (m:Nat) {rest:List (List Nat×T)}{s:List (Ent T)×Lay T},Ok n pr beh t0 t rest s->Ok n pr beh t0 t (rest.drop m) ((rest.take m).foldl (one n pr beh t) s)
 |0,_,_,o=>o
 |_+1,[],_,o=>o
 |m+1,e::rest,s,o=>Ok.take hp ht m<|o.step hp ht
theorem len_pr:∀ (row:List Nat),(∀k∈row,1<=pr k)->(row.length:Int)<=prQ pr row
 |[],_=>kJ _
 |k::row,h=>by
  have:=len_pr row λj hj=>h j<|aF _ hj
  have h1:=h k aG;show((row.length+1))<=(pr k::row.map pr).sum;rw[aQd];have:prQ pr row=(row.map pr).sum:=rfl;lia
end
end S45
abbrev aQr:=List Bk×S45.Lay (List<|List Int)
def eD(x:List Nat×List (List Int)):D:=.tup [.tup<|cS x.1,.tup<|x.2.map bF]
def lyD(s:aQr):Int->List D:=λj=>(s.2 j).map eD
noncomputable def tbK(t:List (List Int)):List (List Key):=t.map inK
def aNY(t:List (List Int)):D.tup ((tbK t).map tD)=.tup (t.map bF):=by
 unfold tbK;rw[aW];congr 1;refine bQ λws _=>?_
 exact aHo ws
def ksE(B:List Bk):List (List<|List Key):=B.map λe=>tbK e.2.2
def StkOk.pr(S:StkOk p L):∀k,k<L.length->1<=prK L k:=λk hk=>(S.st _<|DL.getD_mem hk).2.1
def sG(hp:p∈bS)(S:StkOk p L)(h:fO L row):∀ws∈S45.tabQ (fG p L) (bU p) row,ws∈bU p:=λws hw=>by obtain⟨q1,q2⟩:=vG hp (λs hs=>(S.st s hs).1) h;rw[<-q2] at hw;obtain⟨i,hi,rfl⟩:=aJ.mp hw;exact DL.getD_mem<|q1.2 i hi
def aAb(hp:p∈bS)(S:StkOk p L)(h:fO L row):(S45.tabQ (fG p L) (bU p) row).length<=64:=by obtain⟨q1,q2⟩:=vG hp (λs hs=>(S.st s hs).1) h;rw[<-q2];unfold lJ;rw[aA,q1.1];exact jR hp
end DL
namespace L2
open PySem PySem.Spec PyProof.Rows
end L2
namespace DL
open PySem PySem.Spec PyProof.Rows L2
variable {p:Int×Int}{L:List SK}{b:Int}{B C:List Bk}
def aQm(p:Int×Int)(L:List SK)(b:Int)(B:List Bk):Bool:=(B.any λe=>decide<|e.2.1=[])&&aJd p L b B
def aQX(hp:p∈bS)(S:StkOk p L)(O:BkOk p L b B)(h:S45.HoldsP L.length (prK L) (fG p L) b B):aQm p L b B=true:=(aFA hp S O).mpr h
section
variable {prog:AF}{w:AL}{K:Type}[DecidableEq K]{knd:HeapKind prog w K}{A:CA}{E:BX->BY->Prop}{s:BY}
theorem aAE{p:BZ×BX}(hu:knd.room A)(hkey:knd.is s.heap k a)(hm:s.heap.DictOfH knd d xs)(hj:xs[j]? =some (k,p))(hQ:∀h',h'.DictOfH knd d (xs.eraseIdx j)->Heap.SameBut d s.heap h'->Q (some<|entryOfKey knd (k,p)) {s with heap:=h',toks:=s.toks+knd.draws k})(hsz:xs.length<=AM):AH (AD prog w) A (Builtin.Dict.takeOut d<|.ref a) Q E s:=by
 obtain⟨o,es,ep,ho,hc,hd,he,his,hn⟩:=hm;have hes:es.size<=AM:=by have e:=BM he;lia
 unfold Builtin.Dict.takeOut
 try with_reducible refine AV ?_
 refine AA<|knd.pyHash hu hkey ?_;refine AA<|wpAny_dictFind_heap hu hkey ho hd he his hn (λno=>absurd hj<|no j p) λj' p' hj'=>?_
 have ej:j'=j:=by obtain⟨i1,e1⟩:=aE.mp hj';obtain⟨i2,e2⟩:=aE.mp hj;refine(fI (h₀:=by rw[aA];exact i1) (h₁:=by rw[aA];exact i2) hn).mp ?_;rw[fA,fA,e1,e2]
 subst ej;rw[hj] at hj';cases hj';refine AA<|Ad ho hd ?_;rw[entry_at he j',hj];refine AA (wpAny_updateDictKeys (hz:=hes) ho hd<|AB (hQ _ ⟨_,_,ep+1,eE _ ho (Obj.isFreed_of_dict<|Obj.data_mapDictKeys hd _),hc.mapDictKeys _,Obj.data_mapDictKeys hd _,?_,λx hx=>?_,?_⟩<|Heap.SameBut.update ..))
 ·have:(es.eraseIdxIfInBounds j').toList=es.toList.eraseIdx j':=by obtain⟨l⟩:=es;simp
  rw[this,he,uB]
 ·exact knd.keeps (his x<|jY hx) ho hd<|Heap.SameBut.update ..
 ·exact hn.sublist<|(fT _ _).map _
end
section
variable {prog:AF}{w:AL}{K:Type}[DecidableEq K](knd:HeapKind prog w K)(d a:BZ)
theorem aDe:
  MeetsIn prog w (Builtin.«dict.pop» ⟨[.ref d, .ref a],[]⟩) (fun A R s=>knd.room A.in1∧∃k xs j p,knd.is s.heap k a∧s.heap.DictOfH knd d xs∧xs.length≤AM∧xs[j]? =some (k,p)∧
   ∀h',h'.DictOfH knd d (xs.eraseIdx j)->Heap.SameBut d s.heap h'->R (.ok (.ret p.2)) {s with heap:=h',toks:=s.toks+knd.draws k}):=
 .of_wp λA R s ⟨hu,k,xs,j,p,hkey,hm,hz,hj,h⟩=>by
  refine AA ?_;refine AA<|BB hm.typeIs ?_;refine AB ?_;have hp:(keyPart<|Value.ref a).isSome=false:=rfl;obtain⟨o,es,ep,ho,hc,hd,he,his,hn⟩:=id hm;refine AA<|Ad ho hd (AA<|AB ?_)
  have ne:es.isEmpty=false:=by have e:=BM he;have:=(aE.mp hj).1;rw[Array.isEmpty_eq_false_iff_exists_mem];exact⟨es[0],Array.getElem_mem<|by lia⟩
  simp only[ne,bK,if_false];refine AA<|aAE hu hkey hm hj (λh' hm' hs'=>?_) hz;exact AA (BF<|AB ⟨_,rfl,h h' hm' hs'⟩)
end
variable {X:Cx}{pins:List (BZ×CC)}{σ:St}{H:Hp}{s:BY}{sts:List CD}
noncomputable abbrev reB(X:Cx)(B:Hp)(h:∀b o,X.H₀ b=some o->aHa o->B b=some o):Cx:={X with B₀:=B,hB:=h}
def aLX{B:Hp}{hb:∀b o,X.H₀ b=some o->aHa o->B b=some o}(I:Inv X pins σ H s):Inv (reB X B hb) pins σ H s:=
 ⟨⟨I.ok.mod,I.ok.kind,I.ok.glob,I.ok.blt,I.ok.above,I.ok.inj,I.ok.has,I.ok.cab,I.ok.hd,I.ok.frames,I.ok.stk,I.ok.exf,I.ok.bs,I.ok.bsz,I.ok.noex,I.ok.exfs,I.ok.funs,I.ok.frf⟩,I.os,I.bare,I.base,I.loc,I.cell,I.free,I.freeC,I.pin,I.hok,I.len⟩
def wC{B:Hp}{hb:∀b o,X.H₀ b=some o->aHa o->B b=some o}(I:Inv (reB X B hb) pins σ H s):Inv X pins σ H s:=
 ⟨⟨I.ok.mod,I.ok.kind,I.ok.glob,I.ok.blt,I.ok.above,I.ok.inj,I.ok.has,I.ok.cab,I.ok.hd,I.ok.frames,I.ok.stk,I.ok.exf,I.ok.bs,I.ok.bsz,I.ok.noex,I.ok.exfs,I.ok.funs,I.ok.frf⟩,I.os,I.bare,I.base,I.loc,I.cell,I.free,I.freeC,I.pin,I.hok,I.len⟩
def aMI{B:Hp}{hb:∀b o,X.H₀ b=some o->aHa o->B b=some o}{D:vL}(h:wSs (reB X B hb) sts D σ H):wSs X sts D σ H:=λpins s I=>thn (h pins s<|aLX I) λf s' q=>by
 cases f with
 |next=>obtain⟨σ',H',I',q⟩:=q;exact⟨σ',H',wC I',q⟩
 |brk=>obtain⟨σ',H',I',q⟩:=q;exact⟨σ',H',wC I',q⟩
 |cont=>obtain⟨σ',H',I',q⟩:=q;exact⟨σ',H',wC I',q⟩
 |ret u=>obtain⟨v,σ',H',I',r,q⟩:=q;exact⟨v,σ',H',wC I',r,q⟩
structure Lent(K:aB) where
 α:Type
 ad:α->BZ
 own:α->List BZ
 G:α->V->Hp->Hp->Prop
 hv:∀ {a:α}{v:V}{F H:Hp},G a v F H->v=.ref (ad a)
noncomputable def Lent.sl{K:aB}(Z:Lent K)(a:Z.α):Slot:=.ox (Z.own a)<|Z.G a
variable {K:aB}(Z:Lent K)
def spL(n:Nat)(C:Z.α->List D->(Z.α->Prop)->Prop):Sp:=λvs H Q _=>vs.length=n/\∃ (v:V) (us:List V) (F:Hp) (a:Z.α) (ds:List D) (post:Z.α->Prop),vs=v::us/\Same F H/\(∀b,b∉Z.own a->H b=F b)/\Smp H/\iB K F H (Z.sl a) (some v)/\(Z.own a).Nodup/\RepL K F ds us/\C a ds post/\(∀a',post a'->Z.ad a'=Z.ad a)/\
 ∀H',(∃F' a',post a'/\Same F F'/\Same F' H'/\Smp H'/\iB K F' H' (Z.sl a') (some v)/\(Z.own a').Nodup)->Q .non H'
def spM(n:Nat)(C:Z.α->List D->(Z.α->Prop)->Prop):Sp:=λvs H Q _=>vs.length=n/\Smp H/\∃ (v:V) (us:List V) (F:Hp) (a:Z.α) (ds:List D) (post:Z.α->Prop),vs=v::us/\Same F H/\iB K F H (Z.sl a) (some v)/\(Z.own a).Nodup/\RepL K F ds us/\C a ds post/\(∀a',post a'->Z.ad a'=Z.ad a)/\
 ∀F' H' a',post a'->Same F F'->Same F' H'->Smp H'->iB K F' H' (Z.sl a') (some v)->(Z.own a').Nodup->(∀b o,b∉Z.own a->H b=some o->H' b=some o)->(∀b o,b∉Z.own a->H b=some o->F b=none->F' b=none/\b∉Z.own a')->Q .non H'
open Classical in
noncomputable def yH(as:List BZ)(F H:Hp):Hp:=λb=>if b∈as then H b else F b
open Classical in
noncomputable def mL(as:List BZ)(F H:Hp):Hp:=λb=>if b∈as then F b else sM F H b
def nK:Same F (mL as F H):=λb o e=>by
 unfold mL
 by_cases h:b∈as
 ·rw[if_pos h];exact e
 ·rw[if_neg h];exact tO _ _ e
def sW{b:BZ}(hb:b∉as)(h:F b=none):mL as F H b=H b:=by unfold mL;rw[if_neg hb];exact tM h
def aBf{b:BZ}(hb:b∈as):yH as F H b=H b:=by unfold yH;rw[if_pos hb]
def tP{b:BZ}(hb:b∉as):yH as F H b=F b:=by unfold yH;rw[if_neg hb]
def FnOk.framedL{Z:Lent K}{C:Z.α->List D->(Z.α->Prop)->Prop}(G:FnOk P w K mg base CX0 k f fd ps (spL Z n C)):FnOk P w K mg base CX0 k f fd ps (spM Z n C):=by
 have res:∀ {F H:Hp}{a:Z.α}{v:V},Same F H->iB K F H (Z.sl a) (some v)->Same F (yH (Z.own a) F H)/\Same (yH (Z.own a) F H) H/\iB K F (yH (Z.own a) F H) (Z.sl a) (some v):=λ{F H a v} sF so=>by
  obtain⟨v',ev,ow,gg⟩:=so;refine⟨λb o e=>?_,λb o e=>?_,v',ev,λb hb=>⟨(ow b hb).1,?_⟩,λF' H' s k=>gg F' H' s λb hb ob e=>k b hb ob<|by rw[aBf hb];exact e⟩
  ·by_cases h:b∈Z.own a
   ·rw[(ow b h).1] at e;cases e
   ·rw[tP h];exact e
  ·by_cases h:b∈Z.own a
   ·rw[aBf h] at e;exact e
   ·rw[tP h] at e;exact sF b o e
  ·rw[aBf hb];exact(ow b hb).2
 refine⟨λvs H Q E h=>?_,λA outer s H args us vs Q E hr e0 hb rv h=>?_⟩
 ·obtain⟨hl,sm,v,us,F,a,ds,post,e,sF,so,nd,rl,c,hp,_⟩:=h;obtain⟨q1,q2,q3⟩:=res sF so;exact G.len vs (yH (Z.own a) F H) (λ_ _=>True) E ⟨hl,v,us,F,a,ds,post,e,q1,λb hb=>tP hb,sm.sub q2,q3,nd,rl,c,hp,λ_ _=>trivial⟩
 ·obtain⟨hl,sm,v,us',F,a,ds,post,ev,sF,so,nd,rl,c,hp,q⟩:=h;obtain⟨q1,sU,q3⟩:=res sF so;obtain⟨_,_,ow,_⟩:=id so;have nU:∀b,b∉Z.own a->F b=none->yH (Z.own a) F H b=none:=λb hbl n=>by rw[tP hbl];exact n
  have e1:aMV P w K mg base A outer s (yH (Z.own a) F H):=⟨e0.frames,e0.mod,λb o e=>⟨(e0.bs b o e).1,sU.free (e0.bs b o e).2⟩,e0.bsz,e0.funs,λb hb=>sU.free<|e0.frf b hb,λb o e=>(e0.hok b o<|sU b o e).smp (sm b o<|sU b o e),e0.bare⟩;refine BK (G.run A outer s (yH (Z.own a) F H) args us vs (λv3 F3=>v3=.non/\∃F' a',post a'/\Same F F'/\Same F' F3/\Smp F3/\iB K F' F3 (Z.sl a') (some v)/\(Z.own a').Nodup) E hr e1 hb rv ⟨hl,v,us',F,a,ds,post,ev,q1,λb hb=>tP hb,sm.sub sU,q3,nd,rl,c,hp,λH' z=>⟨rfl,z⟩⟩) λrr s' hrr=>?_
  cases rr with
  |error e=>exact hrr
  |ok flw=>
   cases flw with
   |ret u=>
    obtain⟨v3,F3,ho,ha,un,hk,ru,e3,F2,a',pa,s1,s2,sm3,so3,nd3⟩:=hrr;subst e3
    have keepF:∀b o,b∉Z.own a->H b=some o->F b=none->F3 b=none:=λb o hbl e n=>by
     cases g:s.heap.get? b with
     |none=>
      exfalso;have ob:=e0.hok b o e;have z:=sm b o e;cases o with
      |lst xs=>obtain⟨_,_,_,_,g'⟩:=ob;rw[g] at g';cases g'
      |tup xs=>obtain⟨_,_,_,oo,g',_⟩:=ob;rw[g] at g';cases g'
      |dK kvs=>obtain⟨_,_,_,_,oo,_,_,g',_⟩:=ob;rw[g] at g';cases g'
      |frz o2 u2=>obtain⟨g',_⟩:=ob;rw[g] at g';cases g'
      |ext φ=>obtain⟨_,⟨oo,g'⟩,_⟩:=ob;rw[g] at g';cases g'
      |_=>exact z
     |some ob=>exact un.free b ob g (nU b hbl n)<|by simp
    have keepO:∀b o,b∉Z.own a->H b=some o->F b=none->∀ob,s.heap.get? b=some ob->s'.heap.get? b=some ob:=λb o hbl e n ob g=>un.keep b ob g (nU b hbl n) (λhb=>by have:=e0.frf b hb;rw[e] at this;cases this)<|by simp
    have sH:∀b o,b∉Z.own a->H b=some o->mL (Z.own a) F3 H b=some o:=λb o hbl e=>by
     cases g:F b with
     |none=>rw[sW hbl<|keepF b o hbl e g];exact e
     |some o'=>have:=sF b o' g;rw[e] at this;cases this;exact nK _ _ (s2 _ _<|s1 _ _ g)
    have nl:∀ {b:BZ}{o:HO},H b=some o->¬ Wr b o->b∉Z.own a:=λe no z=>by obtain⟨_,ob,g,wr⟩:=ow _ z;rw[e] at g;cases g;exact no wr
    have nn:∀ {b:BZ},H b=none->b∉Z.own a:=λe z=>by obtain⟨_,ob,g,_⟩:=ow _ z;rw[e] at g;cases g
    have smM:Smp (mL (Z.own a) F3 H):=λb o e=>by
     by_cases hbl:b∈Z.own a
     ·unfold mL at e;rw[if_pos hbl] at e;exact sm3 _ o e
     ·cases g:F3 b with
      |some o'=>have:=nK (as:=Z.own a) (H:=H) b o' g;rw[e] at this;cases this;exact sm3 b o g
      |none=>rw[sW hbl g] at e;exact sm b o e
    have soM:iB K F2 (mL (Z.own a) F3 H) (Z.sl a') (some v):=by obtain⟨v',ev,ow3,gg⟩:=so3;refine⟨v',ev,λb hb=>⟨(ow3 b hb).1,?_⟩,λF' H' s k=>gg F' H' s λb hb ob e=>k b hb ob<|nK _ _ e⟩;obtain⟨_,ob,g,wr⟩:=ow3 b hb;exact⟨ob,nK _ _ g,wr⟩
    refine⟨.non,mL (Z.own a) F3 H,ho,ha,⟨λb o g n hb hx=>un.keep b o g (sU.free n) hb hx,λb o g n hb hx=>un.slot b o g (sU.free n) hb hx,λb o g n hx=>?_,un.there,λb xs e=>sH _ _ (nl e λz=>z) e,λb o u e=>sH _ _ (nl e λz=>z) e,λb ps e=>⟨#[],by rw[sH _ _ (nl e λz=>z) e];simp⟩⟩,λb o e=>?_,ru,?_⟩
    ·rw[sW (nn n)<|un.free b o g (sU.free n) hx];exact n
    ·have z:=smM b o e
     by_cases hbl:b∈Z.own a
     ·have e':=by unfold mL at e;rw[if_pos hbl] at e;exact e
      exact(hk b o e').smp z
     ·cases g:F3 b with
      |some o'=>have:=nK (as:=Z.own a) (H:=H) b o' g;rw[e] at this;cases this;exact(hk b o g).smp z
      |none=>
       rw[sW hbl g] at e
       have n:F b=none:=by
        cases g2:F b with
        |none=>rfl
        |some o2=>rw[s2 _ _<|s1 _ _ g2] at g;cases g
       have st:=(e0.hok b o e).smp (F:=λ_=>none) z
       have:ObjOk P w (fun _=>none) s'.heap b o:=st.stay (fun b2 u hb2 gg=>by
        rcases hb2 with rfl|hb2
        ·exact keepO _ o hbl e n u gg
        ·cases hb2) (λb2 hb2=>nomatch hb2) λb2 xs hb2=>nomatch hb2
       exact this.smp z
    ·refine q F2 (mL (Z.own a) F3 H) a' pa s1 (s2.trans nK) smM soM nd3 sH λb o hbl e n=>?_
     have n3:=keepF b o hbl e n;refine⟨s2.free n3,λhb=>?_⟩;obtain⟨_,_,ow3,_⟩:=so3;obtain⟨_,ob,g,_⟩:=ow3 b hb;rw[n3] at g;cases g
   |_=>exact hrr
theorem qU:∀ {sd:List Slot}{i:Nat}{z:Slot},(dL sd).Nodup->sd[i]? =some z->(lN z).Nodup
 |[],_,_,_,e=>by simp at e
 |y::zs,0,z,h,e=>by
  have:=by simpa using e
  subst this;exact(bD.mp<|h).1
 |y::zs,i+1,z,h,e=>qU (bD.mp<|h).2.1 (by simpa using e)
structure wL(P:AF)(w:AL)(K:aB)(Z:Lent K)(mg:Str->Option BX)(base:CB)(x:Str)(k n:Nat)(C:Z.α->List D->(Z.α->Prop)->Prop):Prop where
 ex:∃ (f:BZ) (fd:Al) (ps:List Str),mg x=some (.ref f)/\gM K (.ref f)=true/\Binds K fd ps []/\FnOk P w K mg base CX0 k f fd ps (spL Z n C)
noncomputable def aEf(Z:Lent K)(n:Nat)(a:Z.α)(ds:List D):List Slot:=Z.sl a::(ds.map Slot.val++gA (n-(ds.length+1)) .un)
def aMs{Z:Lent K}{st:CD}{C:Z.α->List D->(Z.α->Prop)->Prop}(F:Fun K x qual st f fd)(S:oN N ps (bN st))(hm:mg x=some (.ref f)) (hb:∀ (kV doc pm:BX) (an:Option BZ) (cdv ct:BX) (us:List BX),us.length=ps.length->bindArgs (fV x qual (lE st) (gU st) (bN st) .none kV doc pm an cdv ct) ⟨us,[]⟩=pure (ps.zip us))(body:∀ (cdv:BX) (A:CA) (outer:List Env) (s:BY) (H:Hp) (E:XK) (B:Hp) (hB:∀b o,H b=some o→aHa o→B b=some o),Room k (A.deeper (envOfC qual (bN st) s.heap.objs.size f cdv))→∀a ds post,ds.length+1=ps.length→C a ds post→PSd (reB (mJ CX0 P w K mg base N qual (bN st) f cdv A outer s H E).nox B hB) (aEf Z N.length a ds) (gU st) {nx:=λsd'=>∃a',post a'/\sd'[0]? =some (Z.sl a'),rt:=λ_=>False})
  (hw:∀ (a:Z.α) (v:V) (F H:Hp) (b:BZ) (o:HO),Z.G a v F H->b∈Z.own a->H b=some o->¬ aHa o):wL P w K Z mg base x (k+1) ps.length C:=by
 refine⟨f,fd,ps,hm,F.kp,F.binds hb,F.ok S (λvs H Q E h=>h.1) λcdv A outer s H vs Q E hr h=>?_⟩;obtain⟨hl,v,us,F0,a,ds,post,rfl,sF,hH,sm,so,nd,rl,c,hp,q⟩:=h;have hds:ds.length+1=ps.length:=by rw[<-rl.len];exact hl
 have hB:∀b o,H b=some o->aHa o->F0 b=some o:=λb o e no=>by
  by_cases hbl:b∈Z.own a
  ·obtain⟨_,_,_,gg⟩:=so;exact absurd no<|hw a _ F0 H b o (gg F0 H (Same.refl _) λ_ _ _ e=>e) hbl e
  ·rw[<-hH b hbl];exact e
 refine⟨_,vH,aMI (hb:=hB) ?_⟩;have hlen:N.length-(us.length+1)=N.length-(ds.length+1):=by rw[rl.len]
 have S0:StF K F0 F0 H (L2.start N (v::us)) (aEf Z N.length a ds):=by
  refine⟨Same.refl _,sF,sm,?_,?_⟩
  ·show SlotsOk K F0 _ (_::_) (some v::(us.map some++gA (N.length-(us.length+1)) none));rw[hlen];exact⟨_,_,rfl,so,qX (m:=0) rl⟩
  ·unfold aEf;rw[rD,qT,dD];exact nd
 refine(body cdv A outer s _ E F0 hB hr a ds post hds c (L2.start N (v::us)) F0 _ S0).imp ?_ ?_ (λ_ _ ⟨_,_,_,_,z⟩=>z) λ_ _ ⟨_,_,_,_,z⟩=>z
 ·rintro σ' H' ⟨sd',F',S',s',a',pa,hs⟩;obtain⟨o,h1,so'⟩:=S'.slots.get hs;obtain⟨v',rfl,ow',gg⟩:=so';have e1:=Z.hv<|gg F' H' (Same.refl _) λ_ _ _ e=>e;obtain⟨v0,ev,_,g0⟩:=so;cases ev;have e0:=Z.hv<|g0 F0 H (Same.refl _) λ_ _ _ e=>e;have evv:v'=v:=by rw[e1,e0,hp a' pa]
  subst evv;refine q H' ⟨F',a',pa,S'.base,S'.sub,S'.smp,⟨v',rfl,ow',gg⟩,?_⟩;have nd':=S'.nd;exact qU nd' hs
 ·rintro v' H' ⟨r',ro,e⟩;exact e.elim
variable {sd:List Slot}{c:Expr}{es:List Expr}{pos cp p p2:Pos}{ds:List D}{E:jJ}{k n:Nat}{f x:Str}
theorem aGc{Z:Lent X.K}{C:Z.α->List D->(Z.α->Prop)->Prop}{post:Z.α->Prop}{a:Z.α}(i:Nat)(hs:sd[i]? =some (Z.sl a))(hxi:PE X (.Name x p2) (kU i))(G:wL X.prog X.w X.K Z X.mg X.base f k n C)(hr:Room k X.A)(hg:Gl X f)(ha:PAd X sd es (ds.map R.val))(hc:C a ds post)(hp:∀a',post a'->Z.ad a'=Z.ad a)(hn:ds.length+1=n)(hE:∀a',post a'->E.nx (sd.set i<|Z.sl a'))(hdb:(f==("__debug__":Str))=false:=by decide) (he:AE (.Name x p2::es) X.env=(false,eval (.Name x p2) X.env)::AE es X.env:=by rfl) (hpl:(BH cp<|AE es X.env).any (·.1)=false:=by rfl)(hsw:Af (.Call (.Name f p) (.Name x p2::es) [] cp) none pos.line X.env=pure false:=by rfl):PSd1 X sd (.Expr (.Call (.Name f p) (.Name x p2::es) [] cp) pos) E:=.mk λσ F H S=>by
 obtain⟨fa,fd,ps,hm,hkp,bd,G⟩:=G.ex;obtain⟨o0,h1,v,h2,_⟩:=S.slots.get hs;refine(qC (aFc (FnOk.framedL G) hr hg hm hkp bd .nil aOc (fN hxi zV he) hdb he hpl) hsw).to ⟨v,by rw[h1,h2],(ha σ F H S).imp λus H1 ⟨F1,S1,s1,q1⟩=>?_⟩;have rl:=q1.vals;obtain⟨o1,g1,so⟩:=S1.slots.get hs
 have eo:=by rw[h1,h2] at g1;exact(bW.inj g1).symm
 subst eo;refine⟨by rw[dD,bZ,rl.len];exact hn,S1.smp,v,us,F1,a,ds,post,by rw[dD],S1.sub,so,qU S1.nd hs,rl,hc,hp,λF' H' a' pa s2 s3 sm so' nd kp kf=>?_⟩;have S2:=S1.le<|gS sd i;have no:=λb hb z=>iF S1.nd hs (show b∈lN (Z.sl a) from z) hb
 have S3:StF X.K X.B₀ F' H' σ (sd.set i .un):=⟨fun b o e=>s2 _ _ (S1.base _ _ e),s3,sm,S2.slots.mono s2 fun b hb=>by
  obtain⟨n1,ob,e,_⟩:=S2.slots.owns hb
  exact⟨(kf b ob (no b hb) e n1).1,λxs e'=>kp b xs (no b hb) e'⟩,S2.nd⟩
 have S4:=S3.setT i so' nd λb hb hb2=>by obtain⟨n1,ob,e,_⟩:=S2.slots.owns hb2;exact(kf b ob (no b hb2) e n1).2 hb
 rw[jD,lH g1] at S4;exact⟨_,F',S4,s1.trans s2,hE a' pa⟩
theorem aGd(W:Nat->List Slot->Prop)(h0:∃m sd0,Le sd sd0/\W m sd0)(hb:∀m sdm,W m sdm->∃t:Bool,PTd X sdm c t/\(t=false->E.nx sdm)/\(t=true->PSd X sdm body {E with nx:=λsd'=>∃m' sd2,m'<m/\Le sd' sd2/\W m' sd2,ct:=λsd'=>∃m' sd2,m'<m/\Le sd' sd2/\W m' sd2,bk:=E.nx}))(hp:PassesOwn (AD X.prog X.w) X.A X.env X.xe:=by exact PassesOwn.never):PSd1 X sd (.While c body [] pos) E:=.mk λσ F H S=>
 (aHA hp aKv vH).to (by
  obtain⟨m0,sd0,le0,q0⟩:=h0;refine⟨λm σ' H'=>∃sdm F',StF X.K X.B₀ F' H' σ' sdm/\Same F F'/\W m sdm,⟨m0,sd0,F,S.le le0,Same.refl _,q0⟩,?_⟩;rintro m σ' H' ⟨sdm,F',S',s',qm⟩;obtain⟨t,ht,h1,h2⟩:=hb m sdm qm;refine(ht σ' F' H' S').imp λb H1 ⟨eb,F1,S1,s1⟩=>?_
  subst eb;cases b with
  |false=>exact aKB ⟨sdm,F1,S1,s'.trans s1,h1 rfl⟩
  |true=>
   refine aKu ⟨λσ2 H2=>∃m' sd2 F2,m'<m/\StF X.K X.B₀ F2 H2 σ2 sd2/\Same F F2/\W m' sd2,λσ2 H2 ⟨m',sd2,F2,lt,S2,s2,w2⟩=>⟨m',lt,sd2,F2,S2,s2,w2⟩,?_⟩;refine(h2 rfl σ' F1 H1 S1).imp ?_ ?_ ?_ ?_
   ·rintro σ4 H4 ⟨sd4,F4,S4,s4,m',sd5,lt,le,q5⟩;exact⟨m',sd5,F4,lt,S4.le le,(s'.trans s1).trans s4,q5⟩
   ·exact λv H4 q=>q
   ·rintro σ4 H4 ⟨sd4,F4,S4,s4,q⟩;exact⟨sd4,F4,S4,(s'.trans s1).trans s4,q⟩
   ·rintro σ4 H4 ⟨sd4,F4,S4,s4,m',sd5,lt,le,q5⟩
    exact⟨m',sd5,F4,lt,S4.le le,(s'.trans s1).trans s4,q5⟩)
def aAW{cs:List BZ}(x:HOk P w H h)(k:∀b u,b∉cs->h.get? b=some u->h'.get? b=some u)(hn:∀b∈cs,H b=none):HOk P w H h':=λa o e=>
 (x a o e).stay (fun b u hb q=>k b u (fun z=>by
  have n:=hn b z
  rcases hb with rfl|hb
  ·rw[e] at n;cases n
  ·rw[hb] at n
   cases n) q) (λ_ q=>q) λ_ _ q=>q
variable {prog:AF}{w:AL}{A:CA}{d I:BZ}{od:CC}{es:Array DictEntry}{ep:Nat}
def aON(hh:A.handled=none)(c:od.data=.dict es ep)(ne:d≠I):Walks prog w A I [I,d] [I] es.size (λi v=>∃u,es[i]? =some u/\v=u.key) (λi h=>h.IsKeyIter I d i es.size ep/\h.get? d=some od) where
 sub:=λb hb=>aP.mpr (.inl<|aH.mp hb)
 frame:=λi h h' st k=>by obtain⟨⟨o,g,q⟩,g2⟩:=st;exact⟨⟨o,k I aG o g,q⟩,k d (by simp) od g2⟩
 item:=λi s Q E hi st q=>aAo st.1 st.2 c hi λh' st' sb=>q _ h' s.toks ⟨es[i],by simp[hi],rfl⟩ ⟨st',(sb.2 d ne).trans st.2⟩ λb o hb g=>(sb.2 b λz=>hb<|by rw[z];exact cC _).trans g
 done:=λs Q E st q=>aCA hh st.1 st.2 c (aK _) λh' eb=>q h' s.toks λb o hb g=>eb b o (λz=>hb<|by rw[z];exact cC _) g
 self:=λi s Q E st q=>wpAny_pyIter_keyiter st.1 q
def srcD(sm:(d==AX)=false)(x:od.ExactDict)(c:od.data=.dict es ep):PySem.W.KdlSrc prog w "dict" d d es.size (λi v=>∃u,es[i]? =some u/\v=u.key) (λh=>h.get? d=some od) where
 type:=λs ok=>oP ok x
 there:=λh ok=>⟨aM ok,aM ok⟩
 keep:=λh h' ok k=>k d (.inl rfl) od ok
 notList:=by decide
 notTuple:=by decide
 hint:=λA E s Q ok q=>PySem.W.kdl_hint_dict (oP ok x) q
 iter:=λA s hh ok=>⟨_,_,λE Q q=>aBV sm ok x c q,aON hh c (bC<|aM ok),⟨⟨_,aR _ rfl,rfl,rfl⟩,aD _ ok⟩⟩
section
variable {prog:AF}{w:AL}{A:CA}{I:BZ}{fp wr:List BZ}{n:Nat}{P:Nat->BX->Prop}{St:Nat->CB->Prop}{J:CB->Prop}{bt:Nat->Nat->Bool}{R:Result->BY->Prop}{S:BZ}
def aQI(prog:AF)(w:AL)(A:CA)(J:CB->Prop)(P:Nat->BX->Prop)(bt:Nat->Nat->Bool):Prop:=∀i k x y (t:BY) (Q:BX->BY->Prop) (E:BX->BY->Prop),J t.heap->P i x->P k y->Q (.bool<|bt i k) t->AH (AD prog w) A (richCompare .Lt x y) Q E t
def aKV(cs:List BZ)(J:CB->Prop):Prop:=∀h h':CB,J h->(∀b o,b∉cs->h.get? b=some o->h'.get? b=some o)->J h'
noncomputable def two2(v:BX)(c:Nat):CC:={cls:=.type "list",dict:=none,data:=.seq #[v,v] c,slots:= #[]}
theorem aFM(W:Walks prog w A.in1 I fp wr n P St)(ask:aQI prog w A.in1 J P bt)(stay:aKV (S::wr) J)(nS:S∉fp):∀ (k j:Nat) (s:BY) (v0:BX) (c:Nat),n=k+(j+1)->St (j+1) s.heap->P (Ah bt j) v0->J s.heap->s.heap.get? S=some (two2 v0 c)->(∀v h' tk,P (Ah bt<|n-1) v->(∀b o,b∉S::wr->s.heap.get? b=some o->h'.get? b=some o)->R (.ok<|.ret v) {s with heap:=h',toks:=tk})->codeAny (AD prog w) A (.builtin "min.loop" ⟨[.ref I,.none,.ref S],[]⟩) R s:=λk=>by
 have nW:=λz=>nS<|W.sub S z
 have nm:(toString "min"++toString ".loop")="min.loop":=by decide
 have upO:∀ {h:CB}{f:CC->CC}{b:BZ}{o:CC},b∉S::wr->h.get? b=some o->(h.update S f).get? b=some o:=λ{h f b o} hb g=>by rw[cJ _ _ (λz=>hb<|by rw[<-z];exact aG)];exact g
 have upF:∀ {h:CB}{f:CC->CC}{i:Nat},St i h->St i (h.update S f):=λ{h f i} st=>W.frame _ _ _ st λb hb o g=>by rw[cJ _ _ (λz=>nS<|by rw[z];exact hb)];exact g
 have sub1:∀ {b:BZ},b∉S::wr->b∉wr:=λhb z=>hb<|aF _ z
 induction k with
 |zero=>
  intro j s v0 c en st p0 hJ hS fin;have ej:n=j+1:=by lia
  refine An F.entry_min_loop ?_;refine AA<|AW hS rfl ?_;refine AA (wpAny_tryCatch<|W.done s _ _ (by rw[ej];exact st) λh1 tk k1=>?_);refine AA (wpAny_updateSeq (k1 S _ nW hS) rfl<|AA (BF<|AB ?_));exact fin v0 _ tk (by rw[ej];exact p0) λb o hb g=>upO hb<|k1 b o (sub1 hb) g
 |succ k ih=>
  intro j s v0 c en st p0 hJ hS fin;refine An F.entry_min_loop ?_;rw[Around.under_plainId F.plain_min_loop];refine AA<|AW hS rfl ?_;refine AA (wpAny_tryCatch<|W.item (j+1) s _ _ (by lia) st λv h1 tk pv st1 k1=>?_);have hS1:=k1 S _ nW hS;have hJ1:=stay _ _ hJ λb o hb g=>k1 b o (sub1 hb) g
  refine AA (m:=tryCatch (holding [v,v]<|richCompare .Lt v v0>>=_) _) (wpAny_tryCatch<|AV (AA<|ask (j+1) (Ah bt j) v v0 ⟨h1,s.gens,s.drawn,tk,s.os⟩ _ _ hJ1 pv p0 ?_));refine AA<|AV (Ac<|AA (BF<|AB ?_));have ab:Ah bt (j+1)=if bt (j+1) (Ah bt j) then j+1 else Ah bt j:=rfl
  cases q:bt (j+1) (Ah bt j) with
  |true=>rw[q,if_pos rfl] at ab;refine AA<|wpAny_updateSeq hS1 rfl (AA<|BF ?_);rw[nm];refine AB ⟨BO F.plain_min_loop _,ih (j+1) _ v _ (by lia) (upF st1) (by rw[ab];exact pv) (stay _ _ hJ1 λb o hb g=>upO hb g) (eE _ hS1 rfl) λv' h2 tk2 p2 k2=>?_⟩;exact fin v' h2 tk2 p2 λb o hb g=>k2 b o hb (upO hb<|k1 b o (sub1 hb) g)
  |false=>rw[q,if_neg bJ] at ab;simp only[bK,if_false];refine AA<|BF ?_;rw[nm];refine AB ⟨BO F.plain_min_loop _,ih (j+1) _ v0 c (by lia) st1 (by rw[ab];exact p0) hJ1 hS1 λv' h2 tk2 p2 k2=>?_⟩;exact fin v' h2 tk2 p2 λb o hb g=>k2 b o hb<|k1 b o (sub1 hb) g
theorem aDw(W:Walks prog w A.in1 I fp wr n P St)(ask:aQI prog w A.in1 J P bt)(stay:aKV (S::wr) J)(nS:S∉fp)(h0:0<n){c:Nat}(st:St 0 s.heap)(hJ:J s.heap)(hS:s.heap.get? S=some {cls:=.type "list",dict:=none,data:=.seq #[] c,slots:= #[]})(fin:∀v h' tk,P (Ah bt<|n-1) v->(∀b o,b∉S::wr->s.heap.get? b=some o->h'.get? b=some o)->R (.ok<|.ret v) {s with heap:=h',toks:=tk}):codeAny (AD prog w) A (.builtin "min.loop" ⟨[.ref I,.none,.ref S],[]⟩) R s:=by
 have nW:=λz=>nS<|W.sub S z
 have nm:(toString "min"++toString ".loop")="min.loop":=by decide
 have upO:∀ {h:CB}{f:CC->CC}{b:BZ}{o:CC},b∉S::wr->h.get? b=some o->(h.update S f).get? b=some o:=λ{h f b o} hb g=>by rw[cJ _ _ (λz=>hb<|by rw[<-z];exact aG)];exact g
 have sub1:∀ {b:BZ},b∉S::wr->b∉wr:=λhb z=>hb<|aF _ z
 refine An F.entry_min_loop ?_;refine AA<|AW hS rfl ?_;refine AA (wpAny_tryCatch<|W.item 0 s _ _ h0 st λv h1 tk pv st1 k1=>?_);have hS1:=k1 S _ nW hS;refine AA (m:=updateSeq S λ_=> #[v,v])<|wpAny_updateSeq hS1 rfl ?_;refine AB ⟨BO F.plain_min_loop _,aFM W ask stay nS (n-1) 0 _ v _ (by lia) (W.frame _ _ _ st1 λb hb o g=>?_) pv (stay _ _ hJ λb o hb g=>upO hb<|k1 b o (sub1 hb) g) (eE _ hS1 rfl) λv' h2 tk2 p2 k2=>?_⟩
 ·rw[cJ _ _ (λz=>nS<|by rw[z];exact hb)];exact g
 ·exact fin v' h2 tk2 p2 λb o hb g=>k2 b o hb (upO hb<|k1 b o (sub1 hb) g)
theorem aGv{E:BX->BY->Prop}{x:BX}(h:AH (AD prog w) A.in1 (pyIter x) (fun it t=>∃ (I:BZ) (fp wr:List BZ) (n:Nat) (P:Nat→BX→Prop) (St:Nat→CB→Prop) (J:CB→Prop) (bt:Nat→Nat→Bool),it= .ref I∧Walks prog w A.in1 I fp wr n P St∧St 0 t.heap∧(∀b∈fp,b<t.heap.objs.size)∧0<n∧aQI prog w A.in1 J P bt∧J t.heap∧aKV (t.heap.objs.size::wr) J∧
   ∀v h' tk,P (Ah bt (n-1)) v->(∀b o,b∉wr->t.heap.get? b=some o->h'.get? b=some o)->Q v {t with heap:=h',toks:=tk}) E s):
  AH (AD prog w) A (call (.builtin "min") [x]) Q E s:=by
 have nm:(toString "min"++toString ".loop")="min.loop":=by decide
 refine call_function_tree F.kind_min F.plain_min F.entry_min (F.args_min1 _) ?_;refine AA<|wpAny_of_eq rfl (AA<|AB ?_);refine AA<|Ak h (λit t hx=>?_) λ_ _ z=>z;obtain⟨I,fp,wr,n,P,St,J,bt,rfl,W,st,hfp,h0,ask,hJ,stay,q⟩:=hx;refine AA<|AO ?_;have nS:=λz=>dH _<|hfp _ z
 refine AB ⟨BO F.plain_min_loop _,aDw W ask stay nS h0 (W.frame _ _ _ st λb _ o g=>aD _ g) (stay _ _ hJ λb o _ g=>aD _ g) (aR _ rfl) λv h' tk pv k=>?_⟩;refine q v h' tk pv λb o hb g=>k b o (λz=>?_)<|aD _ g
 rcases aP.mp z with z|z
 ·exact dH _<|z▸aM g
 ·exact hb z
end
noncomputable def rkA(r:AI->Nat)(xs:Array AI)(i:Nat):Nat:=match xs[i]? with
 |some p=>r p
 |none=>0
def AscR(r:AI->Nat)(xs:Array AI)(l h:Nat):Prop:=∀i j,l<=i->i<j->j<h->rkA r xs i<rkA r xs j
def iH(h:xs[i]? =ys[j]?):rkA r xs i=rkA r ys j:=by unfold rkA;rw[h]
def eA(h:i<xs.size):rkA r xs i=r xs[i]:=by unfold rkA;rw[getElem?_pos xs i h]
structure mB(prog:AF)(w:AL)(A:CA)(E:BX->BY->Prop)(s:BY)(κ:BA)(r:AI->Nat)(a₀:Array AI):Prop where
 ask:∀ {x y:AI}{st:CF}{Q:Option Bool->CF->Prop},x∈a₀.toList->y∈a₀.toList->kindOf st=κ->Q (some (decide<|r x<r y)) st->wpS (AD prog w) A E s (lt' x y) Q st
 nd:(a₀.toList.map r).Nodup
structure SB(κ:BA)(a₀:Array AI)(st:CF):Prop where
 perm:(AK st).Perm a₀
 kind:kindOf st=κ
 failed:failedOf st=none
structure Stp(κ:BA)(a₀:Array AI)(lo hi:Nat)(st st':CF):Prop where
 sb:SB κ a₀ st'
 pend:AC st'=AC st
 keep:∀k,k<lo\/hi<=k->(AK st')[k]? =(AK st)[k]?
variable {E:BX->BY->Prop}{κ:BA}{r:AI->Nat}{a₀:Array AI}{st st':CF}
def SB.size(h:SB κ a₀ st):(AK st).size=a₀.size:=h.perm.size_eq
def SB.mem(h:SB κ a₀ st)(hi:i<(AK st).size):(AK st)[i]∈a₀.toList:=(gP.mp h.perm).mem_iff.mp<|by simp
def aQW(nd:(xs.toList.map r).Nodup)(hi:i<xs.size)(hj:j<xs.size)(hij:i≠j):rkA r xs i≠rkA r xs j:=λe=>by
 rw[eA hi,eA hj] at e;have e2:(xs.toList.map r)[i]'(by simpa using hi)=(xs.toList.map r)[j]'(by simpa using hj):=by simpa using e
 exact hij<|(fI nd).mp e2
def SB.nd(h:SB κ a₀ st)(K:mB prog w A E s κ r a₀):((AK st).toList.map r).Nodup:=(((gP.mp h.perm).map r).nodup_iff).mpr K.nd
def SB.ne(h:SB κ a₀ st)(K:mB prog w A E s κ r a₀)(hi:i<a₀.size)(hj:j<a₀.size)(hij:i≠j):rkA r (AK st) i≠rkA r (AK st) j:=
 aQW (h.nd K) (by rw[h.size];exact hi) (by rw[h.size];exact hj) hij
def Stp.refl(h:SB κ a₀ st)(lo hi:Nat):Stp κ a₀ lo hi st st:=⟨h,rfl,λ_ _=>rfl⟩
def Stp.trans{lo hi:Nat}(h:Stp κ a₀ lo hi st st')(h2:Stp κ a₀ lo hi st' st''):Stp κ a₀ lo hi st st'':=⟨h2.sb,h2.pend.trans h.pend,λk hk=>(h2.keep k hk).trans<|h.keep k hk⟩
def SB.setArr(h:SB κ a₀ st)(hp:xs.Perm (AK st)):SB κ a₀ (setArr st xs):=⟨hp.trans h.perm,h.kind,h.failed⟩
def eO(hi:i<xs.size)(h:Q xs[i] st):wpS (AD prog w) A E s (elem' xs i) Q st:=by rw[elem'_eq,getElem?_pos xs i hi];exact AJ h
def tF(K:mB prog w A E s κ r a₀)(hB:SB κ a₀ st)(hi:i<a₀.size)(hj:j<a₀.size)(h:Q (some (decide<|rkA r (AK st) i<rkA r (AK st) j)) st):wpS (AD prog w) A E s (ltAt' i j) Q st:=by
 have hi':i<(AK st).size:=by rw[hB.size];exact hi
 have hj':j<(AK st).size:=by rw[hB.size];exact hj
 refine AG<|wpS_get ?_;refine AG (eO hi'<|AG (eO hj'<|K.ask (hB.mem hi') (hB.mem hj') hB.kind ?_));rw[eA hi',eA hj'] at h;exact h
def aAg(hj:j<=xs.size)(k:Nat):rkA r (mirror xs i j<|(j-i) / 2) k=if i<=k/\k<j then rkA r xs (i+j-1-k) else rkA r xs k:=by
 have e:=getElem?_mirror_all (i:=i) hj k
 by_cases h1:i<=k/\k<j
 ·rw[if_pos h1] at e ⊢;exact iH e
 ·rw[if_neg h1] at e ⊢;exact iH e
def aAz{src d:Nat}(hs:src<xs.size)(hd:d<=src)(k:Nat):rkA r (bubble xs src d) k=if k=src-d then rkA r xs src else if src-d<k/\k<=src then rkA r xs (k-1) else rkA r xs k:=by
 have e:=getElem?_bubble hs d hd k
 by_cases h1:k=src-d
 ·rw[if_pos h1] at e ⊢;exact iH e
 ·rw[if_neg h1] at e ⊢
  by_cases h2:src-d<k/\k<=src
  ·rw[if_pos h2] at e ⊢;exact iH e
  ·rw[if_neg h2] at e ⊢;exact iH e
theorem AscR.snoc(a:AscR r xs l h)(lt:l<h)(q:rkA r xs (h-1)<rkA r xs h):AscR r xs l (h+1):=λi j hi hij hj=>by
 by_cases e:j=h
 ·subst e
  by_cases e2:i=j-1
  ·rw[e2];exact q
  ·exact pQ (a i (j-1) hi (by lia)<|by lia) q
 ·exact a i j hi hij<|by lia
theorem aFr{lo a nrem:Nat}(K:mB prog w A E s κ r a₀)(hB:SB κ a₀ st)(ha:1<=a)(han:a<=nrem)(hn:lo+nrem<=a₀.size)(hs:AscR r (AK st) lo (lo+a))(h:∀m,a<=m->m<=nrem->AscR r (AK st) lo (lo+m)->(m<nrem->rkA r (AK st) (lo+m)<rkA r (AK st) (lo+m-1))->Q (none,m) st):wpS (AD prog w) A E s (forIn [a:nrem] ((none,a):Option (Option Nat) × Nat) fun _ __s=>do
   let __x <-ltAt' (lo+__s.snd) (lo+__s.snd-1)
   match __x with
   |some smaller=>if smaller=true then pure (ForInStep.done (none,__s.snd)) else pure (ForInStep.yield (none,__s.snd+1))
   |_=>pure (ForInStep.done (some none,__s.snd))) Q st:=by
 refine Ab (I:=λx c st'=>st'=st/\c=(none,x)/\AscR r (AK st) lo (lo+x)) ?_ ?_ ⟨rfl,rfl,hs⟩
 ·rintro x c st' hx hxn ⟨rfl,rfl,hs'⟩;refine AG (tF K hB (by lia) (by lia) ?_)
  by_cases q:rkA r (AK st') (lo+x)<rkA r (AK st') (lo+x-1)
  ·simp only[q,decide_true,if_true];exact AJ<|h x hx (by lia) hs' λ_=>q
  ·simp only[q,decide_false,bK,if_false];refine AJ ⟨rfl,rfl,?_⟩;have ne:=hB.ne K (i:=lo+x) (j:=lo+x-1) (by lia) (by lia) (by lia);exact hs'.snoc (by lia)<|by lia
 ·rintro c st' ⟨rfl,rfl,hs'⟩;rw[show max a nrem=nrem by lia] at hs' ⊢;exact h nrem han (aK _) hs' λz=>absurd z<|dH _
def DscR(r:AI->Nat)(xs:Array AI)(l h:Nat):Prop:=∀i j,l<=i->i<j->j<h->rkA r xs j<rkA r xs i
theorem DscR.snoc(a:DscR r xs l h)(lt:l<h)(q:rkA r xs h<rkA r xs (h-1)):DscR r xs l (h+1):=λi j hi hij hj=>by
 by_cases e:j=h
 ·subst e
  by_cases e2:i=j-1
  ·rw[e2];exact q
  ·exact pQ q (a i (j-1) hi (by lia)<|by lia)
 ·exact a i j hi hij<|by lia
theorem aDr{lo nrem:Nat}(K:mB prog w A E s κ r a₀)(hB:SB κ a₀ st)(h1:1<=nrem)(hn:lo+nrem<=a₀.size)(h:∀m st',1<=m->m<=nrem->Stp κ a₀ lo (lo+nrem) st st'->AscR r (AK st') lo (lo+m)->Q (some m) st'):wpS (AD prog w) A E s (countRun' lo nrem) Q st:=by
 rw[countRun'_eq];refine AG<|aFr K hB (aK 1) h1 hn (λi j h1 h2 h3=>by lia) λm hm1 hm2 hs hq=>?_;dsimp only
 by_cases e:m=nrem
 ·rw[if_pos<|by simpa using e];exact AJ<|h m st hm1 hm2 (.refl hB _ _) hs
 ·rw[if_neg<|by simpa using e]
  by_cases m1:m>1
  ·rw[if_pos m1];refine AG<|tF K hB (by omega) (by omega) ?_;rw[decide_eq_true (hs lo (lo+m-1) (aK _) (by omega)<|by omega)];dsimp only;exact AJ<|h m st hm1 hm2 (.refl hB _ _) hs
  ·have em:m=1:=by omega
   subst em;have hq:=hq (by omega);refine AG (wpS_lift<|Av ⟨rfl,?_⟩);refine AG<|Ag (Ab (I:=λx c st'=>st'=st/\c=(none,x,0)/\DscR r (AK st) lo (lo+x)) (Q:=λc st'=>st'=st/\∃m,c=(none,m,0)/\2<=m/\m<=nrem/\DscR r (AK st) lo (lo+m)) ?step ?fin ⟨rfl,rfl, ?init⟩) ?post
   case init=>
    intro i j h1 h2 h3;have e1:i=lo:=by omega
    have e2:j=lo+1:=by omega
    subst e1 e2;exact hq
   case step=>
    rintro x c st' hx hxn ⟨rfl,rfl,hs'⟩;dsimp only;refine AG<|tF K hB (by omega) (by omega) ?_
    by_cases q:rkA r (AK st') (lo+x)<rkA r (AK st') (lo+x-1)
    ·simp only[q,decide_true,if_true];exact AJ ⟨rfl,rfl,hs'.snoc (by omega) q⟩
    ·simp only[q,decide_false,bK,if_false];refine AG<|tF K hB (by omega) (by omega) ?_;have ne:=hB.ne K (i:=lo+x) (j:=lo+x-1) (by omega) (by omega) (by omega);rw[decide_eq_true<|by omega];dsimp only;exact AJ ⟨rfl,x,rfl,hx,by omega,hs'⟩
   case fin=>rintro c st' ⟨rfl,rfl,hs'⟩;rw[show max (1+1) nrem=nrem by omega] at hs' ⊢;exact⟨rfl,nrem,rfl,by omega,aK _,hs'⟩
   case post=>
    rintro c st' ⟨rfl,m,rfl,m2,mn,hd⟩;dsimp only;refine AG<|BL ?_;have hz:lo+m<=(AK st').size:=by rw[hB.size];omega
    have S:Stp κ a₀ lo (lo+nrem) st' (setArr st' (mirror (AK st') lo (lo+m)<|(lo+m-lo) / 2)):=by refine⟨hB.setArr<|mirror_perm _ _ _ _,rfl,λk hk=>?_⟩;rw[getElem?_mirror_all hz,if_neg<|by omega]
    refine AG<|aFr K S.sb (by omega) mn hn (λi j h1 h2 h3=>?_) λm' a1 a2 a3 _=>?_
    ·show rkA r (mirror (AK st') lo (lo+m)<|(lo+m-lo) / 2) i<rkA r (mirror (AK st') lo (lo+m)<|(lo+m-lo) / 2) j;rw[aAg hz,aAg hz,if_pos<|by omega,if_pos<|by omega];exact hd _ _ (by omega) (by omega)<|by omega
    ·exact AJ<|h m' _ (by omega) a2 S a3
theorem aHL{lo ok:Nat}(K:mB prog w A E s κ r a₀)(hB:SB κ a₀ st)(hn:lo+n<=a₀.size)(hok:ok<=n)(hs:AscR r (AK st) lo (lo+ok))(h:∀st',Stp κ a₀ lo (lo+n) st st'->AscR r (AK st') lo (lo+n)->Q true st'):wpS (AD prog w) A E s (binarySort' lo n ok) Q st:=by
 refine AG (Ag (Ab (I:=fun k c st'=>c=(none,())∧Stp κ a₀ lo (lo+n) st st'∧AscR r (AK st') lo (lo+min k n))
  (Q:=λc st'=>c=(none,())/\Stp κ a₀ lo (lo+n) st st'/\AscR r (AK st') lo (lo+n)) ?step ?fin ?init) ?post)
 case post=>rintro c st' ⟨rfl,S,hs'⟩;exact AJ<|h st' S hs'
 case init=>refine⟨rfl,.refl hB _ _,λi j hi hij hj=>?_⟩;exact hs i j hi hij<|by lia
 case fin=>
  rintro c st' ⟨hc,S,hs'⟩;refine⟨hc,S,?_⟩
  rwa[show min (max (max ok 1) n) n=n by lia] at hs'
 case step=>
  rintro k c st' hak hkn ⟨rfl,S,hs'⟩;rw[show min k n=k by lia] at hs';have hB':=S.sb;have hk:lo+k<a₀.size:=by lia
  refine AG (Ag (Ab (I:=fun x c st''=>st''=st'∧∃l r',c=(none,l,r')∧l≤r'∧r'≤k∧r' - l≤k - x∧
    (∀i,i<l->rkA r (AK st') (lo+i)<rkA r (AK st') (lo+k))/\(∀i,r'<=i->i<k->rkA r (AK st') (lo+k)<rkA r (AK st') (lo+i)))
   (Q:=fun c st''=>st''=st'∧∃l r',c=(none,l,r')∧l≤k∧
    (∀i,i<l->rkA r (AK st') (lo+i)<rkA r (AK st') (lo+k))/\(∀i,l<=i->i<k->rkA r (AK st') (lo+k)<rkA r (AK st') (lo+i))) ?istep ?ifin ?iinit) ?ipost)
  case iinit=>exact⟨rfl,0,k,rfl,by lia,by omega,by omega,λi hi=>by lia,λi h1 h2=>by lia⟩
  case ifin=>
   rintro c st'' ⟨rfl,l,r',rfl,hlr,hrk,hm,hlo,hhi⟩;have:l=r':=by lia
   subst this;exact⟨rfl,l,l,rfl,hrk,hlo,hhi⟩
  case istep=>
   rintro x c st'' _ hxk ⟨rfl,l,r',rfl,hlr,hrk,hm,hlo,hhi⟩;dsimp only
   by_cases hge:l>=r'
   ·rw[if_pos hge];have:l=r':=by lia
    subst this;exact AJ ⟨rfl,l,l,rfl,hrk,hlo,hhi⟩
   ·rw[if_neg hge];refine AG (tF K hB' hk (by lia) ?_)
    by_cases hless:rkA r (AK st'') (lo+k)<rkA r (AK st'') (lo+(l+r') / 2)
    ·simp only[hless,decide_true,if_true];refine AJ ⟨rfl,l,(l+r') / 2,rfl,by lia,by lia,by lia,hlo,λi h1 h2=>?_⟩
     by_cases e:i=(l+r') / 2
     ·rw[e];exact hless
     ·exact pQ hless (hs' _ _ (by lia) (by lia)<|by lia)
    ·simp only[hless,decide_false,bK,if_false];have ne:=hB'.ne K (j:=lo+(l+r') / 2) hk (by lia) (by lia);have hl:rkA r (AK st'') (lo+(l+r') / 2)<rkA r (AK st'') (lo+k):=by lia
     refine AJ ⟨rfl,(l+r') / 2+1,r',rfl,by lia,by omega,by lia,λi h1=>?_,hhi⟩
     by_cases e:i=(l+r') / 2
     ·rw[e];exact hl
     ·exact pQ (hs' _ _ (by lia) (by lia)<|by lia) hl
  case ipost=>
   rintro c st'' ⟨rfl,l,r',rfl,hlk,hlo,hhi⟩;show wpS _ _ _ _ (do moveDown' (lo+k) (lo+l);pure (ForInStep.yield (none,()))) _ _;rw[moveDown'_eq];have hks:lo+k<(AK st'').size:=by rw[hB'.size];exact hk
   have ed:lo+k-(lo+l)=k-l:=by lia
   rw[ed];refine AG (BL<|AJ ⟨rfl,S.trans ⟨hB'.setArr<|bubble_perm _ _ _,rfl,λi hi=>?_⟩,?_⟩)
   ·show(bubble (AK st'') (lo+k)<|k-l)[i]? =_;rw[getElem?_bubble hks _<|by lia,if_neg<|by lia,if_neg<|by lia]
   rw[show min (k+1) n=k+1 by lia];intro i j hi hij hj;show rkA r (bubble (AK st'') (lo+k)<|k-l) i<rkA r (bubble (AK st'') (lo+k)<|k-l) j;rw[aAz hks<|by lia,aAz hks<|by lia,show lo+k-(k-l)=lo+l by lia]
   have hlo':=λi a b=>by
    have:=hlo (i-lo)<|by omega
    rwa[show lo+(i-lo)=i by omega] at this
   have hhi':∀i,lo+l<=i->i<lo+k->rkA r (AK st'') (lo+k)<rkA r (AK st'') i:=λi a b=>by
    have:=hhi (i-lo) (by lia)<|by lia
    rwa[show lo+(i-lo)=i by lia] at this
   repeat' split
   all_goals first
    |(exfalso;omega)
    |exact hlo' _ (by omega) (by lia)
    |exact hhi' _ (by omega) (by omega)
    |exact hs' _ _ (by omega) (by omega) (by lia)
noncomputable def mV:Bool->AI->Array AI->Nat->Nat->Nat->StateT CF Sem (Option Nat):=sortPriv%PySem.Builtin.gallop
noncomputable def bey(left:Bool)(key:AI)(arr:Array AI)(base i:Nat):StateT CF Sem (Option Bool):=do
  let x <-elem' arr (base+i)
  if left then lt' x key else return (<-lt' key x).map (!·)
def aCR(left:Bool)(key:AI)(arr:Array AI)(base n hint:Nat):mV left key arr base n hint=(do
 let mut lastofs:=0
 let mut ofs:=1
 let mut lo:=0
 let mut hi:=0
 let some right <-bey left key arr base hint|return none
 if right then
  let maxofs:=n-hint
  for _ in[0:n] do
   if ofs>=maxofs then break
   let some more <-bey left key arr base (hint+ofs)|return none
   if !more then break
   lastofs:=ofs
   ofs:=2*ofs+1
  lo:=hint+lastofs+1
  hi:=hint+min ofs maxofs
 else
  let maxofs:=hint+1
  for _ in[0:n] do
   if ofs>=maxofs then break
   let some found <-bey left key arr base (hint-ofs)|return none
   if found then break
   lastofs:=ofs
   ofs:=2*ofs+1
  lo:=hint+1-min ofs maxofs
  hi:=hint-lastofs
 for _ in[0:n] do
  if lo>=hi then break
  let m:=lo+(hi-lo) / 2
  let some more <-bey left key arr base m|return none
  if more then lo:=m+1 else hi:=m
 return some hi):=rfl
theorem tQ(K:mB prog w A E s κ r a₀)(hk:kindOf st=κ)(mx:∀x∈xs.toList,x∈a₀.toList)(mk:key∈a₀.toList)(hi:base+i<xs.size)(ne:rkA r xs (base+i)≠r key)(h:Q (some (decide<|rkA r xs (base+i)<r key)) st):wpS (AD prog w) A E s (bey left key xs base i) Q st:=by
 refine AG<|eO hi ?_;have m1:xs[base+i]∈a₀.toList:=mx _ (by simp);rw[eA hi] at h ne;cases left with
 |true=>exact K.ask m1 mk hk h
 |false=>
  refine AG (K.ask mk m1 hk<|AJ ?_)
  have e:(!decide (r key<r xs[base+i]))=decide (r xs[base+i]<r key):=by
   by_cases q:r xs[base+i]<r key
   ·rw[decide_eq_true q,decide_eq_false<|by lia];rfl
   ·rw[decide_eq_false q,decide_eq_true<|by lia];rfl
  show Q (some<|!decide (r key<r xs[base+i])) st;rw[e];exact h
theorem AscR.le(a:AscR r xs base (base+n))(hij:i<=j)(hj:j<n):rkA r xs (base+i)<=rkA r xs (base+j):=by
 by_cases e:i=j
 ·rw[e];exact aK _
 ·exact cX (a _ _ (by lia) (by lia)<|by lia)
theorem qA(K:mB prog w A E s κ r a₀)(hk:kindOf st=κ)(mx:∀x∈xs.toList,x∈a₀.toList)(mk:key∈a₀.toList)(hx:base+n<=xs.size)(hh:hint<n)(asc:AscR r xs base (base+n)) (ne:∀i,i<n->rkA r xs (base+i)≠r key)(h:∀k,k<=n->(∀i,i<k->rkA r xs (base+i)<r key)->(∀i,k<=i->i<n->r key<rkA r xs (base+i))->Q (some k) st):wpS (AD prog w) A E s (mV left key xs base n hint) Q st:=by
 rw[aCR];refine AG<|tQ K hk mx mk (by lia) (ne _ hh) ?_
 by_cases q:rkA r xs (base+hint)<r key
 ·simp only[q,decide_true,if_true]
  refine AG (Ag (Ab (I:=fun x c st'=>st'=st∧∃last ofs,c=(none,last,ofs)∧last<ofs∧x+1≤ofs∧hint+last<n∧rkA r xs (base+(hint+last))<r key)
   (Q:=λc st'=>st'=st/\∃last ofs,c=(none,last,ofs)/\last<ofs/\hint+last<n/\rkA r xs (base+(hint+last))<r key/\(n-hint<=ofs\/(hint+ofs<n/\r key<rkA r xs (base+(hint+ofs))))) ?step ?fin ⟨rfl,0,1,rfl,by omega,by omega,hh,q⟩) ?post)
  case fin=>rintro c st' ⟨rfl,last,ofs,rfl,a,b,c,d⟩;exact⟨rfl,last,ofs,rfl,a,c,d,.inl<|by lia⟩
  case step=>
   rintro x c st' _ hxn ⟨rfl,last,ofs,rfl,a,b,c,d⟩;dsimp only
   by_cases z:ofs>=n-hint
   ·rw[if_pos z];exact AJ ⟨rfl,last,ofs,rfl,a,c,d,.inl z⟩
   ·rw[if_neg z];refine AG (tQ K hk mx mk (by lia) (ne _<|by lia) ?_)
    by_cases y:rkA r xs (base+(hint+ofs))<r key
    ·simp only[y,decide_true,aCI,bK,if_false];exact AJ ⟨rfl,ofs,2*ofs+1,rfl,by lia,by lia,by lia,y⟩
    ·simp only[y,decide_false,aPV,if_true];have y':=ne (hint+ofs) (by lia);exact AJ ⟨rfl,last,ofs,rfl,a,c,d,.inr ⟨by lia,by lia⟩⟩
  case post=>
   rintro c st' ⟨rfl,last,ofs,rfl,a,b,c,d⟩;dsimp only;have l1:hint+last+1<=hint+min ofs (n-hint):=by lia
   have l2:hint+min ofs (n-hint)<=n:=by lia
   have hl:∀i,i<hint+last+1->rkA r xs (base+i)<r key:=λi hi=>bY (asc.le (by lia) b) c
   have hg:∀i,hint+min ofs (n-hint)<=i->i<n->r key<rkA r xs (base+i):=λi h1 h2=>by
    rcases d with d|⟨d1,d2⟩
    ·lia
    ·exact aZ d2<|asc.le (by lia) h2
   refine AG (Ag (Ab (I:=fun x c st''=>st''=st'∧∃lo hi,c=(none,lo,hi)∧lo≤hi∧hi≤n∧hi - lo≤n - x∧(∀i,i<lo→rkA r xs (base+i)<r key)∧(∀i,hi≤i→i<n→r key<rkA r xs (base+i)))
    (Q:=λc st''=>st''=st'/\∃k,c=(none,k,k)/\k<=n/\(∀i,i<k->rkA r xs (base+i)<r key)/\(∀i,k<=i->i<n->r key<rkA r xs (base+i))) ?step ?fin ⟨rfl,_,_,rfl,l1,l2,by lia,hl,hg⟩) ?post)
   case post=>rintro c st'' ⟨rfl,k,rfl,a,b,c⟩;exact AJ<|h k a b c
   case fin=>
    rintro c st'' ⟨rfl,lo,hi,rfl,a,b,c,d,e⟩;have:lo=hi:=by lia
    subst this;exact⟨rfl,lo,rfl,b,d,e⟩
   case step=>
    rintro x c st'' _ hxn ⟨rfl,lo,hi,rfl,a,b,c,d,e⟩;dsimp only
    by_cases q:lo>=hi
    ·rw[if_pos q];have:lo=hi:=by lia
     subst this;exact AJ ⟨rfl,lo,rfl,b,d,e⟩
    ·rw[if_neg q];refine AG (tQ K hk mx mk (by lia) (ne _<|by lia) ?_)
     by_cases z:rkA r xs (base+(lo+(hi-lo) / 2))<r key
     ·simp only[z,decide_true,if_true];refine AJ ⟨rfl,lo+(hi-lo) / 2+1,hi,rfl,by lia,b,by lia,λi hi'=>?_,e⟩;exact bY (asc.le (by lia)<|by lia) z
     ·simp only[z,decide_false,bK,if_false];have z':=ne (lo+(hi-lo) / 2) (by lia);refine AJ ⟨rfl,lo,lo+(hi-lo) / 2,rfl,by lia,by lia,by lia,d,λi h1 h2=>?_⟩;exact aZ (by lia)<|asc.le h1 h2
 ·simp only[q,decide_false,bK,if_false];have q':=ne hint hh
  refine AG (Ag (Ab (I:=fun x c st'=>st'=st∧∃last ofs,c=(none,last,ofs)∧last<ofs∧x+1≤ofs∧last≤hint∧r key<rkA r xs (base+(hint - last)))
   (Q:=λc st'=>st'=st/\∃last ofs,c=(none,last,ofs)/\last<ofs/\last<=hint/\r key<rkA r xs (base+(hint-last))/\(hint+1<=ofs\/(ofs<=hint/\rkA r xs (base+(hint-ofs))<r key))) ?step ?fin ⟨rfl,0,1,rfl,by omega,by omega,by lia,by rw[Nat.sub_zero];lia⟩) ?post)
  case fin=>rintro c st' ⟨rfl,last,ofs,rfl,a,b,c,d⟩;exact⟨rfl,last,ofs,rfl,a,c,d,.inl<|by lia⟩
  case step=>
   rintro x c st' _ hxn ⟨rfl,last,ofs,rfl,a,b,c,d⟩;dsimp only
   by_cases z:ofs>=hint+1
   ·rw[if_pos z];exact AJ ⟨rfl,last,ofs,rfl,a,c,d,.inl z⟩
   ·rw[if_neg z];refine AG (tQ K hk mx mk (by lia) (ne _<|by lia) ?_)
    by_cases y:rkA r xs (base+(hint-ofs))<r key
    ·simp only[y,decide_true,if_true];exact AJ ⟨rfl,last,ofs,rfl,a,c,d,.inr ⟨by lia,y⟩⟩
    ·simp only[y,decide_false,bK,if_false];have y':=ne (hint-ofs) (by lia);exact AJ ⟨rfl,ofs,2*ofs+1,rfl,by lia,by lia,by lia,by lia⟩
  case post=>
   rintro c st' ⟨rfl,last,ofs,rfl,a,b,c,d⟩;dsimp only;have l1:hint+1-min ofs (hint+1)<=hint-last:=by lia
   have l2:hint-last<=n:=by lia
   have hl:∀i,i<hint+1-min ofs (hint+1)->rkA r xs (base+i)<r key:=λi hi=>by
    rcases d with d|⟨d1,d2⟩
    ·lia
    ·exact bY (asc.le (by lia)<|by lia) d2
   have hg:∀i,hint-last<=i->i<n->r key<rkA r xs (base+i):=λi h1 h2=>aZ c<|asc.le (by omega) h2
   refine AG (Ag (Ab (I:=fun x c st''=>st''=st'∧∃lo hi,c=(none,lo,hi)∧lo≤hi∧hi≤n∧hi - lo≤n - x∧(∀i,i<lo→rkA r xs (base+i)<r key)∧(∀i,hi≤i→i<n→r key<rkA r xs (base+i)))
    (Q:=λc st''=>st''=st'/\∃k,c=(none,k,k)/\k<=n/\(∀i,i<k->rkA r xs (base+i)<r key)/\(∀i,k<=i->i<n->r key<rkA r xs (base+i))) ?step ?fin ⟨rfl,_,_,rfl,l1,l2,by lia,hl,hg⟩) ?post)
   case post=>rintro c st'' ⟨rfl,k,rfl,a,b,c⟩;exact AJ<|h k a b c
   case fin=>
    rintro c st'' ⟨rfl,lo,hi,rfl,a,b,c,d,e⟩;have:lo=hi:=by lia
    subst this;exact⟨rfl,lo,rfl,b,d,e⟩
   case step=>
    rintro x c st'' _ hxn ⟨rfl,lo,hi,rfl,a,b,c,d,e⟩;dsimp only
    by_cases q:lo>=hi
    ·rw[if_pos q];have:lo=hi:=by lia
     subst this;exact AJ ⟨rfl,lo,rfl,b,d,e⟩
    ·rw[if_neg q];refine AG (tQ K hk mx mk (by lia) (ne _<|by lia) ?_)
     by_cases z:rkA r xs (base+(lo+(hi-lo) / 2))<r key
     ·simp only[z,decide_true,if_true];refine AJ ⟨rfl,lo+(hi-lo) / 2+1,hi,rfl,by lia,b,by lia,λi hi'=>?_,e⟩;exact bY (asc.le (by lia)<|by lia) z
     ·simp only[z,decide_false,bK,if_false];have z':=ne (lo+(hi-lo) / 2) (by lia);refine AJ ⟨rfl,lo,lo+(hi-lo) / 2,rfl,by lia,by lia,by lia,d,λi h1 h2=>?_⟩;exact aZ (by lia)<|asc.le h1 h2
structure MS(r:AI->Nat)(a b:Array AI)(out:List AI)(ia ib:Nat):Prop where
 ha:ia<=a.size
 hb:ib<=b.size
 perm:out.Perm (a.toList.take ia++b.toList.take ib)
 asc:(out.map r).Pairwise (·<·)
 la:∀x∈out,∀i,ia<=i->i<a.size->r x<rkA r a i
 lb:∀x∈out,∀i,ib<=i->i<b.size->r x<rkA r b i
def MD(r:AI->Nat)(a b:Array AI)(out:List AI):Prop:=out.Perm (a.toList++b.toList)/\(out.map r).Pairwise (·<·)
variable {a b:Array AI}{out:List AI}{ia ib:Nat}
def MS.swap(m:MS r a b out ia ib):MS r b a out ib ia:=⟨m.hb,m.ha,m.perm.trans iR,m.asc,m.lb,m.la⟩
theorem MS.pushA(m:MS r a b out ia ib)(h:ia<a.size)(asa:AscR r a 0 a.size)(hb:∀j,ib<=j->j<b.size->rkA r a ia<rkA r b j):MS r a b (out++[a[ia]]) (ia+1) ib:=by
 refine⟨h,m.hb,?_,?_,λx hx i h1 h2=>?_,λx hx i h1 h2=>?_⟩
 ·have e:a.toList.take (ia+1)=a.toList.take ia++[a[ia]]:=by rw[gB];simp[h]
  rw[e,dW];refine(m.perm.append_right _).trans ?_;rw[dW];exact List.Perm.append_left _ iR
 ·rw[aO,eW];refine⟨m.asc,kG _ _,λx hx y hy=>?_⟩;obtain⟨z,hz,rfl⟩:=aJ.mp hx;have:=by simpa using hy
  rw[this,<-eA (r:=r) h];exact m.la z hz ia (aK _) h
 ·rcases aS.mp hx with hx|hx
  ·exact m.la x hx i (by lia) h2
  ·rw[aH.mp hx,<-eA (r:=r) h];exact asa ia i (bM _) (by omega) h2
 ·rcases aS.mp hx with hx|hx
  ·exact m.lb x hx i h1 h2
  ·rw[aH.mp hx,<-eA (r:=r) h];exact hb i h1 h2
def MS.pushB(m:MS r a b out ia ib)(h:ib<b.size)(asb:AscR r b 0 b.size)(hb:∀j,ia<=j->j<a.size->rkA r b ib<rkA r a j):MS r a b (out++[b[ib]]) ia (ib+1):=(m.swap.pushA h asb hb).swap
theorem aIe(h:ia+k<a.size):(a.extract ia<|ia+(k+1)).toList=(a.extract ia<|ia+k).toList++[a[ia+k]]:=by simp only[eQ,dJ];rw[show ia+(k+1)-ia=k+1 by lia,gB];simp[h]
def aIQ(i:Nat):(a.extract i<|i+0).toList=[]:=by simp[eQ,dJ]
theorem MS.extA(asa:AscR r a 0 a.size)(m:MS r a b out ia ib):∀k,ia+k<=a.size->(∀i,i<k->∀j,ib<=j->j<b.size->rkA r a (ia+i)<rkA r b j)->MS r a b (out++(a.extract ia<|ia+k).toList) (ia+k) ib
 |0,_,_=>by rw[aIQ,dD];exact m
 |k+1,h,hb=>by
  have ih:=MS.extA asa m k (by lia) λi hi=>hb i<|by lia
  rw[aIe<|by omega,<-dW];exact ih.pushA (by omega) asa (hb k<|by omega)
def MS.extB(asb:AscR r b 0 b.size)(m:MS r a b out ia ib)(k:Nat)(h:ib+k<=b.size)(hb:∀i,i<k->∀j,ia<=j->j<a.size->rkA r b (ib+i)<rkA r a j):MS r a b (out++(b.extract ib<|ib+k).toList) ia (ib+k):=(m.swap.extA asb k h hb).swap
def MS.done(m:MS r a b out a.size b.size):MD r a b out:=by refine⟨?_,m.asc⟩;have:=m.perm;rw[eZ<|by simp,eZ<|by simp] at this;exact this
theorem MS.finA(m:MS r a b out ia b.size)(asa:AscR r a 0 a.size):MD r a b (out++(a.extract ia a.size).toList):=by
 have h:=m.ha;have:=m.extA asa (a.size-ia) (by lia) λi hi j h1 h2=>by lia
 rw[show ia+(a.size-ia)=a.size by lia] at this;exact this.done
theorem MS.finL(m:MS r a b out ia ib)(asa:AscR r a 0 a.size)(asb:AscR r b 0 b.size)(h1:ia+1=a.size)(hab:∀j,j<b.size->rkA r b j<rkA r a (a.size-1)):MD r a b (out++(b.extract ib b.size).toList++(a.extract ia a.size).toList):=by
 have h:=m.hb
 have:=m.extB asb (b.size-ib) (by lia) λi hi j h1 h2=>by
  have e:j=a.size-1:=by lia
  rw[e];exact hab _<|by lia
 rw[show ib+(b.size-ib)=b.size by lia] at this;exact this.finA asa
theorem aLs(i:Nat)(h:a.size<=i):(a.extract i a.size).toList=[]:=by
 rw[eQ,dJ];have:a.size-i=0:=by lia
 rw[this];rfl
noncomputable def setG(st:CF)(g:Nat):CF:=SortSt.mk' (kindOf st) (AK st) (AC st) g<|failedOf st
def lB:Nat->StateT CF Sem Unit:=sortPriv%PySem.Builtin.setMinGallop
def zG:Array AI->Array AI->StateT CF Sem (Array AI):=sortPriv%PySem.Builtin.mergeLo
structure SameG(st st':CF):Prop where
 kind:kindOf st'=kindOf st
 arr:AK st'=AK st
 pend:AC st'=AC st
 failed:failedOf st'=failedOf st
def SameG.refl(st:CF):SameG st st:=⟨rfl,rfl,rfl,rfl⟩
def SameG.set(h:SameG st st')(g:Nat):SameG st (setG st' g):=⟨h.kind,h.arr,h.pend,h.failed⟩
structure MPre(r:AI->Nat)(a₀ a b:Array AI):Prop where
 a1:1<=a.size
 b1:1<=b.size
 asa:AscR r a 0 a.size
 asb:AscR r b 0 b.size
 ma:∀x∈a.toList,x∈a₀.toList
 mb:∀x∈b.toList,x∈a₀.toList
 ne:∀i j,i<a.size->j<b.size->rkA r a i≠rkA r b j
 first:rkA r b 0<rkA r a 0
 last:rkA r b (b.size-1)<rkA r a (a.size-1)
theorem AscR.le0(a:AscR r xs 0 n)(hij:i<=j)(hj:j<n):rkA r xs i<=rkA r xs j:=by
 by_cases e:i=j
 ·rw[e];exact aK _
 ·exact cX (a _ _ (by lia) (by lia)<|by omega)
abbrev SM:=StateT CF Sem
abbrev ML1:=Option (Array AI)×Array AI×Nat×Nat×Nat×Nat
abbrev ML2:=Option (Array AI)×Array AI×Nat×Nat×Nat×Nat×Nat
abbrev ML0:=Option (Array AI)×Array AI×Nat×Nat×Nat
noncomputable def dnA(a b out:Array AI)(ia ib:Nat):Array AI:=out++a.extract ia a.size++b.extract ib b.size
noncomputable def lsA(a b out:Array AI)(ia ib:Nat):Array AI:=out++b.extract ib b.size++a.extract ia a.size
def lo1(a b:Array AI)(mg:Nat)(c:ML1):SM (ForInStep ML1):=do
 let y <-elem' b c.2.2.2.1
 let x <-elem' a c.2.2.1
 let q <-lt' y x
 match q with
 |some bw=>
  if bw=true then do
   let y <-elem' b c.2.2.2.1
   if(c.2.2.2.1+1==b.size)=true then pure (.done (some (dnA a b (c.2.1.push y) c.2.2.1<|c.2.2.2.1+1),c.2.1.push y,c.2.2.1,c.2.2.2.1+1,0,c.2.2.2.2.2+1))
   else if c.2.2.2.2.2+1>=mg then pure (.done (none,c.2.1.push y,c.2.2.1,c.2.2.2.1+1,0,c.2.2.2.2.2+1))
   else pure (.yield (none,c.2.1.push y,c.2.2.1,c.2.2.2.1+1,0,c.2.2.2.2.2+1))
  else do
   let x <-elem' a c.2.2.1
   if(c.2.2.1+1+1==a.size)=true then pure (.done (some<|lsA a b (c.2.1.push x) (c.2.2.1+1) c.2.2.2.1,c.2.1.push x,c.2.2.1+1,c.2.2.2.1,c.2.2.2.2.1+1,0))
   else if c.2.2.2.2.1+1>=mg then pure (.done (none,c.2.1.push x,c.2.2.1+1,c.2.2.2.1,c.2.2.2.2.1+1,0))
   else pure (.yield (none,c.2.1.push x,c.2.2.1+1,c.2.2.2.1,c.2.2.2.2.1+1,0))
 |_=>pure<|.done (some<|dnA a b c.2.1 c.2.2.1 c.2.2.2.1,c.2.1,c.2.2.1,c.2.2.2.1,c.2.2.2.2.1,c.2.2.2.2.2)
def aQl(a b out:Array AI)(ia ib mg k k1:Nat):SM (ForInStep ML2):=do
 let x <-elem' a ia
 if(ia+1+1==a.size)=true then pure (.done (some<|lsA a b (out.push x) (ia+1) ib,out.push x,ia+1,ib,mg,k,k1))
 else if(decide (k<7)&&decide (k1<7))=true then pure (.done (none,out.push x,ia+1,ib,mg,k,k1))
 else pure (.yield (none,out.push x,ia+1,ib,mg,k,k1))
def aQF(a b out:Array AI)(ia ib mg k bc:Nat):SM (ForInStep ML2):=do
 let y <-elem' b ib
 if(ib+1==b.size)=true then pure (.done (some (dnA a b (out.push y) ia<|ib+1),out.push y,ia,ib+1,mg,k,bc))
 else do
  let x <-elem' a ia
  let q <-mV true x b (ib+1) (b.size-(ib+1)) 0
  match q with
  |some k1=>
   if k1>0 then
    if(ib+1+k1==b.size)=true then pure (.done (some (dnA a b (out.push y++b.extract (ib+1) (ib+1+k1)) ia<|ib+1+k1),out.push y++b.extract (ib+1) (ib+1+k1),ia,ib+1+k1,mg,k,k1))
    else aQl a b (out.push y++b.extract (ib+1) (ib+1+k1)) ia (ib+1+k1) mg k k1
   else aQl a b (out.push y) ia (ib+1) mg k k1
  |_=>pure<|.done (some (dnA a b (out.push y) ia<|ib+1),out.push y,ia,ib+1,mg,k,bc)
def aNq(a b out:Array AI)(ia ib mg ac bc:Nat):SM (ForInStep ML2):=do
 lB mg
 let y <-elem' b ib
 let q <-mV false y a ia (a.size-ia) 0
 match q with
 |some k=>
  if k>0 then
   if(ia+k+1==a.size)=true then pure (.done (some<|lsA a b (out++a.extract ia (ia+k)) (ia+k) ib,out++a.extract ia (ia+k),ia+k,ib,mg,k,bc))
   else if(ia+k==a.size)=true then pure (.done (some<|dnA a b (out++a.extract ia (ia+k)) (ia+k) ib,out++a.extract ia (ia+k),ia+k,ib,mg,k,bc))
   else aQF a b (out++a.extract ia (ia+k)) (ia+k) ib mg k bc
  else aQF a b out ia ib mg k bc
 |_=>pure<|.done (some<|dnA a b out ia ib,out,ia,ib,mg,ac,bc)
def lo2(a b:Array AI)(c:ML2):SM (ForInStep ML2):=
 if c.2.2.2.2.1>1 then aNq a b c.2.1 c.2.2.1 c.2.2.2.1 (c.2.2.2.2.1-1) c.2.2.2.2.2.1 c.2.2.2.2.2.2
 else aNq a b c.2.1 c.2.2.1 c.2.2.2.1 c.2.2.2.2.1 c.2.2.2.2.2.1 c.2.2.2.2.2.2
def lo0(a b:Array AI)(c:ML0):SM (ForInStep ML0):=do
 let d <-forIn [:a.size+b.size] ((none,c.2.1,c.2.2.1,c.2.2.2.1,0,0):ML1) λ_ d=>lo1 a b c.2.2.2.2 d
 match d.1 with
 |some r=>pure<|.done (some r,d.2.1,d.2.2.1,d.2.2.2.1,c.2.2.2.2)
 |none=>do
  liftM (rule "list.sort.gallop")
  let e <-forIn [:a.size+b.size] ((none,d.2.1,d.2.2.1,d.2.2.2.1,c.2.2.2.2+1,d.2.2.2.2.1,d.2.2.2.2.2):ML2) λ_ e=>lo2 a b e
  match e.1 with
  |some r=>pure<|.done (some r,e.2.1,e.2.2.1,e.2.2.2.1,e.2.2.2.2.1)
  |none=>do
   lB (e.2.2.2.2.1+1)
   pure (.yield (none,e.2.1,e.2.2.1,e.2.2.2.1,e.2.2.2.2.1+1))
def loM(a b:Array AI):SM (Array AI):=do
 liftM (rule "list.sort.merge-lo")
 let y <-elem' b 0
 if(1==b.size)=true then pure (dnA a b #[y] 0 1)
 else if(0+1==a.size)=true then pure (lsA a b #[y] 0 1)
 else do
  let g <-get
  let c <-forIn [:a.size+b.size] ((none, #[y],0,1,gallopOf g):ML0) λ_ c=>lo0 a b c
  match c.1 with
  |some r=>pure r
  |none=>liftM (unsupported "internal:list.sort.merge-bound":Sem (Array AI))
def aOv(a b:Array AI):zG a b=loM a b:=by kernel_rfl
def FIN(r:AI->Nat)(a b:Array AI)(o:Option (Array AI)):Prop:=∃res,o=some res/\MD r a b res.toList
def OKm(r:AI->Nat)(a b:Array AI)(N:Nat)(o:Option (Array AI))(out:Array AI)(ia ib:Nat):Prop:=o=none/\MS r a b out.toList ia ib/\ia+1<a.size/\ib<b.size/\N<=ia+ib
def OKm.mono{out:Array AI}(h:OKm r a b N o out ia ib)(le:N'<=N):OKm r a b N' o out ia ib:=⟨h.1,h.2.1,h.2.2.1,h.2.2.2.1,cF le h.2.2.2.2⟩
section
variable {prog:AF}{w:AL}{A:CA}{E:BX->BY->Prop}{s:BY}{κ:BA}{r:AI->Nat}{a₀ a b out:Array AI}{st st0:CF}{ia ib:Nat}
theorem MPre.last'(M:MPre r a₀ a b):∀j,j<b.size->rkA r b j<rkA r a (a.size-1):=λj hj=>bY (M.asb.le0 (by lia)<|by lia) M.last
def aBL(M:MPre r a₀ a b)(m:MS r a b out.toList ia ib)(h:ib=b.size):FIN r a b (some<|dnA a b out ia ib):=by subst h;refine⟨_,rfl,?_⟩;have:=m.finA M.asa;unfold dnA;rw[dF,dF,aLs _<|aK _,dD];exact this
def aBN(M:MPre r a₀ a b)(m:MS r a b out.toList ia ib)(h:ia+1=a.size):FIN r a b (some<|lsA a b out ia ib):=by refine⟨_,rfl,?_⟩;have:=m.finL M.asa M.asb h M.last';unfold lsA;rw[dF,dF];exact this
def MS.pushA'(M:MPre r a₀ a b)(m:MS r a b out.toList ia ib)(h:ia<a.size)(hb:∀j,ib<=j->j<b.size->rkA r a ia<rkA r b j):MS r a b (out.push a[ia]).toList (ia+1) ib:=by rw[iS];exact m.pushA h M.asa hb
def MS.pushB'(M:MPre r a₀ a b)(m:MS r a b out.toList ia ib)(h:ib<b.size)(hb:∀j,ia<=j->j<a.size->rkA r b ib<rkA r a j):MS r a b (out.push b[ib]).toList ia (ib+1):=by rw[iS];exact m.pushB h M.asb hb
def MS.extA'(M:MPre r a₀ a b)(m:MS r a b out.toList ia ib)(h:ia+k<=a.size)(hb:∀i,i<k->∀j,ib<=j->j<b.size->rkA r a (ia+i)<rkA r b j):MS r a b (out++a.extract ia (ia+k)).toList (ia+k) ib:=by rw[dF];exact m.extA M.asa k h hb
def MS.extB'(M:MPre r a₀ a b)(m:MS r a b out.toList ia ib)(h:ib+k<=b.size)(hb:∀i,i<k->∀j,ia<=j->j<a.size->rkA r b (ib+i)<rkA r a j):MS r a b (out++b.extract ib (ib+k)).toList ia (ib+k):=by rw[dF];exact m.extB M.asb k h hb
def P2(r:AI->Nat)(a b:Array AI)(st0:CF)(N:Nat):ForInStep ML2->CF->Prop:=λq st'=>SameG st0 st'/\match q with
 |.done c=>FIN r a b c.1\/OKm r a b N c.1 c.2.1 c.2.2.1 c.2.2.2.1
 |.yield c=>OKm r a b N c.1 c.2.1 c.2.2.1 c.2.2.2.1
theorem aEP(M:MPre r a₀ a b)(S:SameG st0 st)(m:MS r a b out.toList ia ib)(h1:ia+1<a.size)(h2:ib<b.size)(hN:N<=ia+1+ib)(hb:∀j,ib<=j->j<b.size->rkA r a ia<rkA r b j):wpS (AD prog w) A E s (aQl a b out ia ib mg k k1) (P2 r a b st0 N) st:=by
 refine AG<|eO (by lia) ?_;have m2:=m.pushA' M (by lia) hb
 by_cases e:ia+1+1=a.size
 ·rw[if_pos<|by simpa using e];exact AJ ⟨S,.inl<|aBN M m2 e⟩
 ·rw[if_neg<|by simpa using e]
  split
  ·exact AJ ⟨S,.inr ⟨rfl,m2,by show ia+1+1<_;lia,h2,hN⟩⟩
  ·exact AJ ⟨S,rfl,m2,by show ia+1+1<_;lia,h2,hN⟩
theorem aEx(K:mB prog w A E s κ r a₀)(hk:kindOf st0=κ)(M:MPre r a₀ a b)(S:SameG st0 st)(m:MS r a b out.toList ia ib)(h1:ia+1<a.size)(h2:ib<b.size)(hN:N<=ia+1+ib)(hb:∀j,ia<=j->j<a.size->rkA r b ib<rkA r a j):wpS (AD prog w) A E s (aQF a b out ia ib mg k bc) (P2 r a b st0 N) st:=by
 refine AG<|eO (by omega) ?_;have m2:=m.pushB' M h2 hb
 by_cases e:ib+1=b.size
 ·rw[if_pos<|by simpa using e];exact AJ ⟨S,.inl<|aBL M m2 e⟩
 ·rw[if_neg<|by simpa using e];have h1':ia<a.size:=by lia
  refine AG<|eO h1' (AG<|qA K (S.kind.trans hk) M.mb (M.ma _<|by simp) (by lia) (by lia) (λi j h1 h2 h3=>M.asb i j (by lia) h2<|by lia) (λi hi e=>M.ne ia (ib+1+i) h1' (by lia)<|by rw[e,eA h1']) λk1 c1 c2 c3=>?_);dsimp only;rw[<-eA (r:=r) h1'] at c2 c3;have m3:=m2.extB' M (by omega) λi hi j j1 j2=>aZ (c2 i hi)<|M.asa.le0 j1 j2
  have c3':∀j,ib+1+k1<=j->j<b.size->rkA r a ia<rkA r b j:=λj j1 j2=>by
   have:=c3 (j-(ib+1)) (by omega)<|by omega
   rwa[show ib+1+(j-(ib+1))=j by omega] at this
  by_cases z:k1>0
  ·rw[if_pos z]
   by_cases y:ib+1+k1=b.size
   ·rw[if_pos<|by simpa using y];exact AJ ⟨S,.inl<|aBL M m3 y⟩
   ·rw[if_neg<|by simpa using y];exact aEP M S m3 h1 (by omega) (by omega) c3'
  ·have z0:k1=0:=by omega
   subst z0;exact aEP M S m2 h1 (by omega) (by omega) c3'
theorem aLb(K:mB prog w A E s κ r a₀)(hk:kindOf st0=κ)(M:MPre r a₀ a b)(S:SameG st0 st)(m:MS r a b out.toList ia ib)(h1:ia+1<a.size)(h2:ib<b.size)(hN:N<=ia+1+ib):wpS (AD prog w) A E s (aNq a b out ia ib mg ac bc) (P2 r a b st0 N) st:=by
 unfold aNq;refine AG<|BL ?_;have S:=S.set mg;refine AG<|eO h2 (AG<|qA K (S.kind.trans hk) M.ma (M.mb _<|by simp) (by lia) (by lia) (λi j h1 h2 h3=>M.asa i j (by lia) h2<|by lia) (λi hi e=>M.ne (ia+i) ib (by lia) h2<|by rw[e,eA h2]) λk c1 c2 c3=>?_);dsimp only;rw[<-eA (r:=r) h2] at c2 c3;have m3:=m.extA' M (by omega) λi hi j j1 j2=>aZ (c2 i hi)<|M.asb.le0 j1 j2
 have c3':∀j,ia+k<=j->j<a.size->rkA r b ib<rkA r a j:=λj j1 j2=>by
  have:=c3 (j-ia) (by omega)<|by omega
  rwa[show ia+(j-ia)=j by omega] at this
 have kl:ia+k<a.size:=by
  by_cases q:ia+k<a.size
  ·exact q
  ·have:=c2 (a.size-1-ia) (by omega);rw[show ia+(a.size-1-ia)=a.size-1 by omega] at this;have:=M.last' ib h2;omega
 by_cases z:k>0
 ·rw[if_pos z]
  by_cases y:ia+k+1=a.size
  ·rw[if_pos<|by simpa using y];exact AJ ⟨S,.inl<|aBN M m3 y⟩
  ·rw[if_neg (by simpa using y),if_neg<|by simp;omega];exact aEx K hk M S m3 (by omega) h2 (by omega) c3'
 ·have z0:k=0:=by omega
  subst z0;exact aEx K hk M S m (by omega) h2 (by omega) c3'
def P1(r:AI->Nat)(a b:Array AI)(st:CF)(N:Nat):ForInStep ML1->CF->Prop:=λq st'=>st'=st/\match q with
 |.done c=>FIN r a b c.1\/OKm r a b N c.1 c.2.1 c.2.2.1 c.2.2.2.1
 |.yield c=>OKm r a b N c.1 c.2.1 c.2.2.1 c.2.2.2.1
theorem aPh{c:ML1}(K:mB prog w A E s κ r a₀)(hk:kindOf st=κ)(M:MPre r a₀ a b)(h:OKm r a b N c.1 c.2.1 c.2.2.1 c.2.2.2.1):wpS (AD prog w) A E s (lo1 a b mg c) (P1 r a b st<|N+1) st:=by
 obtain⟨o,out,ia,ib,ac,bc⟩:=c;obtain⟨h0,m,h1,h2,hN⟩:=h;dsimp only at h0 m h1 h2 hN;unfold lo1;have h1':ia<a.size:=by lia
 refine AG<|eO h2 (AG<|eO h1' (AG<|K.ask (M.mb _<|by simp) (M.ma _<|by simp) hk ?_));dsimp only
 by_cases q:r b[ib]<r a[ia]
 ·rw[if_pos<|by simpa using q];refine AG<|eO h2 ?_;have q':rkA r b ib<rkA r a ia:=by rw[eA h2,eA h1'];exact q
  have m2:=m.pushB' M h2 λj j1 j2=>aZ q'<|M.asa.le0 j1 j2
  by_cases e:ib+1=b.size
  ·rw[if_pos<|by simpa using e];exact AJ ⟨rfl,.inl<|aBL M m2 e⟩
  ·rw[if_neg<|by simpa using e]
   split
   ·exact AJ ⟨rfl,.inr ⟨rfl,m2,h1,by show ib+1<_;lia,by show _<=ia+(ib+1);lia⟩⟩
   ·exact AJ ⟨rfl,rfl,m2,h1,by show ib+1<_;lia,by show _<=ia+(ib+1);lia⟩
 ·rw[if_neg<|by simpa using q];refine AG (eO h1' ?_)
  have q':rkA r a ia<rkA r b ib:=by have:=M.ne ia ib h1' h2;rw[eA h1',eA h2] at this ⊢;lia
  have m2:=m.pushA' M h1' λj j1 j2=>aZ q'<|M.asb.le0 j1 j2
  by_cases e:ia+1+1=a.size
  ·rw[if_pos<|by simpa using e];exact AJ ⟨rfl,.inl<|aBN M m2 e⟩
  ·rw[if_neg<|by simpa using e]
   split
   ·exact AJ ⟨rfl,.inr ⟨rfl,m2,by show ia+1+1<_;lia,h2,by show _<=ia+1+ib;lia⟩⟩
   ·exact AJ ⟨rfl,rfl,m2,by show ia+1+1<_;lia,h2,by show _<=ia+1+ib;lia⟩
def P0(r:AI->Nat)(a b:Array AI)(st0:CF)(N:Nat):ForInStep ML0->CF->Prop:=λq st'=>SameG st0 st'/\match q with
 |.done c=>FIN r a b c.1
 |.yield c=>OKm r a b N c.1 c.2.1 c.2.2.1 c.2.2.2.1
theorem aOM{c:ML0}(K:mB prog w A E s κ r a₀)(hk:kindOf st0=κ)(M:MPre r a₀ a b)(S:SameG st0 st)(h:OKm r a b N c.1 c.2.1 c.2.2.1 c.2.2.2.1):wpS (AD prog w) A E s (lo0 a b c) (P0 r a b st0<|N+1) st:=by
 obtain⟨o,out,ia,ib,mg⟩:=c;obtain⟨h0,m,h1,h2,hN⟩:=h;unfold lo0;refine AG<|Ag (Ab (I:=λx d st'=>st'=st/\OKm r a b (N+x) d.1 d.2.1 d.2.2.1 d.2.2.2.1) (Q:=λd st'=>st'=st/\(FIN r a b d.1\/OKm r a b (N+1) d.1 d.2.1 d.2.2.1 d.2.2.2.1)) ?step ?fin ⟨rfl,rfl,m,h1,h2,hN⟩) ?post
 case step=>
  rintro x d st' _ hx ⟨rfl,hd⟩;refine Ag (aPh K (S.kind.trans hk) M hd) λq st'' hq=>?_
  obtain⟨rfl,hq⟩:=hq;cases q with
  |done d=>exact⟨rfl,hq.imp id λz=>z.mono<|by lia⟩
  |yield d=>exact⟨rfl,hq⟩
 case fin=>rintro d st' ⟨rfl,_,_,h3,h4,h5⟩;lia
 case post=>
  rintro d st' ⟨rfl,hd⟩;obtain⟨o1,out,ia,ib,ac,bc⟩:=d
  rcases hd with⟨res,e,hres⟩|⟨e,m,h1,h2,hN⟩
  ·subst e;exact AJ ⟨S,res,rfl,hres⟩
  ·subst e;refine AG (wpS_lift<|Av ⟨rfl,?_⟩);refine AG (Ag (Ab (I:=λx d st'=>SameG st0 st'/\OKm r a b (N+1+x) d.1 d.2.1 d.2.2.1 d.2.2.2.1) (Q:=λd st'=>SameG st0 st'/\(FIN r a b d.1\/OKm r a b (N+1) d.1 d.2.1 d.2.2.1 d.2.2.2.1)) ?step2 ?fin2 ⟨S,rfl,m,h1,h2,hN⟩) ?post2)
   case step2=>
    rintro x ⟨o2,out,ia,ib,mg,ac,bc⟩ st' _ hx ⟨S,_,m,h1,h2,hN⟩;dsimp only at m h1 h2 hN;have key:∀mg,wpS (AD prog w) A E s (aNq a b out ia ib mg ac bc) (P2 r a b st0<|N+1+(x+1)) st':=λmg=>aLb K hk M S m h1 h2<|by lia
    unfold lo2
    split<;>
    ·refine Ag (key _) λq st'' hq=>?_
     obtain⟨S',hq⟩:=hq;cases q with
     |done d=>exact⟨S',hq.imp id λz=>z.mono<|by lia⟩
     |yield d=>exact⟨S',hq⟩
   case fin2=>rintro d st' ⟨_,_,_,h3,h4,h5⟩;lia
   case post2=>
    rintro⟨o2,out,ia,ib,mg,ac,bc⟩ st' ⟨S,hd⟩
    rcases hd with⟨res,e,hres⟩|⟨e,m,h1,h2,hN⟩
    ·subst e;exact AJ ⟨S,res,rfl,hres⟩
    ·subst e;exact AG (BL<|AJ ⟨S.set _,rfl,m,h1,h2,hN⟩)
theorem aBB(K:mB prog w A E s κ r a₀)(hk:kindOf st=κ)(M:MPre r a₀ a b)(h:∀out st',MD r a b out.toList->SameG st st'->Q out st'):wpS (AD prog w) A E s (zG a b) Q st:=by
 rw[aOv];refine AG (wpS_lift<|Av ⟨rfl,?_⟩);have b1:=M.b1;have a1:=M.a1;refine AG<|eO (by omega) ?_;have m0:MS r a b (#[]).toList 0 0:=⟨by lia,by lia,by simp,by simp,λx hx=>by simp at hx,λx hx=>by simp at hx⟩;have m:=m0.pushB' M (by omega) λj j1 j2=>aZ M.first<|M.asa.le0 j1 j2
 by_cases e:1=b.size
 ·rw[if_pos<|by simpa using e];obtain⟨res,e2,hr⟩:=aBL M m e;cases e2;exact AJ (h _ _ hr<|.refl _)
 ·rw[if_neg<|by simpa using e]
  by_cases e1:0+1=a.size
  ·rw[if_pos<|by simpa using e1];obtain⟨res,e2,hr⟩:=aBN M m e1;cases e2;exact AJ (h _ _ hr<|.refl _)
  ·rw[if_neg<|by simpa using e1];refine AG (wpS_get (AG<|Ag (Ab (I:=λx d st'=>SameG st st'/\OKm r a b (x+1) d.1 d.2.1 d.2.2.1 d.2.2.2.1) (Q:=λd st'=>SameG st st'/\FIN r a b d.1) ?step ?fin ⟨.refl _,rfl,m,by show 0+1<_;lia,by show 1<_;lia,aK _⟩) ?post))
   case step=>
    rintro x d st' _ hx ⟨S,hd⟩;refine Ag (aOM K hk M S hd) λq st'' hq=>?_
    obtain⟨S',hq⟩:=hq;cases q with
    |done d=>exact⟨S',hq⟩
    |yield d=>exact⟨S',hq⟩
   case fin=>rintro d st' ⟨_,_,_,h3,h4,h5⟩;lia
   case post=>rintro d st' ⟨S,res,e,hr⟩;rw[e];exact AJ<|h _ _ hr S
end
structure HS(r:AI->Nat)(a b:Array AI)(out:List AI)(na nb:Nat):Prop where
 ha:na<=a.size
 hb:nb<=b.size
 perm:out.Perm (a.toList.drop na++b.toList.drop nb)
 dsc:(out.map r).Pairwise (λx y=>y<x)
 la:∀x∈out,∀i,i<na->rkA r a i<r x
 lb:∀x∈out,∀i,i<nb->rkA r b i<r x
variable {na nb:Nat}
def HS.swap(m:HS r a b out na nb):HS r b a out nb na:=⟨m.hb,m.ha,m.perm.trans iR,m.dsc,m.lb,m.la⟩
theorem HS.pushA(m:HS r a b out (na+1) nb)(asa:AscR r a 0 a.size)(hb:∀j,j<nb->rkA r b j<rkA r a na):HS r a b (out++[a[na]'m.ha]) na nb:=by
 have h:na<a.size:=m.ha;refine⟨cX h,m.hb,?_,?_,λx hx i h1=>?_,λx hx i h1=>?_⟩
 ·have e:a.toList.drop na=a[na]::a.toList.drop (na+1):=by rw[dX<|by simpa using h];simp
  rw[e];exact(iR).trans<|List.Perm.cons _ m.perm
 ·rw[aO,eW];refine⟨m.dsc,kG _ _,λx hx y hy=>?_⟩;obtain⟨z,hz,rfl⟩:=aJ.mp hx;have:=by simpa using hy
  rw[this,<-eA (r:=r) h];exact m.la z hz na<|jQ _
 ·rcases aS.mp hx with hx|hx
  ·exact m.la x hx i<|by lia
  ·rw[aH.mp hx,<-eA (r:=r) h];exact asa i na (bM _) h1 h
 ·rcases aS.mp hx with hx|hx
  ·exact m.lb x hx i h1
  ·rw[aH.mp hx,<-eA (r:=r) h];exact hb i h1
theorem aIm(h:k+1<=na)(h2:na<=a.size):(a.extract (na-(k+1)) na).toList.reverse=(a.extract (na-k) na).toList.reverse++[a[na-(k+1)]'(by omega)]:=by
 simp only[eQ,dJ]
 have e:a.toList.drop (na-(k+1))=a[na-(k+1)]'(by lia)::a.toList.drop (na-k):=by rw[dX<|by simp;lia];rw[show na-(k+1)+1=na-k by lia];simp
 rw[e,show na-(na-(k+1))=(na-(na-k))+1 by lia,List.take_succ_cons,List.reverse_cons]
theorem HS.extA(asa:AscR r a 0 a.size)(m:HS r a b out na nb):∀k,k<=na->(∀i,na-k<=i->i<na->∀j,j<nb->rkA r b j<rkA r a i)->HS r a b (out++(a.extract (na-k) na).toList.reverse) (na-k) nb
 |0,_,_=>by
  have e:(a.extract (na-0) na).toList.reverse=[]:=by simp[eQ,dJ]
  rw[e,dD];exact m
 |k+1,h,hb=>by
  have ih:=HS.extA asa m k (by lia) λi h1 h2=>hb i (by lia) h2
  rw[aIm h m.ha,<-dW];have e:na-k=na-(k+1)+1:=by lia
  rw[e] at ih;have:=ih.pushA asa (hb (na-(k+1)) (aK _)<|by lia);rw[show a.extract (na-k) na=a.extract (na-(k+1)+1) na by rw[e]];exact this
def HS.extB(asb:AscR r b 0 b.size)(m:HS r a b out na nb)(k:Nat)(h:k<=nb)(hb:∀i,nb-k<=i->i<nb->∀j,j<na->rkA r a j<rkA r b i):HS r a b (out++(b.extract (nb-k) nb).toList.reverse) na (nb-k):=(m.swap.extA asb k h hb).swap
def HS.done(m:HS r a b out 0 0):MD r a b out.reverse:=by
 refine⟨(List.reverse_perm _).trans ?_,?_⟩
 ·have:=m.perm;simpa using this
 ·rw[aMR,List.pairwise_reverse];exact m.dsc
theorem HS.finB(m:HS r a b out 0 nb)(asb:AscR r b 0 b.size):MD r a b ((b.extract 0 nb).toList++out.reverse):=by
 have:=m.extB asb nb (aK _) λi h1 h2 j hj=>by lia
 rw[aGO] at this;have:=this.done
 rwa[aGV,aGL] at this
theorem HS.finL(m:HS r a b out na 1)(asa:AscR r a 0 a.size)(asb:AscR r b 0 b.size)(first:∀i,i<a.size->rkA r b 0<rkA r a i):MD r a b ((b.extract 0 1).toList++(a.extract 0 na).toList++out.reverse):=by
 have ha:=m.ha
 have:=m.extA asa na (aK _) λi h1 h2 j hj=>by
  have:j=0:=by lia
  subst this;exact first i<|by lia
 rw[aGO] at this;have:=this.finB asb
 rwa[aGV,aGL,<-dW] at this
def zF:Array AI->Array AI->StateT CF Sem (Array AI):=sortPriv%PySem.Builtin.mergeHi
abbrev MH1:=Option (Array AI)×Nat×Nat×Array AI×Nat×Nat
abbrev MH2:=Option (Array AI)×Nat×Nat×Array AI×Nat×Nat×Nat
abbrev MH0:=Option (Array AI)×Nat×Nat×Array AI×Nat
noncomputable def dnH(a b out:Array AI)(na nb:Nat):Array AI:=a.extract 0 na++b.extract 0 nb++out.reverse
noncomputable def fsB(a b out:Array AI)(na nb:Nat):Array AI:=b.extract 0 nb++a.extract 0 na++out.reverse
def hi1(a b:Array AI)(mg:Nat)(c:MH1):SM (ForInStep MH1):=do
 let y <-elem' b (c.2.2.1-1)
 let x <-elem' a (c.2.1-1)
 let q <-lt' y x
 match q with
 |some aw=>
  if aw=true then do
   let x <-elem' a (c.2.1-1)
   if(c.2.1-1==0)=true then pure (.done (some<|dnH a b (c.2.2.2.1.push x) (c.2.1-1) c.2.2.1,c.2.1-1,c.2.2.1,c.2.2.2.1.push x,c.2.2.2.2.1+1,0))
   else if c.2.2.2.2.1+1>=mg then pure (.done (none,c.2.1-1,c.2.2.1,c.2.2.2.1.push x,c.2.2.2.2.1+1,0))
   else pure (.yield (none,c.2.1-1,c.2.2.1,c.2.2.2.1.push x,c.2.2.2.2.1+1,0))
  else do
   let y <-elem' b (c.2.2.1-1)
   if(c.2.2.1-1==1)=true then pure (.done (some (fsB a b (c.2.2.2.1.push y) c.2.1<|c.2.2.1-1),c.2.1,c.2.2.1-1,c.2.2.2.1.push y,0,c.2.2.2.2.2+1))
   else if c.2.2.2.2.2+1>=mg then pure (.done (none,c.2.1,c.2.2.1-1,c.2.2.2.1.push y,0,c.2.2.2.2.2+1))
   else pure (.yield (none,c.2.1,c.2.2.1-1,c.2.2.2.1.push y,0,c.2.2.2.2.2+1))
 |_=>pure<|.done (some<|dnH a b c.2.2.2.1 c.2.1 c.2.2.1,c.2.1,c.2.2.1,c.2.2.2.1,c.2.2.2.2.1,c.2.2.2.2.2)
def aQs(a b out:Array AI)(na nb mg k k1:Nat):SM (ForInStep MH2):=do
 let x <-elem' a (na-1)
 if(na-1==0)=true then pure (.done (some<|dnH a b (out.push x) (na-1) nb,na-1,nb,out.push x,mg,k,k1))
 else if(decide (k<7)&&decide (k1<7))=true then pure (.done (none,na-1,nb,out.push x,mg,k,k1))
 else pure (.yield (none,na-1,nb,out.push x,mg,k,k1))
def aQw(a b out:Array AI)(na nb mg k bc:Nat):SM (ForInStep MH2):=do
 let y <-elem' b (nb-1)
 if(nb-1==1)=true then pure (.done (some (fsB a b (out.push y) na<|nb-1),na,nb-1,out.push y,mg,k,bc))
 else do
  let x <-elem' a (na-1)
  let q <-mV true x b 0 (nb-1) (nb-1-1)
  match q with
  |some at_=>
   if nb-1-at_>0 then
    if(at_==1)=true then pure (.done (some<|fsB a b (out.push y++(b.extract at_<|nb-1).reverse) na at_,na,at_,out.push y++(b.extract at_<|nb-1).reverse,mg,k,nb-1-at_))
    else if(at_==0)=true then pure (.done (some<|dnH a b (out.push y++(b.extract at_<|nb-1).reverse) na at_,na,at_,out.push y++(b.extract at_<|nb-1).reverse,mg,k,nb-1-at_))
    else aQs a b (out.push y++(b.extract at_<|nb-1).reverse) na at_ mg k (nb-1-at_)
   else aQs a b (out.push y) na (nb-1) mg k (nb-1-at_)
  |_=>pure<|.done (some (dnH a b (out.push y) na<|nb-1),na,nb-1,out.push y,mg,k,bc)
def aNn(a b out:Array AI)(na nb mg ac bc:Nat):SM (ForInStep MH2):=do
 lB mg
 let y <-elem' b (nb-1)
 let q <-mV false y a 0 na (na-1)
 match q with
 |some at_=>
  if na-at_>0 then
   if(at_==0)=true then pure (.done (some<|dnH a b (out++(a.extract at_ na).reverse) at_ nb,at_,nb,out++(a.extract at_ na).reverse,mg,na-at_,bc))
   else aQw a b (out++(a.extract at_ na).reverse) at_ nb mg (na-at_) bc
  else aQw a b out na nb mg (na-at_) bc
 |_=>pure<|.done (some<|dnH a b out na nb,na,nb,out,mg,ac,bc)
def hi2(a b:Array AI)(c:MH2):SM (ForInStep MH2):=
 if c.2.2.2.2.1>1 then aNn a b c.2.2.2.1 c.2.1 c.2.2.1 (c.2.2.2.2.1-1) c.2.2.2.2.2.1 c.2.2.2.2.2.2
 else aNn a b c.2.2.2.1 c.2.1 c.2.2.1 c.2.2.2.2.1 c.2.2.2.2.2.1 c.2.2.2.2.2.2
def hi0(a b:Array AI)(c:MH0):SM (ForInStep MH0):=do
 let d <-forIn [:a.size+b.size] ((none,c.2.1,c.2.2.1,c.2.2.2.1,0,0):MH1) λ_ d=>hi1 a b c.2.2.2.2 d
 match d.1 with
 |some r=>pure<|.done (some r,d.2.1,d.2.2.1,d.2.2.2.1,c.2.2.2.2)
 |none=>do
  liftM (rule "list.sort.gallop")
  let e <-forIn [:a.size+b.size] ((none,d.2.1,d.2.2.1,d.2.2.2.1,c.2.2.2.2+1,d.2.2.2.2.1,d.2.2.2.2.2):MH2) λ_ e=>hi2 a b e
  match e.1 with
  |some r=>pure<|.done (some r,e.2.1,e.2.2.1,e.2.2.2.1,e.2.2.2.2.1)
  |none=>do
   lB (e.2.2.2.2.1+1)
   pure (.yield (none,e.2.1,e.2.2.1,e.2.2.2.1,e.2.2.2.2.1+1))
def hiM(a b:Array AI):SM (Array AI):=do
 liftM (rule "list.sort.merge-hi")
 let x <-elem' a (a.size-1)
 if(a.size-1==0)=true then pure (dnH a b #[x] (a.size-1) b.size)
 else if(b.size==1)=true then pure (fsB a b #[x] (a.size-1) b.size)
 else do
  let g <-get
  let c <-forIn [:a.size+b.size] ((none,a.size-1,b.size, #[x],gallopOf g):MH0) λ_ c=>hi0 a b c
  match c.1 with
  |some r=>pure r
  |none=>liftM (unsupported "internal:list.sort.merge-bound":Sem (Array AI))
def aOH(a b:Array AI):zF a b=hiM a b:=by kernel_rfl
def OKh(r:AI->Nat)(a b:Array AI)(N:Nat)(o:Option (Array AI))(out:Array AI)(na nb:Nat):Prop:=o=none/\HS r a b out.toList na nb/\1<=na/\2<=nb/\na+nb+N<=a.size+b.size
theorem OKh.mono{out:Array AI}(h:OKh r a b N o out na nb)(le:N'<=N):OKh r a b N' o out na nb:=⟨h.1,h.2.1,h.2.2.1,h.2.2.2.1,by have:=h.2.2.2.2;lia⟩
section
variable {prog:AF}{w:AL}{A:CA}{E:BX->BY->Prop}{s:BY}{κ:BA}{r:AI->Nat}{a₀ a b out:Array AI}{st st0:CF}{na nb:Nat}
def MPre.first'(M:MPre r a₀ a b):∀i,i<a.size->rkA r b 0<rkA r a i:=λi hi=>aZ M.first<|M.asa.le0 (bM _) hi
def ex0(xs:Array AI):(xs.extract 0 0).toList=[]:=by simp[eQ,dJ]
def aBQ(M:MPre r a₀ a b)(m:HS r a b out.toList na nb)(h:na=0):FIN r a b (some<|dnH a b out na nb):=by subst h;refine⟨_,rfl,?_⟩;have:=m.finB M.asb;unfold dnH;rw[dF,dF,ex0,lU];exact this
def aBI(M:MPre r a₀ a b)(m:HS r a b out.toList na nb)(h:nb=1):FIN r a b (some<|fsB a b out na nb):=by subst h;refine⟨_,rfl,?_⟩;have:=m.finL M.asa M.asb M.first';unfold fsB;rw[dF,dF,lU];exact this
theorem HS.pushA'(M:MPre r a₀ a b)(m:HS r a b out.toList na nb)(h1:1<=na)(hb:∀j,j<nb->rkA r b j<rkA r a (na-1)):HS r a b (out.push<|a[na-1]'(by have:=m.ha;omega)).toList (na-1) nb:=by
 rw[iS];have e:na=na-1+1:=by lia
 have m':HS r a b out.toList (na-1+1) nb:=by rw[<-e];exact m
 exact m'.pushA M.asa hb
theorem HS.pushB'(M:MPre r a₀ a b)(m:HS r a b out.toList na nb)(h1:1<=nb)(hb:∀j,j<na->rkA r a j<rkA r b (nb-1)):HS r a b (out.push<|b[nb-1]'(by have:=m.hb;omega)).toList na (nb-1):=by
 rw[iS];have e:nb=nb-1+1:=by lia
 have m':HS r a b out.toList na (nb-1+1):=by rw[<-e];exact m
 exact(m'.swap.pushA M.asb hb).swap
theorem HS.extA'(M:MPre r a₀ a b)(m:HS r a b out.toList na nb)(h:t<=na)(hb:∀i,t<=i->i<na->∀j,j<nb->rkA r b j<rkA r a i):HS r a b (out++(a.extract t na).reverse).toList t nb:=by rw[dF,lU];have:=m.extA M.asa (na-t) (by lia) (by rw[show na-(na-t)=t by lia];exact hb);rw[show na-(na-t)=t by omega] at this;exact this
theorem HS.extB'(M:MPre r a₀ a b)(m:HS r a b out.toList na nb)(h:t<=nb)(hb:∀i,t<=i->i<nb->∀j,j<na->rkA r a j<rkA r b i):HS r a b (out++(b.extract t nb).reverse).toList na t:=by rw[dF,lU];have:=m.extB M.asb (nb-t) (by lia) (by rw[show nb-(nb-t)=t by lia];exact hb);rw[show nb-(nb-t)=t by lia] at this;exact this
def H2(r:AI->Nat)(a b:Array AI)(st0:CF)(N:Nat):ForInStep MH2->CF->Prop:=λq st'=>SameG st0 st'/\match q with
 |.done c=>FIN r a b c.1\/OKh r a b N c.1 c.2.2.2.1 c.2.1 c.2.2.1
 |.yield c=>OKh r a b N c.1 c.2.2.2.1 c.2.1 c.2.2.1
theorem aEw(M:MPre r a₀ a b)(S:SameG st0 st)(m:HS r a b out.toList na nb)(h1:1<=na)(h2:2<=nb)(hN:na-1+nb+N<=a.size+b.size)(hb:∀j,j<nb->rkA r b j<rkA r a (na-1)):wpS (AD prog w) A E s (aQs a b out na nb mg k k1) (H2 r a b st0 N) st:=by
 have ha:=m.ha;refine AG<|eO (by lia) ?_;have m2:=m.pushA' M h1 hb
 by_cases e:na-1=0
 ·rw[if_pos<|by simpa using e];exact AJ ⟨S,.inl<|aBQ M m2 e⟩
 ·rw[if_neg<|by simpa using e]
  split
  ·exact AJ ⟨S,.inr ⟨rfl,m2,by show 1<=na-1;omega,h2,hN⟩⟩
  ·exact AJ ⟨S,rfl,m2,by show 1<=na-1;omega,h2,hN⟩
theorem aEG(K:mB prog w A E s κ r a₀)(hk:kindOf st0=κ)(M:MPre r a₀ a b)(S:SameG st0 st)(m:HS r a b out.toList na nb)(h1:1<=na)(h2:2<=nb)(hN:na-1+nb+N<=a.size+b.size)(hb:∀j,j<na->rkA r a j<rkA r b (nb-1)):wpS (AD prog w) A E s (aQw a b out na nb mg k bc) (H2 r a b st0 N) st:=by
 have ha:=m.ha;have hbb:=m.hb;refine AG<|eO (by lia) ?_;have m2:=m.pushB' M (by lia) hb
 by_cases e:nb-1=1
 ·rw[if_pos<|by simpa using e];exact AJ ⟨S,.inl<|aBI M m2 e⟩
 ·rw[if_neg<|by simpa using e];have h1':na-1<a.size:=by omega
  refine AG<|eO h1' (AG<|qA K (S.kind.trans hk) M.mb (M.ma _<|by simp) (by omega) (by omega) (λi j h1 h2 h3=>M.asb i j (by omega) h2<|by omega) (λi hi e=>M.ne (na-1) i h1' (by omega)<|by rw[aGP] at e;rw[e,eA h1']) λat_ c1 c2 c3=>?_);dsimp only;simp only[aGP] at c2 c3;rw[<-eA (r:=r) h1'] at c2 c3;have m3:=m2.extB' M c1 λi i1 i2 j hj=>bY (M.asa.le0 (by omega) h1')<|c3 i i1 i2
  have a0:1<=at_:=by
   by_cases q:at_=0
   ·subst q;have:=c3 0 (aK _) (by omega);have:=M.first' (na-1) h1';omega
   ·omega
  by_cases z:nb-1-at_>0
  ·rw[if_pos z]
   by_cases y:at_=1
   ·rw[if_pos<|by simpa using y];exact AJ ⟨S,.inl<|aBI M m3 y⟩
   ·rw[if_neg (by simpa using y),if_neg<|by simp;omega];exact aEw M S m3 h1 (by omega) (by omega) c2
  ·rw[if_neg z];have z0:at_=nb-1:=by omega
   subst z0;exact aEw M S m2 h1 (by omega) (by omega) c2
theorem aLm(K:mB prog w A E s κ r a₀)(hk:kindOf st0=κ)(M:MPre r a₀ a b)(S:SameG st0 st)(m:HS r a b out.toList na nb)(h1:1<=na)(h2:2<=nb)(hN:na-1+nb+N<=a.size+b.size):wpS (AD prog w) A E s (aNn a b out na nb mg ac bc) (H2 r a b st0 N) st:=by
 unfold aNn;have ha:=m.ha;have hbb:=m.hb;refine AG<|BL ?_;have S:=S.set mg;have h2':nb-1<b.size:=by lia
 refine AG<|eO h2' (AG<|qA K (S.kind.trans hk) M.ma (M.mb _<|by simp) (by lia) (by lia) (λi j h1 h2 h3=>M.asa i j (by omega) h2<|by lia) (λi hi e=>M.ne i (nb-1) (by lia) h2'<|by rw[aGP] at e;rw[e,eA h2']) λat_ c1 c2 c3=>?_);dsimp only;simp at c2 c3;rw[<-eA (r:=r) h2'] at c2 c3;have m3:=m.extA' M c1 λi i1 i2 j hj=>bY (M.asb.le0 (by omega) h2')<|c3 i i1 i2
 by_cases z:na-at_>0
 ·rw[if_pos z]
  by_cases y:at_=0
  ·rw[if_pos<|by simpa using y];exact AJ ⟨S,.inl<|aBQ M m3 y⟩
  ·rw[if_neg<|by simpa using y];exact aEG K hk M S m3 (by omega) h2 (by omega) c2
 ·rw[if_neg z];have z0:at_=na:=by omega
  subst z0;exact aEG K hk M S m h1 h2 hN c2
def H1(r:AI->Nat)(a b:Array AI)(st:CF)(N:Nat):ForInStep MH1->CF->Prop:=λq st'=>st'=st/\match q with
 |.done c=>FIN r a b c.1\/OKh r a b N c.1 c.2.2.2.1 c.2.1 c.2.2.1
 |.yield c=>OKh r a b N c.1 c.2.2.2.1 c.2.1 c.2.2.1
theorem aPI{c:MH1}(K:mB prog w A E s κ r a₀)(hk:kindOf st=κ)(M:MPre r a₀ a b)(h:OKh r a b N c.1 c.2.2.2.1 c.2.1 c.2.2.1):wpS (AD prog w) A E s (hi1 a b mg c) (H1 r a b st<|N+1) st:=by
 obtain⟨o,na,nb,out,ac,bc⟩:=c;obtain⟨h0,m,h1,h2,hN⟩:=h;dsimp only at h0 m h1 h2 hN;unfold hi1;have ha:=m.ha;have hbb:=m.hb;have h1':na-1<a.size:=by lia
 have h2':nb-1<b.size:=by lia
 refine AG<|eO h2' (AG<|eO h1' (AG<|K.ask (M.mb _<|by simp) (M.ma _<|by simp) hk ?_));dsimp only
 by_cases q:r b[nb-1]<r a[na-1]
 ·rw[if_pos<|by simpa using q];refine AG<|eO h1' ?_;have q':rkA r b (nb-1)<rkA r a (na-1):=by rw[eA h1',eA h2'];exact q
  have m2:=m.pushA' M h1 λj hj=>bY (M.asb.le0 (by lia) h2') q'
  by_cases e:na-1=0
  ·rw[if_pos<|by simpa using e];exact AJ ⟨rfl,.inl<|aBQ M m2 e⟩
  ·rw[if_neg<|by simpa using e]
   split
   ·exact AJ ⟨rfl,.inr ⟨rfl,m2,by show 1<=na-1;omega,h2,by show na-1+nb+_<=_;omega⟩⟩
   ·exact AJ ⟨rfl,rfl,m2,by show 1<=na-1;omega,h2,by show na-1+nb+_<=_;omega⟩
 ·rw[if_neg<|by simpa using q];refine AG (eO h2' ?_)
  have q':rkA r a (na-1)<rkA r b (nb-1):=by have:=M.ne (na-1) (nb-1) h1' h2';rw[eA h1',eA h2'] at this ⊢;lia
  have m2:=m.pushB' M (by lia) λj hj=>bY (M.asa.le0 (by lia) h1') q'
  by_cases e:nb-1=1
  ·rw[if_pos<|by simpa using e];exact AJ ⟨rfl,.inl<|aBI M m2 e⟩
  ·rw[if_neg<|by simpa using e]
   split
   ·exact AJ ⟨rfl,.inr ⟨rfl,m2,h1,by show 2<=nb-1;omega,by show na+(nb-1)+_<=_;omega⟩⟩
   ·exact AJ ⟨rfl,rfl,m2,h1,by show 2<=nb-1;omega,by show na+(nb-1)+_<=_;omega⟩
def H0(r:AI->Nat)(a b:Array AI)(st0:CF)(N:Nat):ForInStep MH0->CF->Prop:=λq st'=>SameG st0 st'/\match q with
 |.done c=>FIN r a b c.1
 |.yield c=>OKh r a b N c.1 c.2.2.2.1 c.2.1 c.2.2.1
theorem aPM{c:MH0}(K:mB prog w A E s κ r a₀)(hk:kindOf st0=κ)(M:MPre r a₀ a b)(S:SameG st0 st)(h:OKh r a b N c.1 c.2.2.2.1 c.2.1 c.2.2.1):wpS (AD prog w) A E s (hi0 a b c) (H0 r a b st0<|N+1) st:=by
 obtain⟨o,na,nb,out,mg⟩:=c;obtain⟨h0,m,h1,h2,hN⟩:=h;unfold hi0;refine AG<|Ag (Ab (I:=λx d st'=>st'=st/\OKh r a b (N+x) d.1 d.2.2.2.1 d.2.1 d.2.2.1) (Q:=λd st'=>st'=st/\(FIN r a b d.1\/OKh r a b (N+1) d.1 d.2.2.2.1 d.2.1 d.2.2.1)) ?step ?fin ⟨rfl,rfl,m,h1,h2,hN⟩) ?post
 case step=>
  rintro x d st' _ hx ⟨rfl,hd⟩;refine Ag (aPI K (S.kind.trans hk) M hd) λq st'' hq=>?_
  obtain⟨rfl,hq⟩:=hq;cases q with
  |done d=>exact⟨rfl,hq.imp id λz=>z.mono<|by omega⟩
  |yield d=>exact⟨rfl,hq⟩
 case fin=>rintro d st' ⟨rfl,_,_,h3,h4,h5⟩;lia
 case post=>
  rintro d st' ⟨rfl,hd⟩;obtain⟨o1,na,nb,out,ac,bc⟩:=d
  rcases hd with⟨res,e,hres⟩|⟨e,m,h1,h2,hN⟩
  ·subst e;exact AJ ⟨S,res,rfl,hres⟩
  ·subst e;refine AG (wpS_lift<|Av ⟨rfl,?_⟩);refine AG (Ag (Ab (I:=λx d st'=>SameG st0 st'/\OKh r a b (N+1+x) d.1 d.2.2.2.1 d.2.1 d.2.2.1) (Q:=λd st'=>SameG st0 st'/\(FIN r a b d.1\/OKh r a b (N+1) d.1 d.2.2.2.1 d.2.1 d.2.2.1)) ?step2 ?fin2 ⟨S,rfl,m,h1,h2,hN⟩) ?post2)
   case step2=>
    rintro x ⟨o2,na,nb,out,mg,ac,bc⟩ st' _ hx ⟨S,_,m,h1,h2,hN⟩;dsimp only at m h1 h2 hN;have key:∀mg,wpS (AD prog w) A E s (aNn a b out na nb mg ac bc) (H2 r a b st0<|N+1+(x+1)) st':=λmg=>aLm K hk M S m h1 h2<|by lia
    unfold hi2
    split<;>
    ·refine Ag (key _) λq st'' hq=>?_
     obtain⟨S',hq⟩:=hq;cases q with
     |done d=>exact⟨S',hq.imp id λz=>z.mono<|by omega⟩
     |yield d=>exact⟨S',hq⟩
   case fin2=>rintro d st' ⟨_,_,_,h3,h4,h5⟩;lia
   case post2=>
    rintro⟨o2,na,nb,out,mg,ac,bc⟩ st' ⟨S,hd⟩
    rcases hd with⟨res,e,hres⟩|⟨e,m,h1,h2,hN⟩
    ·subst e;exact AJ ⟨S,res,rfl,hres⟩
    ·subst e;exact AG (BL<|AJ ⟨S.set _,rfl,m,h1,h2,hN⟩)
theorem aBA(K:mB prog w A E s κ r a₀)(hk:kindOf st=κ)(M:MPre r a₀ a b)(h:∀out st',MD r a b out.toList->SameG st st'->Q out st'):wpS (AD prog w) A E s (zF a b) Q st:=by
 rw[aOH];refine AG (wpS_lift<|Av ⟨rfl,?_⟩);have b1:=M.b1;have a1:=M.a1;refine AG<|eO (by lia) ?_;have m0:HS r a b (#[]).toList a.size b.size:=⟨aK _,aK _,by rw[aDE<|by simp,aDE<|by simp];exact .refl _,by simp,λx hx=>by simp at hx,λx hx=>by simp at hx⟩;have m:=m0.pushA' M a1 λj hj=>M.last' j hj
 by_cases e:a.size-1=0
 ·rw[if_pos<|by simpa using e];obtain⟨res,e2,hr⟩:=aBQ M m e;cases e2;exact AJ (h _ _ hr<|.refl _)
 ·rw[if_neg<|by simpa using e]
  by_cases e1:b.size=1
  ·rw[if_pos<|by simpa using e1];obtain⟨res,e2,hr⟩:=aBI M m e1;cases e2;exact AJ (h _ _ hr<|.refl _)
  ·rw[if_neg<|by simpa using e1];refine AG (wpS_get (AG<|Ag (Ab (I:=λx d st'=>SameG st st'/\OKh r a b (x+1) d.1 d.2.2.2.1 d.2.1 d.2.2.1) (Q:=λd st'=>SameG st st'/\FIN r a b d.1) ?step ?fin ⟨.refl _,rfl,m,by show 1<=a.size-1;omega,by show 2<=b.size;omega,by show a.size-1+b.size+(0+1)<=_;omega⟩) ?post))
   case step=>
    rintro x d st' _ hx ⟨S,hd⟩;refine Ag (aPM K hk M S hd) λq st'' hq=>?_
    obtain⟨S',hq⟩:=hq;cases q with
    |done d=>exact⟨S',hq⟩
    |yield d=>exact⟨S',hq⟩
   case fin=>rintro d st' ⟨_,_,_,h3,h4,h5⟩;omega
   case post=>rintro d st' ⟨S,res,e,hr⟩;rw[e];exact AJ<|h _ _ hr S
end
abbrev Pnd:=Array<|Nat×Nat×Nat
noncomputable def wbA(sa:Nat)(m:Array AI)(xs:Array AI):Array AI:=m.toList.zipIdx.foldl (λa (q:AI×Nat)=>a.setIfInBounds (sa+q.2) q.1) xs
def mgC(x y:Array AI)(na nb sa:Nat):SM Bool:=do
 let merged <-if na<=nb then zG x y else zF x y
 modify λs=>setArr s (wbA sa merged<|AK s)
 let s <-get
 pure (failedOf s).isNone
def mgB(xs:Array AI)(sa na sb nb:Nat):SM Bool:=do
 if(na==0)=true then pure true
 else do
  let x <-elem' xs (sa+na-1)
  let q <-mV true x xs sb nb (nb-1)
  match q with
  |some nb=>if(nb==0)=true then pure true else mgC (xs.extract sa sb) (xs.extract sb<|sb+nb) na nb sa
  |_=>pure false
def mgA(i:Nat):SM Bool:=do
 let s <-get
 match(AC s)[i]?,(AC s)[i+1]? with
 |some (sa,na,pw),some (sb,nb,_)=>do
  set (BS s (((AC s).setIfInBounds i (sa,na+nb,pw)).eraseIdxIfInBounds<|i+1))
  let y <-elem' (AK s) sb
  let q <-mV false y (AK s) sa na 0
  match q with
  |some k=>mgB (AK s) (sa+k) (na-k) sb nb
  |_=>pure false
 |_,_=>liftM (unsupported "internal:list.sort.pending":Sem Bool)
def aPx(i:Nat):mergeAt' i=mgA i:=by kernel_rfl
noncomputable def srIn(pw:Nat):SM (ForInStep<|Option Unit×Unit):=do
 let s <-get
 match(if(AC s).size>1 then(AC s)[(AC s).size-2]? else none) with
 |some (_,_,older)=>
  if older<=pw then pure (.done (none,()))
  else do
   let b <-mergeAt' ((AC s).size-2)
   if(!b)=true then pure (.done (some (),())) else pure (.yield (none,()))
 |_=>pure<|.done (none,())
def aDY(lo n size:Nat):SM (ForInStep<|Option Unit×Nat):=do
 let s <-get
 match(AC s).back? with
 |some (s1,n1,_)=>do
  let c <-forIn [:size] ((none,()):Option Unit×Unit) λ_ _=>srIn<|power' size (2*s1+n1) (2*s1+n1+n1+n) size
  match c.1 with
  |some r=>pure<|.done (some r,lo)
  |none=>do
   modify λs=>BS s<|(AC s).modify ((AC s).size-1) λ(st,len,_)=>(st,len,power' size (2*s1+n1) (2*s1+n1+n1+n) size)
   modify λs=>BS s<|(AC s).push (lo,n,0)
   pure (.yield (none,lo+n))
 |_=>do
  modify λs=>BS s<|(AC s).push (lo,n,0)
  pure (.yield (none,lo+n))
def aJX(size minrun:Nat)(c:Option Unit×Nat):SM (ForInStep<|Option Unit×Nat):=
 if c.2>=size then pure (.done (none,c.2))
 else do
  let f <-countRun' c.2 (size-c.2)
  match f with
  |some found=>
   if found<minrun then do
    liftM (rule "list.sort.binary-insertion")
    let b <-binarySort' c.2 (min (size-c.2) minrun) found
    if(!b)=true then pure (.done (some (),c.2)) else aDY c.2 (min (size-c.2) minrun) size
   else aDY c.2 found size
  |_=>pure<|.done (some (),c.2)
noncomputable def aRs:SM (ForInStep<|Option Unit×Unit):=do
 let s <-get
 if(AC s).size<=1 then pure (.done (none,()))
 else do
  let b <-mergeAt' (if((if(AC s).size-2>0 then(AC s)[(AC s).size-2-1]?.map (·.2.1) else none).any (·<((AC s)[(AC s).size-2+1]?.elim 0 (·.2.1))))=true then(AC s).size-2-1 else(AC s).size-2)
  if(!b)=true then pure (.done (some (),())) else pure (.yield (none,()))
def srM:SM Unit:=do
 let s <-get
 let c <-forIn [:(AK s).size] ((none,0):Option Unit×Nat) λ_ c=>aJX (AK s).size (minRun' (AK s).size (AK s).size 0) c
 match c.1 with
 |some r=>pure r
 |none=>do
  let d <-forIn [:(AK s).size] ((none,()):Option Unit×Unit) λ_ _=>aRs
  match d.1 with
  |some r=>pure r
  |none=>pure ()
def aPn:sortRuns'=srM:=by kernel_rfl
variable {xs:Array AI}
theorem aEi(h:i+t<j)(hj:j<=xs.size):rkA r (xs.extract i j) t=rkA r xs (i+t):=by refine iH ?_;rw[Array.getElem?_extract,if_pos<|by lia]
theorem aJV(sa t:Nat):∀ (l:List AI) (n:Nat) (xs:Array AI),sa+n+l.length<=xs.size->((l.zipIdx n).foldl (λa (q:AI×Nat)=>a.setIfInBounds (sa+q.2) q.1) xs)[t]? =if sa+n<=t/\t<sa+n+l.length then l[t-(sa+n)]? else xs[t]?
 |[],n,xs,_=>by rw[if_neg<|by rw[iP];lia];rfl
 |p::l,n,xs,h=>by
  rw[bZ] at h
  have S:(xs.setIfInBounds (sa+n) p)[t]? =if sa+n=t then some p else xs[t]? :=by
   rw[zO]
   by_cases e:sa+n=t
   ·rw[if_pos e,if_pos e,if_pos<|by lia]
   ·rw[if_neg e,if_neg e]
  rw[aMQ,aNe,aJV sa t l (n+1) _ (by rw[Array.size_setIfInBounds];lia),bZ,S]
  by_cases e:sa+n=t
  ·rw[if_neg<|by lia,if_pos e,if_pos<|by lia,show t-(sa+n)=0 by lia];rfl
  ·by_cases q:sa+(n+1)<=t/\t<sa+(n+1)+l.length
   ·rw[if_pos q,if_pos<|by lia,show t-(sa+n)=t-(sa+(n+1))+1 by lia,List.getElem?_cons_succ]
   ·rw[if_neg q,if_neg e,if_neg<|by lia]
def aNI(h:sa+m.size<=xs.size)(t:Nat):(wbA sa m xs)[t]? =if sa<=t/\t<sa+m.size then m[t-sa]? else xs[t]? :=by have:=aJV sa t m.toList 0 xs (by simpa using h);unfold wbA;rw[this];simp
theorem aMv(h:sa+m.size<=xs.size):(wbA sa m xs).toList=xs.toList.take sa++(m.toList++xs.toList.drop (sa+m.size)):=by
 apply nY;intro t;rw[cU,aNI h];have l1:(xs.toList.take sa).length=sa:=by simp;lia
 by_cases h1:t<sa
 ·rw[if_neg<|by lia,cO (by rw[l1];exact h1),aBD h1,cU]
 ·rw[dR<|by lia,l1]
  by_cases h2:t<sa+m.size
  ·rw[if_pos ⟨by lia,h2⟩,cO (by simp;lia),cU]
  ·rw[if_neg<|by lia,dR (by simp;lia),aIT,eC];rw[show sa+m.size+(t-sa-m.size)=t by lia,cU]
theorem aDq(h:sa+n<=xs.size):xs.toList=xs.toList.take sa++((xs.extract sa<|sa+n).toList++xs.toList.drop (sa+n)):=by
 rw[eQ,dJ,show sa+n-sa=n by lia];have e:xs.toList.drop (sa+n)=(xs.toList.drop sa).drop n:=by rw[aPT]
 rw[e,fU,fU]
def aLl(h:sa+m.size<=xs.size)(hp:m.toList.Perm (xs.extract sa<|sa+m.size).toList):(wbA sa m xs).Perm xs:=by apply gP.mpr;rw[aMv h];refine List.Perm.trans ?_<|List.Perm.of_eq (aDq h).symm;exact List.Perm.append_left _<|List.Perm.append_right _ hp
theorem aLB(h1:i<=j)(h2:j<=k)(h3:k<=xs.size):(xs.extract i j).toList++(xs.extract j k).toList=(xs.extract i k).toList:=by simp ;rw[show k-i=(j-i)+(k-j) by lia,List.take_add,aPT,show i+(j-i)=j by lia]
def aMG(h:Q ⟨⟩ st2):wpS (AD prog w) A E s (set st2:StateT CF Sem PUnit) Q st:=by unfold wpS;exact AB ⟨rfl,h⟩
theorem aBs(K:mB prog w A E s κ r a₀)(hB:SB κ a₀ st)(p1:(AC st)[i]? =some (sa,na,pw))(p2:(AC st)[i+1]? =some (sb,nb,pw'))(hs:sb=sa+na)(n1:1<=na)(n2:1<=nb)(hz:sb+nb<=a₀.size)(A1:AscR r (AK st) sa sb) (A2:AscR r (AK st) sb (sb+nb))(h:∀st',SB κ a₀ st'->AC st'=((AC st).setIfInBounds i (sa,na+nb,pw)).eraseIdxIfInBounds (i+1)->(∀k,k<sa\/sb+nb<=k->(AK st')[k]? =(AK st)[k]?)->AscR r (AK st') sa (sb+nb)->Q true st'):wpS (AD prog w) A E s (mergeAt' i) Q st:=by
 have sz:=hB.size;have mem:∀x∈(AK st).toList,x∈a₀.toList:=λx hx=>(gP.mp hB.perm).mem_iff.mp hx
 rw[aPx];unfold mgA;refine AG<|wpS_get ?_;rw[p1,p2];dsimp only;refine AG<|aMG ?_;have hB1:SB κ a₀ (BS st (((AC st).setIfInBounds i (sa,na+nb,pw)).eraseIdxIfInBounds<|i+1)):=⟨hB.perm,hB.kind,hB.failed⟩
 have h1:∀st',SameG (BS st (((AC st).setIfInBounds i (sa,na+nb,pw)).eraseIdxIfInBounds<|i+1)) st'->AscR r (AK st) sa (sb+nb)->Q true st':=λst' S a=>by refine h st' ⟨by rw[S.arr];exact hB.perm,by rw[S.kind];exact hB.kind,by rw[S.failed];exact hB.failed⟩ S.pend (λk _=>by rw[S.arr]) ?_;rw[S.arr];exact a
 have hsb:sb<(AK st).size:=by lia
 refine AG<|eO hsb (AG<|qA K hB1.kind mem (mem _<|by simp) (by lia) (by omega) (by rw[<-hs];exact A1) (λj hj e=>?_) λk c1 c2 c3=>?_)
 ·rw[<-eA (r:=r) hsb] at e;exact hB.ne K (by omega) (by omega) (by omega) e
 rw[<-eA (r:=r) hsb] at c2 c3
 have c2':∀j,sa<=j->j<sa+k->rkA r (AK st) j<rkA r (AK st) sb:=λj j1 j2=>by
  have:=c2 (j-sa)<|by omega
  rwa[show sa+(j-sa)=j by omega] at this
 have c3':∀j,sa+k<=j->j<sb->rkA r (AK st) sb<rkA r (AK st) j:=λj j1 j2=>by
  have:=c3 (j-sa) (by omega)<|by omega
  rwa[show sa+(j-sa)=j by omega] at this
 have A2l:∀j,sb<=j->j<sb+nb->rkA r (AK st) sb<=rkA r (AK st) j:=λj j1 j2=>by
  by_cases e:j=sb
  ·rw[e];exact aK _
  ·exact cX<|A2 sb j (aK _) (by omega) j2
 dsimp only;unfold mgB
 by_cases e0:na-k=0
 ·rw[if_pos<|by simpa using e0];refine AJ (h1 _ (.refl _) λi j i1 ij j1=>?_)
  by_cases q1:j<sb
  ·exact A1 i j i1 ij q1
  ·by_cases q2:i<sb
   ·exact aZ (c2' i i1<|by omega)<|A2l j (by omega) j1
   ·exact A2 i j (by omega) ij j1
 ·rw[if_neg<|by simpa using e0];have ekn:sa+k+(na-k)-1=sb-1:=by omega
  have hkb:sb-1<(AK st).size:=by omega
  rw[ekn];refine AG<|eO hkb (AG<|qA K hB1.kind mem (mem _<|by simp) (by omega) (by omega) A2 (λj hj e=>?_) λn2' d1 d2 d3=>?_)
  ·rw[<-eA (r:=r) hkb] at e;exact hB.ne K (by omega) (by omega) (by omega) e
  rw[<-eA (r:=r) hkb] at d2 d3
  have d2':∀j,sb<=j->j<sb+n2'->rkA r (AK st) j<rkA r (AK st) (sb-1):=λj j1 j2=>by
   have:=d2 (j-sb)<|by omega
   rwa[show sb+(j-sb)=j by omega] at this
  have d3':∀j,sb+n2'<=j->j<sb+nb->rkA r (AK st) (sb-1)<rkA r (AK st) j:=λj j1 j2=>by
   have:=d3 (j-sb) (by omega)<|by omega
   rwa[show sb+(j-sb)=j by omega] at this
  have n2p:n2'≠0:=λz=>by subst z;have a:=d3' sb (by omega) (by omega);have b:=c3' (sb-1) (by omega) (by omega);omega
  dsimp only;rw[if_neg<|by simpa using n2p];unfold mgC
  have M:MPre r a₀ ((AK st).extract (sa+k) sb) ((AK st).extract sb<|sb+n2'):=by
   have s1:((AK st).extract (sa+k) sb).size=sb-(sa+k):=by rw[kE];omega
   have s2:((AK st).extract sb<|sb+n2').size=n2':=by rw[kE];omega
   have e1:∀t,t<sb-(sa+k)->rkA r ((AK st).extract (sa+k) sb) t=rkA r (AK st) (sa+k+t):=λt ht=>aEi (by omega)<|by omega
   have e2:∀t,t<n2'->rkA r ((AK st).extract sb<|sb+n2') t=rkA r (AK st) (sb+t):=λt ht=>aEi (by omega)<|by omega
   refine⟨by omega,by omega,λi j _ ij j1=>?_,λi j _ ij j1=>?_,λx hx=>?_,λx hx=>?_,λi j i1 j1=>?_,?_,?_⟩
   ·rw[s1] at j1;rw[e1 i<|by omega,e1 j j1];exact A1 _ _ (by omega) (by omega)<|by omega
   ·rw[s2] at j1;rw[e2 i<|by omega,e2 j j1];exact A2 _ _ (by omega) (by omega)<|by omega
   ·rw[eQ,dJ] at hx;exact mem x (lZ<|jG hx)
   ·rw[eQ,dJ] at hx;exact mem x (lZ<|jG hx)
   ·rw[s1] at i1;rw[s2] at j1;rw[e1 i i1,e2 j j1];exact hB.ne K (by omega) (by omega)<|by omega
   ·rw[e1 0<|by omega,e2 0<|by omega];exact c3' _ (by omega)<|by omega
   ·rw[s1,s2,e1 _<|by omega,e2 _<|by omega,show sa+k+(sb-(sa+k)-1)=sb-1 by omega];exact d2' _ (by omega)<|by omega
  have fin:∀out st',MD r ((AK st).extract (sa+k) sb) ((AK st).extract sb (sb+n2')) out.toList→SameG (BS st (((AC st).setIfInBounds i (sa,na+nb,pw)).eraseIdxIfInBounds (i+1))) st'→wpS (AD prog w) A E s (do
    modify λs=>setArr s (wbA (sa+k) out<|AK s)
    let s <-get
    pure (failedOf s).isNone) Q st':=λout st' D S=>by
   refine AG (BL<|AG (wpS_get<|AJ ?_))
   have ep:out.toList.Perm ((AK st).extract (sa+k)<|sb+n2').toList:=by
    have:=D.1
    rwa[aLB (by omega) (by omega)<|by omega] at this
   have sO:out.size=sb+n2'-(sa+k):=by have:=ep.length_eq;rw[eC,eC,kE] at this;omega
   have hz2:sa+k+out.size<=(AK st).size:=by omega
   have ep2:out.toList.Perm ((AK st).extract (sa+k)<|sa+k+out.size).toList:=by rw[sO,show sa+k+(sb+n2'-(sa+k))=sb+n2' by omega];exact ep
   have ff:failedOf (setArr st' (wbA (sa+k) out<|AK st'))=none:=by show failedOf st'=none;rw[S.failed];exact hB.failed
   rw[ff];have arr':AK st'=AK st:=S.arr
   have at_:∀t,(AK<|setArr st' (wbA (sa+k) out<|AK st'))[t]? =if sa+k<=t/\t<sb+n2' then out[t-(sa+k)]? else(AK st)[t]? :=λt=>by show(wbA (sa+k) out<|AK st')[t]? =_;rw[arr',aNI hz2,sO,show sa+k+(sb+n2'-(sa+k))=sb+n2' by omega]
   refine h _ ⟨?_,?_,ff⟩ ?_ (λt ht=>by rw[at_,if_neg<|by omega]) ?_
   ·show(wbA (sa+k) out<|AK st').Perm a₀;rw[arr'];exact(aLl hz2 ep2).trans hB.perm
   ·show kindOf st'=κ;rw[S.kind];exact hB.kind
   ·show AC st'=_;rw[S.pend]
   ·have rin:∀t,sa+k<=t->t<sb+n2'->rkA r (AK<|setArr st' (wbA (sa+k) out<|AK st')) t=rkA r out (t-(sa+k)):=λt t1 t2=>iH (by rw[at_,if_pos ⟨t1,t2⟩])
    have rout:∀t,t<sa+k\/sb+n2'<=t->rkA r (AK<|setArr st' (wbA (sa+k) out<|AK st')) t=rkA r (AK st) t:=λt ht=>iH (by rw[at_,if_neg<|by omega])
    have mo:∀u,u<out.size->∃v,sa+k<=v/\v<sb+n2'/\rkA r out u=rkA r (AK st) v:=λu hu=>by
     have hm:out[u]∈((AK st).extract (sa+k)<|sb+n2').toList:=ep.mem_iff.mp (by simp);obtain⟨v,hv,ev⟩:=cP hm
     have hv':v<sb+n2'-(sa+k):=by have:=hv;rw[eC,kE] at this;omega
     refine⟨sa+k+v,by omega,by omega,?_⟩;rw[eA hu,<-ev,<-aEi (i:=sa+k) (j:=sb+n2') (t:=v) (by omega) (by omega)];rw[eA<|by rw[kE];omega];simp
    have asO:∀u v,u<v->v<out.size->rkA r out u<rkA r out v:=λu v uv hv=>by have:=(jP.mp D.2) u v (by simp;omega) (by simpa using hv) uv;rw[eA<|by omega,eA hv];simpa using this
    have low:∀t u,sa<=t->t<sa+k->u<out.size->rkA r (AK st) t<rkA r out u:=λt u t1 t2 hu=>by
     obtain⟨v,v1,v2,ev⟩:=mo u hu;rw[ev]
     by_cases q:v<sb
     ·exact A1 t v t1 (by omega) q
     ·exact aZ (c2' t t1 t2) (A2l v (by omega)<|by omega)
    have high:∀t u,sb+n2'<=t->t<sb+nb->u<out.size->rkA r out u<rkA r (AK st) t:=λt u t1 t2 hu=>by
     obtain⟨v,v1,v2,ev⟩:=mo u hu;rw[ev]
     by_cases q:v<sb
     ·refine bY ?_ (d3' t t1 t2)
      by_cases e:v=sb-1
      ·rw[e];exact aK _
      ·exact cX (A1 v (sb-1) (by omega) (by omega)<|by omega)
     ·exact A2 v t (by omega) (by omega) t2
    intro u v u1 uv v1
    by_cases q1:u<sa+k
    ·rw[rout u<|.inl q1]
     by_cases q2:v<sa+k
     ·rw[rout v<|.inl q2];exact A1 u v u1 uv<|by omega
     ·by_cases q3:v<sb+n2'
      ·rw[rin v (by omega) q3];exact low _ _ u1 q1<|by omega
      ·rw[rout v (.inr<|by omega)];exact aZ (c2' u u1 q1)<|A2l v (by omega) v1
    ·by_cases q2:u<sb+n2'
     ·rw[rin u (by omega) q2]
      by_cases q3:v<sb+n2'
      ·rw[rin v (by omega) q3];exact asO _ _ (by omega)<|by omega
      ·rw[rout v (.inr<|by omega)];exact high _ _ (by omega) v1<|by omega
     ·rw[rout u (.inr<|by omega),rout v (.inr<|by omega)];exact A2 u v (by omega) uv v1
  dsimp only
  split
  ·exact AG<|aBB K hB1.kind M fin
  ·exact AG<|aBA K hB1.kind M fin
def Runs(r:AI->Nat)(xs:Array AI):Nat->List (Nat×Nat×Nat)->Nat->Prop
 |s,[],e=>s=e
 |s,p::l,e=>p.1=s/\1<=p.2.1/\AscR r xs s (s+p.2.1)/\Runs r xs (s+p.2.1) l e
variable {ys:Array AI}
theorem AscR.keep{s e:Nat}(h:AscR r xs s e)(k:∀t,s<=t->t<e->ys[t]? =xs[t]?):AscR r ys s e:=λi j hi hij hj=>by rw[iH (k i hi<|by lia),iH<|k j (by lia) hj];exact h i j hi hij hj
theorem Runs.le:∀ {l:List (Nat×Nat×Nat)}{s e:Nat},Runs r xs s l e->s+l.length<=e
 |[],s,e,h=>by rw[h];exact aK _
 |p::l,s,e,⟨_,h1,_,h2⟩=>by have:=h2.le;rw[bZ];lia
theorem Runs.keep:∀ {l:List (Nat×Nat×Nat)}{s e:Nat},Runs r xs s l e->(∀t,s<=t->t<e->ys[t]? =xs[t]?)->Runs r ys s l e
 |[],_,_,h,_=>h
 |p::l,s,e,⟨h0,h1,h2,h3⟩,k=>by have:=h3.le;exact⟨h0,h1,h2.keep λt t1 t2=>k t t1<|by lia,h3.keep λt t1 t2=>k t (by lia) t2⟩
def Runs.split:∀ {l1 l2:List (Nat×Nat×Nat)}{s e:Nat},Runs r xs s (l1++l2) e->∃m,Runs r xs s l1 m/\Runs r xs m l2 e
 |[],l2,s,e,h=>⟨s,rfl,h⟩
 |p::l1,l2,s,e,⟨h0,h1,h2,h3⟩=>by obtain⟨m,a,b⟩:=Runs.split h3;exact⟨m,⟨h0,h1,h2,a⟩,b⟩
def Runs.app:∀ {l1 l2:List (Nat×Nat×Nat)}{s m e:Nat},Runs r xs s l1 m->Runs r xs m l2 e->Runs r xs s (l1++l2) e
 |[],l2,s,m,e,h,h2=>by rw[h];exact h2
 |p::l1,l2,s,m,e,⟨h0,h1,h2,h3⟩,b=>⟨h0,h1,h2,Runs.app h3 b⟩
def Runs.pow{x y:Nat×Nat×Nat}{s e:Nat}(h:Runs r xs s (l1++[x]) e)(h1:y.1=x.1)(h2:y.2.1=x.2.1):Runs r xs s (l1++[y]) e:=by obtain⟨m,a,b⟩:=h.split;refine a.app ?_;obtain⟨b0,b1,b2,b3⟩:=b;exact⟨h1.trans b0,by rw[h2];exact b1,by rw[h2];exact b2,by rw[h2];exact b3⟩
theorem aJG{p:Pnd}{i:Nat}(h:i+1<p.size)(v:Nat×Nat×Nat):p.toList=p.toList.take i++p[i]::p[i+1]::p.toList.drop (i+2)/\((p.setIfInBounds i v).eraseIdxIfInBounds<|i+1).toList=p.toList.take i++v::p.toList.drop (i+2):=by
 have e1:p.toList=p.toList.take i++p[i]::p[i+1]::p.toList.drop (i+2):=by
  have a:p.toList.drop i=p[i]::p.toList.drop (i+1):=by rw[dX<|by simp;lia];simp
  have b:p.toList.drop (i+1)=p[i+1]::p.toList.drop (i+1+1):=by rw[dX<|by omega];simp
  rw[<-b,<-a,fU]
 refine⟨e1,?_⟩;have l1:(p.toList.take i).length=i:=by simp;lia
 rw[Array.toList_eraseIdxIfInBounds,Array.toList_setIfInBounds];generalize p.toList.take i=u at e1 l1;generalize p.toList.drop (i+2)=z at e1;rw[e1];rw[List.set_append_right _ _<|by lia,l1,aGO,List.eraseIdx_append_of_length_le<|by lia,l1,show i+1-i=1 by lia];rfl
theorem aFp(K:mB prog w A E s κ r a₀)(hB:SB κ a₀ st)(R:Runs r (AK st) 0 (AC st).toList e)(he:e<=a₀.size)(hi:i+1<(AC st).size)(h:∀st',SB κ a₀ st'->Runs r (AK st') 0 (AC st').toList e->(AC st').size+1=(AC st).size->(∀k,e<=k->(AK st')[k]? =(AK st)[k]?)->Q true st'):wpS (AD prog w) A E s (mergeAt' i) Q st:=by
 obtain⟨e1,_⟩:=aJG hi (0,0,0);have R0:=R;rw[e1] at R0;obtain⟨m,R1,a1,a2,a3,b1,b2,b3,R2⟩:=R0.split
 have h1:(AC st)[i]? =some (m,(AC st)[i].2.1,(AC st)[i].2.2):=by rw[getElem?_pos _ i<|by lia];refine congrArg some ?_;rw[<-a1]
 have h2:(AC st)[i+1]? =some (m+(AC st)[i].2.1,(AC st)[i+1].2.1,(AC st)[i+1].2.2):=by rw[getElem?_pos _ (i+1)<|by omega];refine congrArg some ?_;rw[<-b1]
 have l2:=R2.le;refine aBs K hB h1 h2 rfl a2 b2 (by lia) a3 b3 λst' hB' hp hk ha=>?_
 obtain⟨_,e2⟩:=aJG hi (m,(AC st)[i].2.1+(AC st)[i+1].2.1,(AC st)[i].2.2);have ep:(AC st').toList=(AC st).toList.take i++(m,(AC st)[i].2.1+(AC st)[i+1].2.1,(AC st)[i].2.2)::(AC st).toList.drop (i+2):=by rw[hp];exact e2
 refine h st' hB' ?_ ?_ λk hk2=>hk k (.inr<|by lia)
 ·rw[ep];refine(R1.keep λt _ t2=>hk t<|.inl t2).app ⟨rfl,by show 1<=_+_;lia,?_,?_⟩
  ·rw[<-aRL];exact ha
  ·rw[<-aRL];exact R2.keep λt t1 _=>hk t<|.inr t1
 ·have:=congrArg qO ep;have q:=congrArg qO e1;simp at this q;lia
structure SR(κ:BA)(r:AI->Nat)(a₀:Array AI)(lo:Nat)(st:CF):Prop where
 sb:SB κ a₀ st
 runs:Runs r (AK st) 0 (AC st).toList lo
theorem aCj{lo:Nat}(K:mB prog w A E s κ r a₀)(S:SR κ r a₀ lo st)(n1:1<=n)(hn:lo+n<=a₀.size)(ha:AscR r (AK st) lo (lo+n))(h:∀st',SR κ r a₀ (lo+n) st'->Q (.yield (none,lo+n)) st'):wpS (AD prog w) A E s (aDY lo n a₀.size) Q st:=by
 refine AG<|wpS_get ?_
 have fin:∀st',SR κ r a₀ lo st'->AscR r (AK st') lo (lo+n)->SR κ r a₀ (lo+n) (BS st'<|(AC st').push (lo,n,0)):=λst' S' ha'=>by refine⟨⟨S'.sb.perm,S'.sb.kind,S'.sb.failed⟩,?_⟩;rw[iS];exact S'.runs.app ⟨rfl,n1,ha',rfl⟩
 cases hb:(AC st).back? with
 |none=>exact AG (BL<|AJ (h _<|fin st S ha))
 |some p=>
  obtain⟨s1,n1',p1⟩:=p;dsimp only;generalize power' a₀.size (2*s1+n1') (2*s1+n1'+n1'+n) a₀.size=pw
  have ne0:1<=(AC st).size:=by
   rcases Nat.eq_zero_or_pos (AC st).size with z|z
   ·rw[Array.eq_empty_of_size_eq_zero z] at hb;cases hb
   ·exact z
  refine AG<|Ag (Ab (I:=λ_ c st'=>c=(none,())/\SR κ r a₀ lo st'/\1<=(AC st').size/\AscR r (AK st') lo (lo+n)) ?step (λ_ _ z=>z) ⟨rfl,S,ne0,ha⟩) ?post
  case step=>
   rintro x c st' _ hx ⟨rfl,S',ne',ha'⟩;refine AG<|wpS_get ?_
   by_cases q:(AC st').size>1
   ·rw[if_pos q,getElem?_pos _ _<|by lia];dsimp only
    split
    ·exact AJ ⟨rfl,S',ne',ha'⟩
    ·refine AG<|aFp K S'.sb S'.runs (by lia) (by lia) λst'' hB hr hs hk=>?_;exact AJ ⟨rfl,⟨hB,hr⟩,by lia,ha'.keep λt t1 _=>hk t t1⟩
   ·rw[if_neg q];exact AJ ⟨rfl,S',ne',ha'⟩
  case post=>
   rintro c st' ⟨rfl,S',ne',ha'⟩;refine AG (BL<|AG (BL<|AJ (h _<|fin (BS st'<|(AC st').modify ((AC st').size-1) λ(x)=>(x.1,x.2.1,pw)) ⟨⟨S'.sb.perm,S'.sb.kind,S'.sb.failed⟩,?_⟩ ha')))
   have hl:(AC st').toList≠[]:=λz=>by have:=congrArg qO z;rw[eC,iP] at this;lia
   have e1:=(iQ hl).symm;have R:=S'.runs;rw[e1] at R
   have e2:((AC st').modify ((AC st').size-1) λ(x)=>(x.1,x.2.1,pw)).toList=(AC st').toList.dropLast++[(((AC st').toList.getLast hl).1,((AC st').toList.getLast hl).2.1,pw)]:=by
    apply nY;intro t;rw[cU,Array.getElem?_modify];have ld:(AC st').toList.dropLast.length=(AC st').size-1:=by simp
    by_cases q:(AC st').size-1=t
    ·rw[dR<|by lia,ld,<-q];rw[List.getLast_eq_getElem];have:(AC st').size-1<(AC st').size:=by lia
     simp[this]
    ·rw[if_neg q]
     by_cases q2:t<(AC st').size-1
     ·rw[cO (by rw[ld];exact q2),List.getElem?_dropLast,if_pos (by simpa using q2),cU]
     ·rw[kM<|by lia,cV<|by simp;lia]
   rw[e2];exact R.pow rfl rfl
theorem aGr(K:mB prog w A E s κ r a₀)(hB:SB κ a₀ st)(hp:AC st= #[])(h:∀st',SB κ a₀ st'->AscR r (AK st') 0 a₀.size->Q () st'):wpS (AD prog w) A E s sortRuns' Q st:=by
 rw[aPn];refine AG<|wpS_get ?_;have sz:=hB.size;rw[sz];generalize minRun' a₀.size a₀.size 0=minrun;refine AG<|Ag (Ab (I:=λx c st'=>∃lo,c=(none,lo)/\SR κ r a₀ lo st'/\lo<=a₀.size/\(x<=lo\/lo=a₀.size)) (Q:=λc st'=>c=(none,a₀.size)/\SR κ r a₀ a₀.size st') ?step ?fin ⟨0,rfl,⟨hB,by rw[hp];rfl⟩,bM _,.inl<|aK _⟩) ?post
 case fin=>
  rintro c st' ⟨lo,rfl,S,h1,h2⟩;have:lo=a₀.size:=by lia
  subst this;exact⟨rfl,S⟩
 case step=>
  rintro x c st' _ hx ⟨lo,rfl,S,h1,h2⟩;unfold aJX;dsimp only
  by_cases q:lo>=a₀.size
  ·rw[if_pos q];have:lo=a₀.size:=by lia
   subst this;exact AJ ⟨rfl,S⟩
  ·rw[if_neg q];refine AG<|aDr K S.sb (by lia) (by lia) λm st2 m1 m2 T ha=>?_;have S2:SR κ r a₀ lo st2:=⟨T.sb,by rw[T.pend];exact S.runs.keep λt _ t2=>T.keep t<|.inl t2⟩;dsimp only
   by_cases z:m<minrun
   ·rw[if_pos z];refine AG (wpS_lift<|Av ⟨rfl,?_⟩);refine AG<|aHL K S2.sb (by lia) (by lia) ha λst3 T3 ha3=>?_;refine aCj K ⟨T3.sb,by rw[T3.pend];exact S2.runs.keep λt _ t2=>T3.keep t<|.inl t2⟩ (by omega) (by omega) ha3 λst4 S4=>⟨_,rfl,S4,by omega,.inl<|by omega⟩
   ·rw[if_neg z];exact aCj K S2 m1 (by lia) ha λst4 S4=>⟨_,rfl,S4,by lia,.inl<|by lia⟩
 case post=>
  rintro c st' ⟨rfl,S⟩
  have pl:=by have:=S.runs.le;simpa using this
  refine AG<|Ag (Ab (I:=λx c st''=>c=(none,())/\SR κ r a₀ a₀.size st''/\(AC st'').size<=a₀.size-x) (Q:=λc st''=>c=(none,())/\SR κ r a₀ a₀.size st''/\(AC st'').size<=1) ?step2 ?fin2 ⟨rfl,S,by omega⟩) ?post2
  case fin2=>rintro c st'' ⟨rfl,S,h1⟩;exact⟨rfl,S,by lia⟩
  case step2=>
   rintro x c st'' _ hx ⟨rfl,S,h1⟩;refine AG<|wpS_get ?_
   by_cases q:(AC st'').size<=1
   ·rw[if_pos q];exact AJ ⟨rfl,S,q⟩
   ·rw[if_neg q];have go:∀i,i+1<(AC st'').size->wpS (AD prog w) A E s (mergeAt' i) (λb st'=>b=true/\SR κ r a₀ a₀.size st'/\(AC st').size<=a₀.size-(x+1)) st'':=λi hi=>aFp K S.sb S.runs (aK _) hi λst3 hB3 hr hs hk=>⟨rfl,⟨hB3,hr⟩,by lia⟩
    refine AG<|Ag (go _ ?_) λb st3 hb=>?_
    ·have bd:∀c,(if c=true then(AC st'').size-2-1 else(AC st'').size-2)+1<(AC st'').size:=λc=>by
      cases c
      ·rw[if_neg<|by decide];lia
      ·rw[if_pos rfl];lia
     exact bd _
    ·obtain⟨rfl,S3,h3⟩:=hb;exact AJ ⟨rfl,S3,h3⟩
  case post2=>
   rintro c st'' ⟨rfl,S,h1⟩;refine AJ<|h st'' S.sb ?_;have R:=S.runs;generalize e:(AC st'').toList=l at R;have ll:l.length<=1:=by rw[<-e];simpa using h1
   match l,ll with
   |[],_=>have:0=a₀.size:=R;intro i j _ _ hj;lia
   |[p],_=>obtain⟨_,_,b,c⟩:=R;rw[c] at b;exact b
open PySem.W (KasT kas_sort kas_asc kas_desc kas_tail3 kas_descPart kas_count kas_place kas_bin kas_rev kas_ask kas_item kat_lt kat_cons kat_nil kat_yes kat_no kat_one kat_kind kat_run kat_snds KatTups)
open PySem.W (KasT kas_sort kas_asc kas_desc kas_tail3 kas_descPart kas_count kas_place kas_bin kas_rev)
open PySem.W (KasT kas_sort kas_asc kas_desc kas_tail3 kas_descPart kas_count kas_place kas_bin kas_rev kas_ask kas_item kat_lt kat_cons kat_nil kat_yes kat_no kat_one kat_kind kat_run kat_snds KatTups KatLex)
noncomputable def aJe(fin:Bool):List Int->List Int->Bool
 |a::as,b::bs=>if(a==b)=true then aJe fin as bs else decide (a<b)
 |_,_=>fin
def ltI(x y:List Int):Bool:=aJe (decide<|x.length<y.length) x y
def TupAt1(h:CB)(v:BX)(x:List Int):Prop:=∃a o n,∃its:List BX,v=.ref a/\h.get? a=some o/\o.cls=.type "tuple"/\o.data=.seq its.toArray n/\IntsAre its x/\x≠[]
inductive TupsAt(h:CB):List BX->List (List Int)->Prop
 |nil:TupsAt h [] []
 |cons {v:BX}{x:List Int}{vs:List BX}{ps:List (List Int)}:TupAt1 h v x->TupsAt h vs ps->TupsAt h (v::vs) (x::ps)
def TupsAt.tups(p:TupsAt h vs ps):∃fs:List BX,KatTups h vs fs/\fs.length=ps.length/\∀v∈fs,∃i t,v=.int i t:=by
 induction p with
 |nil=>exact⟨[],.nil,rfl,λv hv=>by cases hv⟩
 |cons a _ ih=>
  obtain⟨a,o,n,its,rfl,g,c,d,hi,hne⟩:=a;obtain⟨fs,k,l,i⟩:=ih;cases hi with
  |nil=>exact absurd rfl hne
  |cons z t hi=>
   refine⟨.int z t::fs,.cons g c d (by simp) k,by rw[bZ,bZ,l],λv hv=>?_⟩
   rcases aP.mp hv with rfl|hv
   ·exact⟨_,_,rfl⟩
   ·exact i v hv
theorem aSp:∀ {x y:List Int}{vs us:List BX} (i:Nat),IntsAre vs x->IntsAre us y->Q (aJe fin x y) s->KatLex prog w A true fin Q (vs.zip us) (i+1) s
 |[],y,_,us,i,.nil,_,h=>by
  have e:aJe fin [] y=fin:=by cases y<;>rfl
  exact kat_nil h
 |a::as,[],_::_,_,i,.cons _ _ _,.nil,h=>by exact kat_nil h
 |a::as,b::bs,_::_,_::_,i,.cons _ t h1,.cons _ u h2,h=>by
  refine kat_cons<|wpAny_eqBool_int ?_
  by_cases e:(a==b)=true
  ·rw[e];refine kat_yes<|aSp (i+1) h1 h2 ?_;unfold aJe at h;rw[if_pos e] at h;exact h
  ·rw[iY.mpr e];unfold aJe at h;rw[if_neg e] at h;refine kat_no ?_;have e0:(true&&(i+1==0))=false:=by simp
   exact kat_one _ _<|PyProof.Rows.lt_int h
def askI{x y:List Int}(h1:TupAt1 s.heap v1 x)(h2:TupAt1 s.heap v2 y)(h:Q (ltI x y) s):AH (AD prog w) A (keyLt' (tuples' true) v1 v2) Q E s:=by
 obtain⟨a,o,n,its,rfl,g,c,d,i1,e1⟩:=h1;obtain⟨a2,o2,n2,its2,rfl,g2,c2,d2,i2,e2⟩:=h2;have l1:=i1.length;have l2:=i2.length;refine kat_lt g d g2 d2 ?_;unfold ltI at h;rw[bB,bB,l1,l2];cases i1 with
 |nil=>exact absurd rfl e1
 |cons p t i1=>
  cases i2 with
  |nil=>exact absurd rfl e2
  |cons q u i2=>
   refine kat_cons<|wpAny_eqBool_int ?_
   by_cases e:(p==q)=true
   ·rw[e];refine kat_yes<|aSp 0 i1 i2 ?_;unfold aJe at h;rw[if_pos e] at h;exact h
   ·rw[iY.mpr e];unfold aJe at h;rw[if_neg e] at h;exact kat_no<|oneLt_int h
theorem aRI(p:TupsAt s.heap vs ps)(h0:0<ps.length)(h:Q (tuples' true) s):AH (AD prog w) A (keyKind' vs.toArray) Q E s:=by obtain⟨fs,k,l,i⟩:=p.tups;refine kat_kind (T:=.type "int") k (by lia) (λv hv=>?_) rfl h;obtain⟨n,t,rfl⟩:=i v hv;exact .now
theorem wZ{a b:List Nat}(ha:∀x∈a,x<j)(hb:∀x∈b,j<=x):∀ (fuel lo hi:Nat),hi-lo<=fuel->lo<=a.length->a.length<=hi->hi<=(a++b).length->fX.go (a++b).toArray j fuel lo hi=a.length
 |0,lo,hi,h1,h2,h3,h4=>by unfold fX.go;lia
 |fuel+1,lo,hi,h1,h2,h3,h4=>by
  unfold fX.go
  by_cases hlt:lo<hi
  ·rw[if_pos hlt];have hl:(lo+hi) / 2<(a++b).length:=by lia
   have hl2:(lo+hi) / 2<a.length+b.length:=by rw[<-aV];exact hl
   have e:(a++b).toArray.getD ((lo+hi) / 2) j=(a++b)[(lo+hi) / 2]:=by simp[Array.getD,hl2]
   dsimp only;rw[e]
   by_cases hc:(lo+hi) / 2<a.length
   ·have:(a++b)[(lo+hi) / 2]<j:=by rw[List.getElem_append_left hc];exact ha _ (fJ hc)
    rw[if_pos this];exact wZ ha hb fuel _ _ (by lia) (by omega) h3 h4
   ·have hb':j<=(a++b)[(lo+hi) / 2]:=by rw[List.getElem_append_right<|by lia];exact hb _ (fJ _)
    rw[if_neg<|by lia];exact wZ ha hb fuel _ _ (by lia) h2 (by lia)<|by lia
  ·rw[if_neg hlt];lia
def tW{a b:List Nat}(ha:∀x∈a,x<j)(hb:∀x∈b,j<=x):fX (a++b).toArray j=a.length:=by unfold fX;exact wZ ha hb _ _ _ (by omega) (bM _) (by simp)<|aK _
theorem aEh(j:Nat):∀ {xs:List Nat},xs.Pairwise (·<·)->∃a b,xs=a++b/\(∀x∈a,x<j)/\∀x∈b,j<=x
 |[],_=>⟨[],[],rfl,(λx h=>by cases h),λx h=>by cases h⟩
 |x::xs,h=>by
  obtain⟨h1,h2⟩:=dO.mp h
  by_cases hx:x<j
  ·obtain⟨a,b,e,ha,hb⟩:=aEh j h2;refine⟨x::a,b,by rw[e];rfl,λy hy=>?_,hb⟩
   rcases aP.mp hy with rfl|hy
   ·exact hx
   ·exact ha y hy
  ·refine⟨[],x::xs,rfl,(λy h=>by cases h),λy hy=>?_⟩
   rcases aP.mp hy with rfl|hy
   ·lia
   ·have:=h1 y hy;lia
noncomputable def zJ(m:Nat)(p:SetTable.Probe):SetTable.Probe:=if p.more>0 then{p with j:=p.j+1,more:=p.more-1} else{p with j:=(mZ m p.i p.perturb).1,more:=cE m (mZ m p.i p.perturb).1-(mZ m p.i p.perturb).1,i:=(mZ m p.i p.perturb).1,perturb:=(mZ m p.i p.perturb).2}
noncomputable def at0(m i q:Nat):SetTable.Probe:={j:=i,more:=cE m i-i,i:=i,perturb:=q,dummy:=none}
def pr(m:Nat)(h:Int):Nat->SetTable.Probe
 |0=>at0 m (cH h%(m+1))<|cH h
 |n+1=>zJ m<|pr m h n
theorem yM(m:Nat)(h:Int):∀n,(pr m h n).dummy=none
 |0=>rfl
 |n+1=>by
  show(zJ m<|pr m h n).dummy=none;unfold zJ
  split
  ·exact yM m h n
  ·exact yM m h n
noncomputable def lp(m:Nat)(h:Int):Nat->Nat
 |0=>cH h%(m+1)
 |k+1=>(lp m h k*5+1+cH h / 32^k / 32)%(m+1)
theorem aPz(m i:Nat):cE m i-i<=9:=by
 unfold cE
 split<;>lia
theorem uK(m:Nat)(h:Int)(n i q:Nat)(e:pr m h n=at0 m i q):∀r,r<=cE m i-i->pr m h (n+r)={at0 m i q with j:=i+r,more:=cE m i-i-r}
 |0,_=>e
 |r+1,hr=>by have ih:=uK m h n i q e r (by lia);show zJ m (pr m h<|n+r)=_;rw[ih];unfold zJ;rw[if_pos<|by show cE m i-i-r>0;lia];rfl
theorem aEZ(m:Nat)(h:Int):∀k,∃n,n<=10*k/\pr m h n=at0 m (lp m h k) (cH h / 32^k)
 |0=>⟨0,aK _,by rw[aIX];rfl⟩
 |k+1=>by
  obtain⟨n,hn,e⟩:=aEZ m h k;have r9:=aPz m<|lp m h k;have e2:=uK m h n _ _ e _<|aK _;refine⟨n+(cE m (lp m h k)-lp m h k)+1,by omega,?_⟩;show zJ m (pr m h _)=_;rw[e2];unfold zJ;rw[if_neg<|by show ¬ (cE m (lp m h k)-lp m h k-(cE m (lp m h k)-lp m h k)>0);omega];have z:cH h / 32^(k+1)=cH h / 32^k / 32:=by rw[pR,pS]
  rw[z];rfl
noncomputable def itM(m:Nat):Nat->Nat->Nat
 |0,i=>i
 |q+1,i=>(itM m q i*5+1)%(m+1)
theorem aLc(h:Int):cH h<2^64:=by unfold cH;lia
theorem aBn(m:Nat)(h:Int):∀q,lp m h (13+q)=itM m q (lp m h 13)
 |0=>rfl
 |q+1=>by
  show(lp m h (13+q)*5+1+cH h / 32^(13+q) / 32)%(m+1)=(itM m q (lp m h 13)*5+1)%(m+1);rw[aBn m h q]
  have z:cH h / 32^(13+q)=0:=by refine Nat.div_eq_of_lt (aZ (aLc h) ?_);exact cF (by decide) (rM (by decide)<|lR _ _)
  rw[z]
def aRz(m:Nat)(h:Int):∀k,lp m h k<m+1
 |0=>uY _<|vQ _
 |k+1=>uY _<|vQ _
def okM(m:Nat):Prop:=m=7
def cov(hm:okM m)(hi:i<m+1)(he:e<m+1):∃q,q<m+1/\itM m q i=e:=by obtain rfl:m=7:=hm;exact(by decide+kernel:∀i,i<8->∀e,e<8->∃q,q<8/\itM 7 q i=e) i hi e he
theorem aCf(hm:okM m)(h:Int)(he:e<m+1):∃k n,k<m+14/\lp m h k=e/\n<=10*k/\(pr m h n).j=e:=by obtain⟨q,hq,eq⟩:=cov hm (aRz m h 13) he;obtain⟨n,hn,en⟩:=aEZ m h<|13+q;refine⟨13+q,n,by lia,by rw[aBn];exact eq,hn,?_⟩;rw[en,aBn,eq];rfl
def pbQ(m:Nat)(p:SetTable.Probe):Prop:=p.j<=m/\p.j+p.more<=m/\p.i<m+1
theorem aJN(i:Nat)(q:Nat)(d:Option Nat)(hi:i<m+1):pbQ m {j:=i,more:=cE m i-i,i:=i,perturb:=q,dummy:=d}:=by
 refine⟨by show i<=m;lia,?_,hi⟩;show i+(cE m i-i)<=m;unfold cE
 split<;>lia
theorem aMe{p:SetTable.Probe}(h:pbQ m p):pbQ m (zJ m p):=by
 obtain⟨h1,h2,h3⟩:=h;unfold zJ
 split
 ·exact⟨by show p.j+1<=m;lia,by show p.j+1+(p.more-1)<=m;lia,h3⟩
 ·exact aJN _ _ _ (uY _<|vQ _)
theorem aSb(h:Int):∀n:Nat,pbQ m (pr m h n)
 |0=>aJN _ _ _ (uY _<|vQ _)
 |n+1=>aMe<|aSb h n
abbrev kK:=Nat×List Key×BZ
structure TabT(hs:List Key->Int)(t:CG)(es:Array (Int×BX))(T:List kK):Prop where
 om:okM t.mask
 pl:t.place=(T.map (·.1)).toArray
 en:es=(T.map λr=>(hs r.2.1,Value.ref r.2.2)).toArray
 du:t.dummies= #[]
 rs:(T.map (·.1)).Pairwise (·<·)
 lt:∀r∈T,r.1<=t.mask
 rc:∀r∈T,∃n,(pr t.mask (hs r.2.1) n).j=r.1/\∀i,i<n->(pr t.mask (hs r.2.1) i).j∈T.map (·.1)
 kn:(T.map (·.2.1)).Nodup
variable {hs:List Key->Int}{t:CG}{es:Array (Int×BX)}{T:List kK}
def TabT.slot_live(X:TabT hs t es T){A B:List kK}{r:kK}(e:T=A++r::B):t.slot r.1=.live A.length:=by
 have h:=X.rs;rw[e,aO] at h;obtain⟨_,h2,h3⟩:=eW.mp h
 have hb:=tW (λx hx=>h3 x hx r.1 aG) λx hx=>by
  rcases aP.mp hx with rfl|hx
  ·exact aK _
  ·exact cX<|(dO.mp h2).1 x hx
 unfold aKt;rw[X.pl,e,aO,bG,hb];simp
def TabT.slot_empty(X:TabT hs t es T)(h:j∉T.map (·.1)):t.slot j=.empty:=by
 obtain⟨a,b,e,ha,hb⟩:=aEh j X.rs;have hbl:=tW ha hb;unfold aKt;rw[X.pl,X.du,e,hbl]
 have hn:((a++b).toArray[a.length]? ==some j)=false:=by
  cases b with
  |nil=>simp
  |cons y b=>
   have:y≠j:=λz=>h (by rw[e,<-z];simp)
   simp[this]
 dsimp only;rw[hn];rfl
def aHM(h:j∈T.map (·.1)):∃A r B,T=A++r::B/\r.1=j:=by obtain⟨r,hr,e⟩:=aJ.mp h;obtain⟨A,B,q⟩:=aIU hr;exact⟨A,r,B,q,e⟩
theorem TabT.same_row(X:TabT hs t es T){r r':kK}(h:r∈T)(h':r'∈T)(e:r.1=r'.1):r=r':=by
 obtain⟨A,B,q⟩:=aIU h;have hp:=X.rs;rw[q,aO,bG] at hp;obtain⟨_,h2,h3⟩:=eW.mp hp;rw[q] at h'
 rcases aS.mp h' with z|z
 ·have:=h3 r'.1 (cK z) r.1 aG;lia
 ·rcases aP.mp z with z|z
  ·exact z.symm
  ·have:=(dO.mp h2).1 r'.1<|cK z;lia
theorem aEF(X:TabT hs t es T)(hh:∀A r B,T=A++r::B->hashAt A.length=hs r.2.1)(h:Int):∀ (fuel n e:Nat),n<=e->e-n<fuel->(pr t.mask h e).j∉T.map (·.1)->∃k,n<=k/\k<=e/\(∀i,n<=i->i<k->(pr t.mask h i).j∈T.map (·.1)/\∀r∈T,r.1=(pr t.mask h i).j->hs r.2.1≠h)/\
   (((pr t.mask h k).j∉T.map (·.1)∧hG.go t hashAt h fuel (pr t.mask h n)=some (.empty (pr t.mask h k).j none))∨
    ∃A r B,T=A++r::B/\r.1=(pr t.mask h k).j/\hs r.2.1=h/\hG.go t hashAt h fuel (pr t.mask h n)=some (.candidate (pr t.mask h k).j A.length (pr t.mask h (k+1))))
 |0,n,e,h1,h2,h3=>by lia
 |fuel+1,n,e,h1,h2,h3=>by
  by_cases hm:(pr t.mask h n).j∈T.map (·.1)
  ·obtain⟨A,r,B,q,er⟩:=aHM hm;have hl:=X.slot_live q;rw[er] at hl
   have hlt:n<e:=by
    rcases dY h1 with z|z
    ·exact z
    ·rw[z] at hm;exact absurd hm h3
   by_cases hq:hs r.2.1=h
   ·refine⟨n,aK _,h1,(λi a b=>by lia),.inr ⟨A,r,B,q,er,hq,?_⟩⟩;unfold hG.go;rw[hl];simp only;rw[hh A r B q,hq];simp;rfl
   ·obtain⟨k,k1,k2,k3,k4⟩:=aEF X hh h fuel (n+1) e hlt (by lia) h3;refine⟨k,by lia,k2,λi a b=>?_,?_⟩
    ·rcases dY a with z|z
     ·exact k3 i z b
     ·subst z;refine⟨hm,λr' hr' e'=>?_⟩;have:=X.same_row hr' (by rw[q];simp)<|e'.trans er.symm;rw[this];exact hq
    ·have st:hG.go t hashAt h (fuel+1) (pr t.mask h n)=hG.go t hashAt h fuel (pr t.mask h<|n+1):=by
      conv=>lhs;unfold hG.go
      rw[hl];simp only;rw[hh A r B q,if_neg<|by simpa using hq];rfl
     rw[st];exact k4
  ·refine⟨n,aK _,h1,(λi a b=>by lia),.inl ⟨hm,?_⟩⟩;unfold hG.go;rw[X.slot_empty hm];rw[yM]
theorem TabT.room(X:TabT hs t es T)(hl:T.length<=t.mask)(h:Int):∃e,e<10*gI t.mask/\(pr t.mask h e).j∉T.map (·.1)/\∀i,i<e->(pr t.mask h i).j∈T.map (·.1):=by
 have ex:∃j,j<t.mask+1/\j∉T.map (·.1):=by
  refine Classical.byContradiction λhn=>?_
  have all:=λj hj=>Classical.byContradiction λz=>hn ⟨j,bR.mp hj,z⟩
  have:=(oY).length_le_of_subset all;rw[eG,aA] at this;lia
 obtain⟨j,hj,hn⟩:=ex;obtain⟨k,n,h1,h2,h3,h4⟩:=aCf X.om h hj;have:∃e,(pr t.mask h e).j∉T.map (·.1):=⟨n,by rw[h4];exact hn⟩
 obtain⟨e,he,hmin⟩:∃e,(pr t.mask h e).j∉T.map (·.1)/\∀i,i<e->¬ (pr t.mask h i).j∉T.map (·.1):=by
  refine Classical.byContradiction λz=>?_
  have noall:∀m,∀i,i<m->¬ (pr t.mask h i).j∉T.map (·.1):=λm=>by
   induction m with
   |zero=>intro i hi;lia
   |succ m ih=>
    intro i hi hc
    rcases dY (Nat.le_of_lt_succ hi) with q|q
    ·exact ih i q hc
    ·subst q;exact z ⟨i,hc,ih⟩
  obtain⟨e,he⟩:=this;exact noall (e+1) e (jQ _) he
 refine⟨e,?_,he,λi hi=>Classical.byContradiction λz=>hmin i hi z⟩;have:=aNi λz=>hmin n z (by rw[h4];exact hn)
 unfold gI;lia
def TabT.ahead(X:TabT hs t es T){r:kK}(hr:r∈T)(he:(pr t.mask (hs r.2.1) e).j∉T.map (·.1)):∃n,n<e/\(pr t.mask (hs r.2.1) n).j=r.1:=by
 obtain⟨n,h1,h2⟩:=X.rc r hr;refine⟨n,aNj λz=>?_,h1⟩
 rcases dY z with q|q
 ·exact he<|h2 e q
 ·subst q;exact he (by rw[h1];exact cK hr)
def cutT(h:(T.map (·.1)).Pairwise (·<·))(hj:j∉T.map (·.1)):∃A B,T=A++B/\(∀r∈A,r.1<j)/\∀r∈B,j<r.1:=by
 obtain⟨a,b,e,ha,hb⟩:=aEh j h;refine⟨T.take a.length,T.drop a.length,(fU _ _).symm,λr hr=>?_,λr hr=>?_⟩
 ·have:r.1∈(T.take a.length).map (·.1):=cK hr;rw[oB,e,List.take_left] at this;exact ha _ this
 ·have h1:r.1∈(T.drop a.length).map (·.1):=cK hr;rw[jZ,e,List.drop_left] at h1;have h2:=hb _ h1
  rcases dY h2 with q|q
  ·exact q
  ·exact absurd (cK<|lZ hr) (by rw[q] at hj;exact hj)
def TabT.put(X:TabT hs t es T){k:List Key}{a:BZ}(hj:j∉T.map (·.1))(hm:j<=t.mask)(hk:k∉T.map (·.2.1))(hr:∃n,(pr t.mask (hs k) n).j=j/\∀i,i<n->(pr t.mask (hs k) i).j∈T.map (·.1))(b:Bool):∃A B,T=A++B/\TabT hs {(t.put j).1 with plain:=b} (iM es (t.put j).2 (hs k,.ref a)) (A++(j,k,a)::B):=by
 obtain⟨A,B,e,hA,hB⟩:=cutT X.rs hj
 have hbl:fX t.place j=A.length:=by rw[X.pl,e,aO];rw[tW (λx hx=>by obtain⟨r,hr,rfl⟩:=aJ.mp hx;exact hA r hr) λx hx=>by obtain⟨r,hr,rfl⟩:=aJ.mp hx;exact cX<|hB r hr];rw[aA]
 have e1:(t.put j).2=A.length:=hbl
 have e2:(t.put j).1.place=((A++(j,k,a)::B).map (·.1)).toArray:=by show iM t.place (fX t.place j) j=_;rw[hbl,X.pl,aOn,e];congr 1;rw[aO,aO,bG,aNf (by rw[aA]),aNg<|by rw[aA]]
 have e3:(t.put j).1.dummies= #[]:=by show(if SetTable.has t.dummies j then _ else t.dummies)= #[];rw[X.du];rfl
 have mem:∀ {x:Nat},x∈T.map (·.1)->x∈(A++(j,k,a)::B).map (·.1):=λ{x} hx=>by
  rw[e,aO] at hx;rw[aO]
  rcases aS.mp hx with z|z
  ·exact bP _ z
  ·exact aU _<|aF _ z
 have rows:∀ {r:kK},r∈A++(j,k,a)::B->r=(j,k,a)\/r∈T:=λ{r} hr=>by
  rcases aS.mp hr with z|z
  ·exact .inr (by rw[e];exact bP _ z)
  ·rcases aP.mp z with z|z
   ·exact .inl z
   ·exact .inr (by rw[e];exact aU _ z)
 refine⟨A,B,e,X.om,e2,?_,e3,?_,λr hr'=>?_,λr hr'=>?_,?_⟩
 ·rw[e1,X.en,aOn,e];congr 1;rw[aO,aO,bG,aNf (by rw[aA]),aNg<|by rw[aA]]
 ·have hp:=X.rs;rw[e,aO] at hp;obtain⟨p1,p2,p3⟩:=eW.mp hp;rw[aO,bG];refine eW.mpr ⟨p1,dO.mpr ⟨λx hx=>?_,p2⟩,λx hx y hy=>?_⟩
  ·obtain⟨r,hr,rfl⟩:=aJ.mp hx;exact hB r hr
  ·obtain⟨r,hrA,rfl⟩:=aJ.mp hx
   rcases aP.mp hy with hy|hy
   ·rw[hy];exact hA r hrA
   ·exact p3 _ (cK hrA) y hy
 ·rcases rows hr' with rfl|z
  ·exact hm
  ·exact X.lt r z
 ·rcases rows hr' with rfl|z
  ·obtain⟨n,q1,q2⟩:=hr;exact⟨n,q1,λi hi=>mem<|q2 i hi⟩
  ·obtain⟨n,q1,q2⟩:=X.rc r z;exact⟨n,q1,λi hi=>mem<|q2 i hi⟩
 ·have hn:=X.kn;rw[e,aO] at hn hk;obtain⟨n1,n2,n3⟩:=bD.mp hn;rw[aO,bG];refine bD.mpr ⟨n1,bE.mpr ⟨λz=>hk<|aU _ z,n2⟩,λx hx y hy=>?_⟩
  rcases aP.mp hy with rfl|hy
  ·exact λz=>hk (bP _<|z▸hx)
  ·exact n3 x hx y hy
def emp(ow:Array (Option Nat))(j:Nat):Prop:=(ow.getD j<|some 0).isNone=true
def aLp{c:Nat}(e:pr m h n=at0 m (lp m h c) (cH h / 32^c)):pr m h (n+(cE m (lp m h c)-lp m h c)+1)=at0 m (lp m h<|c+1) (cH h / 32^(c+1)):=by
 have e2:=uK m h n _ _ e _<|aK _;show zJ m (pr m h _)=_;rw[e2];unfold zJ;rw[if_neg<|by show ¬ (cE m (lp m h c)-lp m h c-(cE m (lp m h c)-lp m h c)>0);omega];have z:cH h / 32^(c+1)=cH h / 32^c / 32:=by rw[pR,pS]
 rw[z];rfl
theorem aAl(h:Int):∀ (fuel c n k:Nat),pr m h n=at0 m (lp m h c) (cH h / 32^c)->c<=k->k-c<fuel->emp ow (lp m h k)->∃j n',kF.free m ow fuel (lp m h c) (cH h / 32^c)=some j/\n<=n'/\(pr m h n').j=j/\emp ow j/\∀i,n<=i->i<n'->¬ emp ow (pr m h i).j
 |0,c,n,k,e,h1,h2,h3=>by lia
 |fuel+1,c,n,k,e,h1,h2,h3=>by
  have rl:lp m h c<=cE m (lp m h c):=by
   unfold cE
   split<;>omega
  cases hf:(bI<|cE m (lp m h c)+1-lp m h c).find? λx=>(ow.getD (lp m h c+x)<|some 0).isNone with
  |some x=>
   have hx:=List.find?_some hf;have hm:=bR.mp<|List.mem_of_find?_eq_some hf;refine⟨lp m h c+x,n+x,?_,by lia,?_,hx,λi i1 i2 hc=>?_⟩
   ·unfold kF.free;rw[hf]
   ·rw[uK m h n _ _ e x<|by lia]
   ·have er:=uK m h n _ _ e (i-n) (by lia);rw[show n+(i-n)=i by omega] at er;rw[er] at hc;obtain⟨l1,l2,el,hl⟩:=zN.mp hf |>.2
    have hmem:(i-n)∈l1:=by
     have hp:=el▸List.pairwise_lt_range;have hin:(i-n)∈l1++x::l2:=el▸bR.mpr (by omega)
     rcases aS.mp hin with z|z
     ·exact z
     ·rcases aP.mp z with z|z
      ·omega
      ·have:=(dO.mp (eW.mp hp).2.1).1 _ z;omega
    have:=hl _ hmem;have hc':(ow.getD (lp m h c+(i-n))<|some 0).isNone=true:=hc;simp only[hc',aCI,bK] at this
  |none=>
   have hno:=λx hx hc=>by have:=mY.mp hf x<|bR.mpr hx;exact this hc
   have hlt:c<k:=by
    rcases dY h1 with z|z
    ·exact z
    ·subst z;exact absurd h3 (by have:=hno 0 (by lia);rwa[Nat.add_zero] at this)
   obtain⟨j,n',a1,a2,a3,a4,a5⟩:=aAl h fuel (c+1) _ k (aLp e) hlt (by lia) h3;refine⟨j,n',?_,by lia,a3,a4,λi i1 i2 hc=>?_⟩
   ·unfold kF.free;rw[hf];have z:cH h / 32^(c+1)=cH h / 32^c / 32:=by rw[pR,pS]
    rw[z] at a1;exact a1
   ·by_cases hi:i<n+(cE m (lp m h c)-lp m h c)+1
    ·have er:=uK m h n _ _ e (i-n) (by lia);rw[show n+(i-n)=i by omega] at er;rw[er] at hc;exact hno (i-n) (by omega) hc
    ·exact a5 i (by lia) i2 hc
def emp_iff:emp ow j↔ow[j]? =some none:=by
 unfold emp;rw[Array.getD_eq_getD_getElem?];cases h:ow[j]? with
 |none=>simp
 |some o=>cases o<;>simp
structure LI(m:Nat)(ow:Array (Option Nat))(dn:List Int):Prop where
 sz:ow.size=m+1
 at_:∀ (x:Nat) (h:Int),dn[x]? =some h->∃j,ow[j]? =some (some x)/\∃n,(pr m h n).j=j/\∀i,i<n->ow[(pr m h i).j]? ≠some none
 lt:∀ (j x:Nat),ow[j]? =some (some x)->x<dn.length
 un:∀ (j j' x:Nat),ow[j]? =some (some x)->ow[j']? =some (some x)->j=j'
def LI.nil(m:Nat):LI m (Array.replicate (m+1) none) []:=by
 refine⟨by simp,λx h e=>by simp at e,λj x e=>?_,λj j' x e _=>?_⟩
 ·rw[aAQ] at e
  split at e<;>simp at e
 ·rw[aAQ] at e
  split at e<;>simp at e
theorem LI.free(L:LI m ow dn)(hl:dn.length<=m):∃j,j<m+1/\ow[j]? =some none:=by
 refine Classical.byContradiction λhn=>?_
 have all:∀j,j<m+1->∃x,ow[j]? =some (some x):=λj hj=>by
  have hs:j<ow.size:=by rw[L.sz];exact hj
  cases h:ow[j]? with
  |none=>rw[Array.getElem?_eq_none_iff] at h;lia
  |some o=>
   cases o with
   |none=>exact absurd ⟨j,hj,h⟩ hn
   |some x=>exact⟨x,rfl⟩
 have nd:((bI<|m+1).map λj=>((ow[j]?).getD none).getD 0).Nodup:=by rw[aAJ,cA];refine List.Pairwise.imp_of_mem ?_ (aAJ.mp<|oY);intro a b ha hb hab hc;obtain⟨x,hx⟩:=all a<|bR.mp ha;obtain⟨y,hy⟩:=all b<|bR.mp hb;rw[hx,hy] at hc;subst hc;exact hab<|L.un a b x hx hy
 have sub:∀y∈(bI<|m+1).map (λj=>((ow[j]?).getD none).getD 0),y∈bI dn.length:=λy hy=>by obtain⟨j,hj,rfl⟩:=aJ.mp hy;obtain⟨x,hx⟩:=all j<|bR.mp hj;rw[hx];exact bR.mpr<|L.lt j x hx
 have:=nd.length_le_of_subset sub;rw[aA,eG,eG] at this;lia
noncomputable def aQD(m:Nat)(acc:Option (Array (Option Nat)×Nat))(h:Int):Option (Array (Option Nat)×Nat):=do
 let (owner,k) <-acc
 let j <-kF.free m owner (gI m) (cH h%(m+1)) (cH h)
 pure (owner.setIfInBounds j<|some k,k+1)
theorem LI.step(hm:okM m)(L:LI m ow dn)(hl:dn.length<=m)(h:Int):∃ow',aQD m (some (ow,dn.length)) h=some (ow',(dn++[h]).length)/\LI m ow' (dn++[h]):=by
 obtain⟨e,he,h0⟩:=L.free hl;obtain⟨k,n,k1,k2,k3,k4⟩:=aCf hm h he;obtain⟨j,n',f1,f2,f3,f4,f5⟩:=aAl h (gI m) 0 0 k (by rw[aIX];rfl) (bM _) (by unfold gI;lia) (by rw[k2];exact emp_iff.mpr h0);rw[aIX] at f1;have hj:=emp_iff.mp f4
 have hjs:j<ow.size:=by
  rcases vR j ow.size with z|z
  ·exact z
  ·rw[kM z] at hj;cases hj
 have g:∀i,(ow.setIfInBounds j<|some dn.length)[i]? =if j=i then some (some dn.length) else ow[i]? :=λi=>by
  rw[zO]
  by_cases z:j=i
  ·rw[if_pos z,if_pos z,if_pos<|z▸hjs]
  ·rw[if_neg z,if_neg z]
 refine⟨ow.setIfInBounds j<|some dn.length,?_,by simpa using L.sz,λx h' hx=>?_,λi x hi=>?_,λi i' x hi hi'=>?_⟩
 ·unfold aQD;have f1':kF.free m ow (gI m) (cH h%(m+1)) (cH h)=some j:=f1;simp only[Option.bind_eq_bind,Option.bind_some,f1',Option.pure_def];simp
 ·rcases vR x dn.length with z|z
  ·rw[cO z] at hx;obtain⟨i,i1,n1,i2,i3⟩:=L.at_ x h' hx;refine⟨i,?_,n1,i2,λa ha=>?_⟩
   ·rw[g,if_neg λq=>by rw[q] at hj;rw[hj] at i1;cases i1];exact i1
   ·rw[g]
    split
    ·simp
    ·exact i3 a ha
  ·rw[dR z] at hx
   have:x=dn.length:=by
    rcases dY z with q|q
    ·rw[cV<|by simp;lia] at hx;cases hx
    ·exact q.symm
   subst this;have:=by simpa using hx
   subst this;refine⟨j,by rw[g,if_pos rfl],n',f3,λa ha=>?_⟩;rw[g]
   split
   ·simp
   ·exact λq=>f5 a (bM _) ha<|emp_iff.mpr q
 ·rw[g] at hi;rw[aV]
  split at hi
  ·have:=by simpa using hi
   simp;lia
  ·have:=L.lt i x hi;lia
 ·rw[g] at hi hi'
  split at hi
  ·rename_i q1
   split at hi'
   ·rename_i q2;rw[<-q1,<-q2]
   ·have e1:=by simpa using hi
    have:=L.lt i' x hi';lia
  ·split at hi'
   ·have e1:=by simpa using hi'
    have:=L.lt i x hi;lia
   ·exact L.un i i' x hi hi'
theorem LI.fold(hm:okM m):∀ (hl dn:List Int) (ow:Array (Option Nat)),LI m ow dn->(dn++hl).length<=m+1->∃ow',hl.foldl (aQD m) (some (ow,dn.length))=some (ow',(dn++hl).length)/\LI m ow' (dn++hl)
 |[],dn,ow,L,_=>⟨ow,by simp,by simpa using L⟩
 |h::hl,dn,ow,L,hlen=>by obtain⟨ow1,e1,L1⟩:=L.step hm (by simp at hlen;lia) h;obtain⟨ow2,e2,L2'⟩:=LI.fold hm hl (dn++[h]) ow1 L1 (by simpa using hlen);refine⟨ow2,?_,by simpa using L2'⟩;rw[aNe,e1,e2];simp
noncomputable def gT(hs:List Key->Int)(r:kK):Int×BX:=(hs r.2.1,Value.ref r.2.2)
abbrev tK(prog:AF)(w:AL):=AT<|dQ prog w
def aAD{d:Nat}(h:BI v=true):ofAClassStatement d v=pure false:=by cases v<;>first|rfl|(cases d<;>rfl)|(simp[BI] at h)
theorem aJr{x:BZ}{k:List Key}(hx:(tK prog w).is s.heap k x)(h:Q false s):AH (AD prog w) A (ofAClassStatement 8<|.ref x) Q E s:=by
 have hk:=hx;have hT:=hk.typeIs;obtain⟨o,items,n,ho,hc,hd,hi⟩:=hk;unfold ofAClassStatement;refine AA<|wpAny_typeOf hT ?_;refine AA<|AB ?_;refine AA<|AW ho hd ?_;refine AA ?_;rw[<-kC];refine Ap _ (λrest r s'=>r.1=none/\s'=s/\∀v∈rest,BI v=true) _ ?_ ?_ _ _ ⟨rfl,rfl,hi.byValue⟩
 ·rintro v rest r s' ⟨hr,rfl,hall⟩;rw[aAD<|hall v aG];refine AA<|AB ?_;exact AB ⟨rfl,rfl,λu hu'=>hall u<|aF _ hu'⟩
 ·rintro⟨r1,r2⟩ s' ⟨hr,rfl,_⟩;subst hr;exact AB h
theorem aRu{x:BZ}{k:List Key}{stored:List BX}(hx:(tK prog w).is s.heap k x)(hs:∀v∈stored,∃k' b,v=.ref b/\(tK prog w).is s.heap k' b)(h:Q false s):AH (AD prog w) A (searchCouldBeSeen (.ref x) stored) Q E s:=by
 refine AA ?_;refine Ap _ (λrest r s'=>r.1=none/\s'=s/\∀v∈rest,∃k' b,v=.ref b/\(tK prog w).is s.heap k' b) _ ?_ ?_ _ _ ⟨rfl,rfl,hs⟩
 ·rintro v rest r s' ⟨hr,rfl,hall⟩;obtain⟨k',b,rfl,hb⟩:=hall v aG;have nx:=λu hu=>hall u (aF _ hu)
  dsimp only
  by_cases hxb:(x==b)=true
  ·rw[hxb];exact AB ⟨rfl,rfl,nx⟩
  ·have hxb:(x==b)=false:=by simpa using hxb
   rw[hxb];refine AA<|(tK prog w).quiet hx ?_;refine AA<|(tK prog w).quiet hb ?_;refine AA<|aJr hx ?_;refine AA<|aJr hb ?_;exact AB ⟨rfl,rfl,nx⟩
 ·rintro⟨r1,r2⟩ s' ⟨hr,rfl,_⟩;subst hr;exact AB h
theorem aAV{a x:BZ}(hu:A.units<AR)(ho:s.heap.get? a=some o)(hd:o.data=.set es ep t)(X:TabT (tK prog w).hash t es T)(fit:t.fits es.size=true)(hx:(tK prog w).is s.heap kx x) (hk:∀r∈T,(tK prog w).is s.heap r.2.1 r.2.2)  (he:(pr t.mask ((tK prog w).hash kx) e).j∉T.map (·.1)) (hl:∀i,i<e->(pr t.mask ((tK prog w).hash kx) i).j∈T.map (·.1)) (h10:e<10*gI t.mask)(q1:kx∈T.map (·.2.1)->Q (.there none) s) (q2:kx∉T.map (·.2.1)->Q (.free (pr t.mask ((tK prog w).hash kx) e).j false) s):∀ (fuel n:Nat) (stand:Option SetTable.Probe),stand.getD (t.probeStart<|(tK prog w).hash kx)=pr t.mask ((tK prog w).hash kx) n->n<=e->e-n<fuel->(∀r∈T,r.2.1=kx->∃i,n<=i/\i<e/\(pr t.mask ((tK prog w).hash kx) i).j=r.1)->AH (AD prog w) A (setSearchFrom a (.ref x) ((tK prog w).hash kx) true fuel stand) Q E s
 |0,n,stand,e1,h1,h2,h3=>by lia
 |fuel+1,n,stand,e1,h1,h2,h3=>by
  refine AA<|Ae ho hd fit ?_;dsimp only
  have gw:t.gaveWay=false:=by unfold SetTable.gaveWay;rw[show t.mask=7 from X.om];rfl
  rw[gw]
  have hAt:∀B r C,T=B++r::C->es[B.length]? =some ((tK prog w).hash r.2.1,Value.ref r.2.2):=λB r C q=>by rw[X.en,q];simp
  rw[e1];generalize hf:t.probe _ ((tK prog w).hash kx) (pr t.mask ((tK prog w).hash kx) n)=met;obtain⟨F,hF,hf⟩:∃F:Nat->Int,(∀i,F i=((es[i]?).map (·.1)).getD 0)/\t.probe F ((tK prog w).hash kx) (pr t.mask ((tK prog w).hash kx) n)=met:=⟨_,λi=>rfl,hf⟩;unfold hG at hf
  obtain ⟨k,k1,k2,k3,k4⟩:=aEF X (hashAt:=F) (fun B r C q=>by
   have:=hAt B r C q;rw[hF,this]
   rfl) ((tK prog w).hash kx) (10*gI t.mask) n e h1 (by lia) he
  rcases k4 with⟨hm,hg⟩|⟨B,r,C,eT,hj,hh,hg⟩
  ·rw[hg] at hf;subst hf
   have ke:k=e:=by
    rcases dY k2 with z|z
    ·exact absurd (hl k z) hm
    ·exact z
   subst ke;refine AB<|q2 λhc=>?_;obtain⟨r,hr,er⟩:=aJ.mp hc;obtain⟨i,i1,i2,i3⟩:=h3 r hr er;exact(k3 i i1 i2).2 r hr i3.symm (by rw[er])
  ·rw[hg] at hf;subst hf;have hr:r∈T:=by rw[eT];simp
   have hei:=hAt B r C eT;have hsl:=X.slot_live eT;rw[hj] at hsl;have sm:t.sameMemory t.moves t.mask=some true:=by unfold SetTable.sameMemory;simp
   have hke:k<e:=by
    rcases dY k2 with z|z
    ·exact z
    ·subst z;exact absurd (hj▸cK hr) he
   cases hled:t.led with
   |true=>
    simp only[aCI,bK,if_false];rw[hei];dsimp only;refine AA (AV<|(tK prog w).eqBool hu (hk r hr) hx ?_);refine AA<|Ae ho hd fit ?_;dsimp only
    by_cases hkx:r.2.1=kx
    ·rw[decide_eq_true hkx];simp only[aQg,if_true];exact AB (q1<|hkx▸cK hr)
    ·rw[decide_eq_false hkx];simp only[qP,bK,if_false];rw[sm];dsimp only;rw[if_pos rfl,hsl];dsimp only;rw[hei];dsimp only;refine AA<|wpAny_isSame_ref_self ?_;refine AA<|AB ?_;simp only[if_true];refine aAV hu ho hd X fit hx hk he hl h10 q1 q2 fuel (k+1) (some _) rfl (by omega) (by lia) λr' hr' e'=>?_
     obtain⟨i,i1,i2,i3⟩:=h3 r' hr' e';refine⟨i,?_,i2,i3⟩
     rcases vR i k with z|z
     ·exact absurd (by rw[e'])<|(k3 i i1 z).2 r' hr' i3.symm
     ·rcases dY z with z|z
      ·exact z
      ·exfalso;subst z;have:=X.same_row hr' hr<|i3.symm.trans hj.symm;rw[this] at e';exact hkx e'
   |false=>
    simp only[aPV,if_true];refine AA<|aRu hx (λv hv=>?_) ?_
    ·obtain⟨p,hp,rfl⟩:=aJ.mp hv
     have hp':=by have:=qK.mp hp;exact qK.mpr (Array.mem_filter.mp this).1
     rw[X.en] at hp';obtain⟨r2,h2',rfl⟩:=aJ.mp (by simpa using hp':p∈T.map λr=>((tK prog w).hash r.2.1,Value.ref r.2.2));exact⟨r2.2.1,r2.2.2,rfl,hk r2 h2'⟩
    simp only[bK,if_false];rw[hei];dsimp only;refine AA (AV<|(tK prog w).eqBool hu (hk r hr) hx ?_);refine AA<|Ae ho hd fit ?_;dsimp only
    by_cases hkx:r.2.1=kx
    ·rw[decide_eq_true hkx];simp only[aQg,if_true];exact AB (q1<|hkx▸cK hr)
    ·rw[decide_eq_false hkx];simp only[qP,bK,if_false];rw[sm];dsimp only;rw[if_pos rfl,hsl];dsimp only;rw[hei];dsimp only;refine AA<|wpAny_isSame_ref_self ?_;refine AA<|AB ?_;simp only[if_true];refine aAV hu ho hd X fit hx hk he hl h10 q1 q2 fuel (k+1) (some _) rfl (by omega) (by lia) λr' hr' e'=>?_
     obtain⟨i,i1,i2,i3⟩:=h3 r' hr' e';refine⟨i,?_,i2,i3⟩
     rcases vR i k with z|z
     ·exact absurd (by rw[e'])<|(k3 i i1 z).2 r' hr' i3.symm
     ·rcases dY z with z|z
      ·exact z
      ·exfalso;subst z;have:=X.same_row hr' hr<|i3.symm.trans hj.symm;rw[this] at e';exact hkx e'
noncomputable def aQu:BX->Bool
 |.none | .bool _ | .int .. =>true
 |.float bits _=>(Float64.hash? bits).isSome
 |_=>false
def aCQ(d:Nat)(h:BI v=true):hashByValue d v=pure (aQu v):=by cases v<;>first|rfl|(cases d<;>rfl)|(simp[BI] at h)
def aFE(h:ItemsAre (dQ prog w) ks vs):(∀k∈ks,∃i,k=Sum.inl i)->∀v∈vs,∃i t,v=.int i t:=by
 induction h with
 |nil=>intro _ v hv;simp at hv
 |@cons k v ks vs h1 _ ih=>
  intro hk u hu
  rcases aP.mp hu with rfl|hu
  ·obtain⟨i,rfl⟩:=hk k aG
   rcases gE (show xZ (Sum.inl i) u=true from h1) with⟨i',t,e,rfl⟩|⟨x,t,e,_⟩
   ·exact⟨i',t,rfl⟩
   ·cases e
  ·exact ih (λz hz=>hk z<|aF _ hz) u hu
theorem hbvT{x:BZ}{k:List Key}(hx:(tK prog w).is s.heap k x)(h:∀b,((∀z∈k,∃i,z=Sum.inl i)->b=true)->Q b s):AH (AD prog w) A (hashByValue 8<|.ref x) Q E s:=by
 have hk:=hx;have hT:=hk.typeIs;obtain⟨o,items,n,ho,hc,hd,hi⟩:=hk;refine AA<|BD hT F.slot_tuple_hash.lookup ?_;refine AA<|AW ho hd ?_;refine AA ?_;rw[<-kC];have h0:=aFE hi;refine Ap _ (λrest r s'=>s'=s/\r.1=none/\(∀v∈rest,BI v=true)/\((∀z∈k,∃i,z=Sum.inl i)->∀v∈rest,∃i t,v=Value.int i t)) _ ?_ ?_ _ _ ⟨rfl,rfl,hi.byValue,h0⟩
 ·rintro v rest r s' ⟨rfl,hr,hall,hint⟩;have hb:=aCQ 7 (hall v aG)
  have hb2:(∀z∈k,∃i,z=Sum.inl i)->aQu v=true:=λz=>by obtain⟨i,t,rfl⟩:=hint z v aG;rfl
  generalize aQu v=b at hb hb2;rw[hb];refine AA<|AB ?_;cases b with
  |true=>exact AB ⟨rfl,rfl,λu hu'=>hall u<|aF _ hu',λz u hu'=>hint z u<|aF _ hu'⟩
  |false=>exact AB (AB<|h _ hb2)
 ·rintro⟨r1,r2⟩ s' ⟨rfl,hr,_⟩;subst hr;exact AB<|h _ λ_=>rfl
def SzT(m n:Nat):Prop:=m=7/\n<=4
theorem SzT.fit(z:SzT m n)(om:okM m)(h:n<=3):n<=m:=by obtain⟨rfl,_⟩:=z;lia
def SetT(prog:AF)(w:AL)(ip:Bool)(o:CC)(T:List kK):Prop:=∃ (es:Array (Int×BX)) (ep:Nat) (t:CG),o={cls:=.type "set",dict:=none,data:=.set es ep t}/\TabT (tK prog w).hash t es T/\SzT t.mask T.length/\t.led= !byT w/\(ip=true->t.plain=true)
def TabT.size(X:TabT hs t es T):es.size=T.length:=by rw[X.en];simp
def TabT.fill(X:TabT hs t es T):t.fill=T.length:=by unfold SetTable.fill;rw[X.pl,X.du];simp
def TabT.fit(X:TabT hs t es T)(hl:T.length<=t.mask):t.fits es.size=true:=by
 have e1:=X.size;have e2:=X.fill;have e3:t.place.size=T.length:=by rw[X.pl];simp
 unfold SetTable.fits;simp ;exact⟨by rw[e3,e1],by rw[e2];exact hl⟩
theorem aRF{a x:BZ}{kx:List Key}(hip:ip=true->∀z∈kx,∃i,z=Sum.inl i)(hu:A.units<AR)(hl:T.length<=3)(ho:s.heap.get? a=some o)(S:SetT prog w ip o T)(hk:∀r∈T,(tK prog w).is s.heap r.2.1 r.2.2)(hx:(tK prog w).is s.heap kx x)(h:∀ (b:Bool) (h':CB) (o':CC) (tk:Nat) (T':List kK),Heap.SameBut a s.heap h'->h'.get? a=some o'->SetT prog w ip o' T'->(∀p,p∈T'.map (·.2)->p=(kx,x)\/p∈T.map (·.2))->(∀k,k∈T'.map (·.2.1)↔k=kx\/k∈T.map (·.2.1))->Q b {s with heap:=h',toks:=tk}):AH (AD prog w) A (setAddHashed a (.ref x)<|(tK prog w).hash kx) Q E s:=by
 have S0:=S;obtain⟨es,ep,t,rfl,X,h7,hled,hpl0⟩:=S
 have lm:T.length<=t.mask:=by have:=h7.1;lia
 have fit:=X.fit lm;generalize htk:s.toks=tk;unfold setAddHashed setAddHashedIn;have es0:s={s with toks:=tk}:=by rw[<-htk]
 rw[es0];refine AV (AA<|Ae ho rfl fit ?_);dsimp only;have bs:byScan (.ref x) es=false:=rfl;rw[bs];simp only[bK,if_false];obtain⟨e,e1,e2,e3⟩:=X.room lm<|(tK prog w).hash kx;unfold setSearch;refine AA<|aAV (s:={s with toks:=tk}) hu ho rfl X fit hx hk e2 e3 e1 (λhm=>?_) (λhm=>?_) 100000 0 none rfl (bM _) ?_ λr hr er=>?_
 ·dsimp only;refine AB (h false s.heap _ _ T (Heap.SameBut.refl a s.heap) ho S0 (λp hp=>.inr hp) λk=>⟨λz=>.inr z,λz=>?_⟩)
  rcases z with rfl|z
  ·exact hm
  ·exact z
 ·dsimp only;refine AA<|Ae ho rfl fit ?_;dsimp only;generalize hj:(pr t.mask ((tK prog w).hash kx) e).j=j;rw[hj] at e2;have jm:=hj▸(aSb ((tK prog w).hash kx) e).1
  rcases hp:t.put j with⟨t1,p⟩
  have fin:∀b,(ip=true→b=true)→AH (AD prog w) A (do
    storeSet a (iM es p ((tK prog w).hash kx,.ref x)) {t1 with plain:=b}
    if(!false&&tZ {t1 with plain:=b})=true then setRelay a (SetTable.grown<|es.size+1)
    return true) Q E {s with toks:=tk}:=λb hbt=>by
   obtain⟨B,C,eT,X2⟩:=X.put e2 jm hm ⟨e,hj,e3⟩ b;rw[hp] at X2;generalize hT2:B++(j,kx,x)::C=T2 at X2
   have mk1:({t1 with plain:=b}).mask=t.mask:=by
    have:t1=(t.put j).1:=by rw[hp]
    rw[this];rfl
   have ld2:({t1 with plain:=b}).led= !byT w:=by
    have:t1=(t.put j).1:=by rw[hp]
    rw[this];exact hled
   have pn2:ip=true->({t1 with plain:=b}).plain=true:=hbt;generalize ({t1 with plain:=b})=t2 at X2 mk1 ld2 pn2 ⊢;dsimp only at X2;generalize hes2:iM es p ((tK prog w).hash kx,Value.ref x)=es2 at X2 ⊢
   have l2:T2.length=T.length+1:=by rw[<-hT2,eT];simp;lia
   have rw1:∀p,p∈T2.map (·.2)->p=(kx,x)\/p∈T.map (·.2):=λp hp=>by
    rw[<-hT2] at hp;rw[eT];simp only[aO,bG,aS,aP] at hp ⊢
    rcases hp with z|z|z
    ·exact .inr<|.inl z
    ·exact .inl z
    ·exact .inr<|.inr z
   have kw1:∀k,k∈T2.map (·.2.1)↔k=kx\/k∈T.map (·.2.1):=λk=>by
    rw[<-hT2,eT];simp only[aO,bG,aS,aP]
    constructor
    ·rintro(z|z|z)
     ·exact .inr<|.inl z
     ·exact .inl z
     ·exact .inr<|.inr z
    ·rintro(z|z|z)
     ·exact .inr<|.inl z
     ·exact .inl z
     ·exact .inr<|.inr z
   refine AA (wpAny_storeSet_of ho rfl ?_<|by rw[X2.size,Ao];lia);have g1:=eE (Obj.putSet es2 t2) ho (by rw[putSet_of _ _ rfl];rfl);rw[putSet_of _ _ rfl] at g1
   have tf:tZ t2=decide (T2.length*5>=t.mask*3):=by unfold tZ;rw[X2.fill,mk1]
   rw[tf]
   have hc:¬ (T2.length*5>=t.mask*3):=by rw[h7.1];lia
   ·rw[decide_eq_false hc];simp only[qP,bK,if_false];refine AA (AB<|AB ?_);refine h true _ _ tk T2 (Heap.SameBut.update s.heap a _) g1 ⟨es2,_,t2,rfl,X2,⟨by rw[mk1];exact h7.1,by lia⟩,ld2,pn2⟩ rw1 kw1
  cases hpl:t1.plain with
  |true=>
   simp only[hpl,if_true];refine AA<|hbvT hx λb hb=>?_;cases b with
   |true=>
    simp only[if_true];have:=fin true λ_=>rfl
    rw[show({t1 with plain:=true}:CG)=t1 by rw[<-hpl]] at this;exact this
   |false=>simp only[bK,if_false];exact fin false λz=>hb<|hip z
  |false=>
   simp only[hpl,bK,if_false];refine AA<|AB ?_;simp only[if_true]
   have:=fin false λz=>by
    have e:t1.plain=t.plain:=by
     have:t1=(t.put j).1:=by rw[hp]
     rw[this];rfl
    rw[e,hpl0 z] at hpl;cases hpl
   rw[show({t1 with plain:=false}:CG)=t1 by rw[<-hpl]] at this;exact this
 ·have:gI t.mask<=1000:=by rw[show t.mask=7 from X.om];decide
  lia
 ·obtain⟨n,n1,n2⟩:=X.ahead hr (by rw[er];exact e2);rw[er] at n2;exact⟨n,bM _,n1,n2⟩
def addT{a x:BZ}{kx:List Key}(hip:ip=true->∀z∈kx,∃i,z=Sum.inl i)(hu:A.units<AR)(hl:T.length<=3)(ho:s.heap.get? a=some o)(S:SetT prog w ip o T)(hk:∀r∈T,(tK prog w).is s.heap r.2.1 r.2.2)(hx:(tK prog w).is s.heap kx x)(h:∀ (b:Bool) (h':CB) (o':CC) (tk:Nat) (T':List kK),Heap.SameBut a s.heap h'->h'.get? a=some o'->SetT prog w ip o' T'->(∀p,p∈T'.map (·.2)->p=(kx,x)\/p∈T.map (·.2))->(∀k,k∈T'.map (·.2.1)↔k=kx\/k∈T.map (·.2.1))->Q b {s with heap:=h',toks:=tk}):AH (AD prog w) A (setAdd a<|.ref x) Q E s:=by
 refine AV (AA<|(tK prog w).pyHash hu hx ?_);exact aRF hip hu hl ho S hk hx h
theorem aMu{vs:List (List Key)}(nd:(T.map (·.2.1)).Nodup)(h:∀k,k∈T.map (·.2.1)↔k∈vs)(hn:vs.length<=n):T.length<=n:=by
 have:=nd.length_le_of_subset λk hk=>(h k).mp hk
 rw[aA] at this;lia
def xB{x:BZ}{k:List Key}(hx:(tK prog w).is h k x)(kp:∀o,h.get? x=some o->h'.get? x=some o):(tK prog w).is h' k x:=by obtain⟨o,items,n,ho,hc,hd,hi⟩:=(hx);exact(⟨o,items,n,kp _ ho,hc,hd,hi⟩)
def SetT.nd(S:SetT prog w ip o T):(T.map (·.2.1)).Nodup:=by obtain⟨es,ep,t,_,X,_,_,_⟩:=S;exact X.kn
theorem aQO{R:Result->BY->Prop}{St:Nat->CB->Prop}(hu:A.in1.units<AR)(W:Walks prog w A.in1 I fp wr n P St)(hSf:S∉fp)(vs:List (List Key))(hip:ip=true->∀k∈vs,∀z∈k,∃i,z=Sum.inl i)(hn:vs.length=n)(h16:n<=3)(h0:CB)(hval:∀i v,P i v->∃x,v=.ref x/\x≠S/\x∉wr/\(tK prog w).is h0 (vs.getD i []) x):∀ (m i:Nat) (s:BY) (o:CC) (T:List kK),n-i=m->i<=n->St i s.heap->s.heap.get? S=some o->SetT prog w ip o T->(∀k,k∈T.map (·.2.1)↔k∈vs.take i)->(∀p∈T.map (·.2),p.2≠S/\p.2∉wr/\(tK prog w).is h0 p.1 p.2/\∃i,P i (.ref p.2)/\vs.getD i []=p.1)->(∀b x,b≠S->b∉wr->h0.get? b=some x->s.heap.get? b=some x)->(∀h' tk o' T',(∀b x,b≠S->b∉wr->s.heap.get? b=some x->h'.get? b=some x)->h'.get? S=some o'->SetT prog w ip o' T'->(∀k,k∈T'.map (·.2.1)↔k∈vs)->(∀p∈T'.map (·.2),∃i,P i (.ref p.2)/\vs.getD i []=p.1)->R (.ok<|.ret .none) {s with heap:=h',toks:=tk})->codeAny (AD prog w) A (.builtin "set.update.loop" ⟨[.ref S,.ref I],[]⟩) R s:=by
 have hSw:=λh=>hSf<|W.sub _ h
 intro m
 induction m with
 |zero=>
  intro i s o T hm hi st ho sm kt rt k0 k;have e:i=n:=by lia
  subst e;refine An F.entry_set_update_loop ?_;rw[Around.under_plainId F.plain_set_update_loop];refine AA<|W.done s _ _ st λh' tk kp=>AB ?_;rw[<-hn,dA] at kt;exact k h' tk o T (λb x _ hb g=>kp b x hb g) (kp S o hSw ho) sm kt λp hp=>(rt p hp).2.2.2
 |succ m ih=>
  intro i s o T hm hi st ho sm kt rt k0 k;have hlt:i<n:=by lia
  have hlt':i<vs.length:=by lia
  refine An F.entry_set_update_loop ?_;rw[Around.under_plainId F.plain_set_update_loop];refine AA<|W.item i s _ _ hlt st λv h' tk hP st' kp=>?_;obtain⟨x,rfl,xS,xw,hx⟩:=hval i v hP;have vi:vs.getD i []=vs[i]:=by simp[bV,hlt']
  have tk1:vs.take (i+1)=vs.take i++[vs.getD i []]:=by simp[hlt']
  have k1:=λb x h1 h2 g=>kp b x h2<|k0 b x h1 h2 g
  have tl:T.length<=3:=aMu sm.nd kt (by rw[cT];lia);refine AA (AV<|addT (λz=>hip z _<|by rw[vi];exact fJ hlt') hu tl (kp S o hSw ho) sm (λr hr=>?_) (xB hx λo g=>k1 x o xS xw g) λb h2 o2 tk2 T2 sb g2 sm2 rt2 kt2=>?_)
  ·obtain⟨q1,q2,q3,_⟩:=rt r.2<|cK hr;exact xB q3 λo g=>k1 _ o q1 q2 g
  ·refine AB ⟨BO F.plain_set_update_loop _,ih (i+1) _ o2 T2 (by lia) hlt (W.frame _ _ _ st' λb hb x g=>?_) g2 sm2 (λk=>?_) (λp hp=>?_) (λb x h1 h3 g=>?_) λh3 tk3 o3 T3 kp3 g3 sm4 kt4 rt4=>?_⟩
   ·rw[sb.2 b λz=>hSf<|z▸hb];exact g
   ·rw[kt2,kt,tk1,aS,aH];exact⟨λz=>z.symm,λz=>z.symm⟩
   ·rcases rt2 p hp with rfl|z
    ·exact⟨xS,xw,hx,i,hP,rfl⟩
    ·exact rt p z
   ·rw[sb.2 b h1];exact k1 b x h1 h3 g
   ·refine k h3 tk3 o3 T3 (λb x h1 h2 g=>kp3 b x h1 h2 ?_) g3 sm4 kt4 rt4;rw[sb.2 b h1];exact kp b x h2 g
def aRw:SetT prog w ip (aHd w) []:=⟨#[],0,aRO (!byT w) [],rfl,⟨rfl,rfl,rfl,rfl,List.Pairwise.nil,λr h=>(by cases h),λr h=>(by cases h),dS⟩,⟨rfl,bM _⟩,rfl,λ_=>rfl⟩
def aQU{R:Result->BY->Prop}{S l:BZ}{items:Array BX}(hu:A.in1.in1.units<AR)(vs:List (List Key)){ip:Bool}(hip:ip=true->∀k∈vs,∀z∈k,∃i,z=Sum.inl i)(hn:vs.length=items.size)(h16:items.size<=3)(hi:∀ (i:Nat) (v:BX),items[i]? =some v->∃x,v=.ref x/\x≠S/\(tK prog w).is s.heap (vs.getD i []) x)(hh:A.handled=none)(ho:s.heap.get? S=some (aHd w)) (ht:s.heap.IsList l items)(k:∀h' tk o' T',(∀b x,b≠S->s.heap.get? b=some x->h'.get? b=some x)->h'.get? S=some o'->SetT prog w ip o' T'->(∀k,k∈T'.map (·.2.1)↔k∈vs)->(∀p∈T'.map (·.2),∃i:Nat,items[i]? =some (.ref p.2)/\vs.getD i []=p.1)->R (.ok<|.ret .none) {s with heap:=h',toks:=tk}):AH (AD prog w) A.in1 (Builtin.«set.__init__» ⟨[.ref S,.ref l],[]⟩) (λfin s'=>match fin with | .done f=>R (.ok f) s' | .again c'=>c'.quiet=true/\codeAny (AD prog w) A c' R s') (λe s'=>R (.error e) s') s:=by
 obtain⟨ol,hol,hcl,nl,hdl⟩:=id ht;obtain⟨ocls,odict,odata,oslots⟩:=ol;simp only at hcl hdl;subst hcl hdl;have q1:=aBy;have q2:=aDC;have q3:(Value.type "list"==Value.type "dict")=false:=by decide
 have hT:Shared.TypeIs s (.ref S) "set":=⟨_,ho,rfl⟩
 have hSl:S≠l:=λz=>by rw[z,hol] at ho;have q:(Value.type "list")=Value.type "set":=congrArg Obj.cls<|bW.inj ho;exact absurd q<|by decide
 unfold Builtin.«set.__init__» noKeywords Builtin.Frozenset.updateFrom;generalize pI:pyIter=PI
 wp_walk
 subst pI;refine Au (ht) (AA<|wpAny_runValue ?_);have lS:l<s.heap.objs.size:=aM hol;have sS:S<s.heap.objs.size:=aM ho;refine aQO hu (Walks.list (by simpa using hh) s.heap.objs.size l (bC lS) items) (λz=>?_) vs hip hn h16 s.heap (λi v hv=>?_) (items.size-0) 0 _ (aHd w) [] rfl (bM _) ⟨⟨_,aR _ rfl,rfl,rfl⟩,ht.push _⟩ (aD _ ho) aRw (λk=>by simp) (λp hp=>by cases hp) (λb x h1 h2 g=>aD _ g) λh' tk o' T' kp g sm kt rt=>?_
 ·rcases aP.mp z with z|z
  ·exact bC sS z
  ·exact hSl (by simpa using z)
 ·obtain⟨x,e,xS,hx⟩:=hi i v hv;obtain⟨o,_,_,hxo,_⟩:=(show IsTupleKey (dQ prog w) s.heap _ x from hx);exact⟨x,e,xS,λz=>absurd (aM hxo) (by rw[show x=s.heap.objs.size by simpa using z];exact dH _),hx⟩
 ·refine AB (AB<|k h' tk o' T' (λb x h1 g=>kp b x h1 (λz=>?_)<|aD _ g) g sm kt rt);have z:b=s.heap.objs.size:=by simpa using z
  exact absurd (aM g) (by rw[z];exact dH _)
theorem aRj(hu:A.units+8<AR)(vs:List (List Key))(hip:ip=true->∀k∈vs,∀z∈k,∃i,z=Sum.inl i)(hn:vs.length=items.size)(h16:items.size<=3)(hi:∀ (i:Nat) (v:BX),items[i]? =some v->∃x,v=.ref x/\(tK prog w).is s.heap (vs.getD i []) x)(hh:A.handled=none)(ht:s.heap.IsList l items)(k:∀h' tk o' T',(∀b x,s.heap.get? b=some x->h'.get? b=some x)->h'.get? s.heap.objs.size=some o'->SetT prog w ip o' T'->(∀k,k∈T'.map (·.2.1)↔k∈vs)->(∀p∈T'.map (·.2),∃i:Nat,items[i]? =some (.ref p.2)/\vs.getD i []=p.1)->Q (.ref s.heap.objs.size) {s with heap:=h',toks:=tk}):AH (AD prog w) A (call (.type "set") [.ref l]) Q E s:=by
 obtain⟨c,tl,m1⟩:=F.called_set.mro;have m2:=F.called_set.made;have m3:=F.called_set.sub;refine wpAny_call<|codeAny_of_tree (show AH _ _ (callAny (.type "set") _) _ _ _ from ?_);refine AB ⟨Code.quiet_builtin _<|by decide+kernel,An F.entry_type_call ?_⟩;rw[Around.under_plain (weight_type_call_type "set" [Value.ref l] []) rfl];have m4:=F.called_set.notType;have m5:=F.called_set.canCreate;have m6:=F.typeCall_set_1<|.ref l
 repeat (any_goals (first|assumption|wp_step))
 refine BK (newK (.ref l) (E:=E) (Q₁:=λob s1=>ob=.ref s.heap.objs.size/\s1={s with heap:=s.heap.push (aHd w)}) ⟨rfl,rfl⟩) λr s1 hr=>?_
 cases r with
 |error e=>exact hr
 |ok fl=>
  cases fl with
  |ret ob=>
   obtain⟨rfl,rfl⟩:=hr;have ho:(s.heap.push<|aHd w).get? s.heap.objs.size=some (aHd w):=aR _ rfl;have hT:Shared.TypeIs {s with heap:=s.heap.push (aHd w)} (.ref s.heap.objs.size) "set":=⟨_,ho,rfl⟩;have m7:=F.called_set.init.lookup;have m8:=F.called_set.init.bind<|.ref s.heap.objs.size
   repeat (any_goals (first|assumption|wp_step))
   refine BK (codeAny_call_builtin (R:=wants (λr s2=>r=.none/\∃h' tk o' T',s2={s with heap:=h',toks:=tk}/\(∀b x,s.heap.get? b=some x->h'.get? b=some x)/\h'.get? s.heap.objs.size=some o'/\SetT prog w ip o' T'/\(∀k,k∈T'.map (·.2.1)↔k∈vs)/\(∀p∈T'.map (·.2),∃i:Nat,items[i]? =some (.ref p.2)/\vs.getD i []=p.1)) E) F.called_set.init.plain F.entry_set_init<|check_set_init_1 hT ?_) λr2 s2 hr2=>?_
   ·refine aQU (s:={s with heap:=s.heap.push (aHd w)}) (by simp only[Around.in1];lia) vs hip hn h16 (λi v hv=>?_) (by simpa using hh) ho (ht.push _) λh' tk o' T' kp g sm kt rt=>?_
    ·obtain⟨x,e,hx⟩:=hi i v hv;obtain⟨o,_,_,hxo,_⟩:=(show IsTupleKey (dQ prog w) s.heap _ x from hx);exact⟨x,e,bC<|aM hxo,xB hx λo g=>aD _ g⟩
    ·exact⟨rfl,h',tk,o',T',rfl,λb x gx=>kp b x (bC<|aM gx)<|aD _ gx,g,sm,kt,rt⟩
   ·cases r2 with
    |error e=>exact hr2
    |ok fl2=>
     cases fl2 with
     |ret r=>
      obtain⟨rfl,h',tk,o',T',rfl,kp,g,sm,kt,rt⟩:=hr2
      repeat (any_goals (first|assumption|wp_step))
      exact k _ _ _ _ kp g sm kt rt
     |_=>exact hr2.elim
  |_=>exact hr.elim
def oO{α β:Type}{f:α->β}{l:List α}{l':List β}(h:l'.Perm (l.map f)):∃l2:List α,l2.Perm l/\l'=l2.map f:=by
 generalize hy:l.map f=y at h
 induction h generalizing l with
 |nil=>
  have:=by simpa using hy
  subst this;exact⟨[],.refl _,rfl⟩
 |cons x p ih=>
  cases l with
  |nil=>simp at hy
  |cons a t=>simp at hy;obtain⟨l3,q1,q2⟩:=ih hy.2;exact⟨a::l3,q1.cons a,by rw[bG,hy.1,q2]⟩
 |swap x y l0=>
  match l,hy with
  |a::b::t,hy=>simp at hy;exact⟨b::a::t,List.Perm.swap a b t,by rw[bG,bG,hy.1,hy.2.1,hy.2.2]⟩
  |[a],hy=>simp at hy
  |[],hy=>simp at hy
 |trans p1 p2 ih1 ih2=>obtain⟨l3,q1,q2⟩:=ih2 hy;obtain⟨l4,r1,r2⟩:=ih1 q2.symm;exact⟨l4,r1.trans q1,r2⟩
variable {a b:Expr}
def mQ(k:List Key):D:=.tup<|k.map kD
structure TOk(w:AL)(es:List (Int×BX))(t:CG)(ks:List Nat):Prop where
 fit:t.fits es.toArray.size=true
 pl:t.plain=true
 led:t.led= !byT w
 place:t.place=ks.toArray
 asc:ks.Pairwise (·<·)
 len:es.length=ks.length
noncomputable def soT(es:List (Int×BX))(ep:Nat)(t:CG):CC:={cls:=.type "set",dict:=none,data:=.set es.toArray ep t}
theorem aPq(h:ks.Pairwise (·<·))(hb:byT w=false)(i:Nat)(hi:i<=ks.length):fX ks.toArray (stK w ks i)=i:=by
 have e:=(fU i ks).symm;have l1:(ks.take i).length=i:=by rw[cT];lia
 have g:fX (ks.take i++ks.drop i).toArray (stK w ks i)=(ks.take i).length:=by
  have pw:=jP.mp h;refine tW (λx hx=>?_) λx hx=>?_
  ·obtain⟨j,hj,rfl⟩:=cP hx;cases i with
   |zero=>lia
   |succ i=>
    have st:stK w ks (i+1)=ks.getD i 0+1:=by unfold stK;rw[hb];rfl
    rw[vJ];have hi':i<ks.length:=by omega
    have eg:ks.getD i 0=ks[i]:=by simp[bV,hi']
    by_cases q:j=i
    ·subst q;lia
    ·have:=pw j i (by lia) hi' (by lia);lia
  ·obtain⟨j,hj,rfl⟩:=cP hx;rw[gN] at hj;cases i with
   |zero=>
    have st:stK w ks 0=0:=by unfold stK;rw[hb];rfl
    rw[st];exact bM _
   |succ i=>
    have st:stK w ks (i+1)=ks.getD i 0+1:=by unfold stK;rw[hb];rfl
    rw[st,List.getElem_drop];have hi':i<ks.length:=by omega
    have eg:ks.getD i 0=ks[i]:=by simp[bV,hi']
    rw[eg];exact pw i (i+1+j) hi' (by lia)<|by lia
 rw[<-e,l1] at g;exact g
def aRg{es:List (Int×BX)}(hk:TOk w es tb ks)(ho:s.heap.get? S=some (soT es ep tb))(hi:i<=ks.length)(h:Q (((pA w S ep es)[i]?).map λe=>(e.2,stK w ks<|i+1)) s):AH (AD prog w) A (setNext S (stK w ks i) i ep) Q E s:=by
 refine AA<|Ae ho rfl (hk.fit) ?_;refine AA ?_;refine AA (BU<|AB ?_);show AH _ _ (if byT w=true then _ else _) _ _ _;cases hb:byT w with
 |true=>
  simp ;refine AA ?_;refine AA<|Ae ho rfl (hk.fit) ?_;refine AA ?_;refine AA (BU<|AB ?_);show AH _ _ (if byT w=true then _ else _) _ _ _;rw[hb];refine AA<|BU (AB<|AB ?_);have e:pA w S ep es=(pickOrder (w.params.setOrder S ep) es.toArray).toList:=by unfold pA;rw[hb];rfl
  have e2:stK w ks i=stK w ks (i+1):=by unfold stK;rw[hb];rfl
  rw[e] at h;rw[e2];rw[cU] at h;exact h
 |false=>
  have e:pA w S ep es=es:=by unfold pA;rw[hb];rfl
  have e2:fX tb.place (stK w ks i)=i:=by rw[hk.place];exact aPq hk.asc hb i hi
  have e3:((pA w S ep es)[i]?).map (fun e=>(e.2,stK w ks (i+1)))=(match es.toArray[i]?,tb.place[i]? with
     |some (_,x),some j=>some (x,j+1)
     |_,_=>none):=by
   have e4:stK w ks (i+1)=ks.getD i 0+1:=by unfold stK;rw[hb];rfl
   rw[e,e4];rw[hk.place]
   by_cases h1:i<ks.length
   ·have h2:i<es.length:=by rw[hk.len];exact h1
    simp[h1,h2,bV]
   ·have h2:¬ i<es.length:=by rw[hk.len];exact h1
    simp[h1,h2]
  rw[e2];rw[e3] at h
  have r1:∀ (t t':Sem (Option<|BX×Nat)),AH (AD prog w) A t Q E s->AH (AD prog w) A (if(!tb.plain&&decide (es.toArray.size>1))=true then t' else t) Q E s:=λt t' ht=>by rw[hk.pl];exact ht
  refine r1 _ _ ?_;have led:tb.led=true:=by rw[hk.led,hb];rfl
  refine AA ?_
  wp_delta
  rw[led];exact AB<|AB h
def aNO{es:List (Int×BX)}(hk:TOk w es tb ks)(hI:s.heap.get? I=some (itK w S ks ep i))(ho:s.heap.get? S=some (soT es ep tb))(hi:i<=ks.length)(h:AH (AD prog w) A.in1 (match ((pA w S ep es)[i]?).map fun e=>(e.2,stK w ks (i+1)) with
       |some (x,next)=>do
        setField (Value.ref I) 0 (BJ next)
        setField (Value.ref I) 1 (BJ<|(i:Int)+1)
        ret x
       |none=>do
        setField (Value.ref I) 2 Value.none
        raiseNew (<-newExc (Value.type "StopIteration") [])) (λfin s'=>∃v,fin=Fin.done (Flow.ret v)/\AH (AD prog w) A (pure (some v)) Q E s')
  (λe s'=>AH (AD prog w) A (do if <-isInstance e (Value.type "StopIteration") then pure none else throw e) Q E s') s):AH (AD prog w) A (pyNext (.ref I)) Q E s:=by
 have hT:=aAj hI;refine AA (BG<|AS hT slot_sit_next (AQ slot_sit_next hT xQ ?_<|aAa _));refine AA<|AB (AA<|wpAny_fieldsOf hI rfl ?_);show AH _ _ (setEntries S>>=λes=>if((es.size) !=(ks.length:Int))=true then _ else(setNext S (stK w ks i:Int).toNat (i:Int).toNat (ep:Int).toNat>>=_)) _ _ _;refine AA ?_;refine AA (Ae ho rfl (hk.fit)<|AB ?_);rw[if_neg<|by simp[hk.len]];exact AA<|aRg hk ho hi h
def aRJ{es:List (Int×BX)}{c:Int}(hk:TOk w es tb ks)(hI:s.heap.get? I=some (itK w S ks ep i))(ho:s.heap.get? S=some (soT es ep tb))(hi:i<ks.length)(hv:(pA w S ep es)[i]? =some (c,v))(h:∀h',h'.get? I=some (itK w S ks ep<|i+1)->Heap.SameBut I s.heap h'->Q (some v) {s with heap:=h'}):AH (AD prog w) A (pyNext<|.ref I) Q E s:=by
 refine aNO hk hI ho (cX hi) ?_;rw[hv];refine AA<|Az hI rfl (by simp) ?_;have g1:=eE (Obj.mapFields (·.setIfInBounds 0 (BJ<|(stK w ks<|i+1)))) hI rfl;refine AA<|Az g1 rfl (by simp) ?_;have g2:=eE (Obj.mapFields (·.setIfInBounds 1 (BJ<|(i)+1))) g1 rfl;refine AB ⟨v,rfl,AB<|h _ (g2.trans ?_) ((Heap.SameBut.update ..).trans<|Heap.SameBut.update ..)⟩;rfl
theorem endW{es:List (Int×BX)}(hh:A.handled=none)(hk:TOk w es tb ks)(hI:s.heap.get? I=some (itK w S ks ep ks.length))(ho:s.heap.get? S=some (soT es ep tb))(ho2:(pA w S ep es).length=ks.length)(h:∀h',Heap.ExtBut I s.heap h'->Q none {s with heap:=h'}):AH (AD prog w) A (pyNext<|.ref I) Q E s:=by
 refine aNO hk hI ho (aK _) ?_;rw[cV<|by lia];refine AA (Az hI rfl (by simp)<|AA ?_);refine AA (AO (AA<|wpAny_of_eq (by first|rfl|(rfl)) (AO ?_<|by size_fits))<|by size_fits);refine AA<|wpAny_handled ?_;rw[hh];refine AA (AB<|wpAny_throw ?_);refine AA (Ax ⟨_,aR _ rfl,rfl⟩ isSubtype_stop<|AB ?_);exact h _<|((Heap.SameBut.update ..).extBut.push _).push _
theorem aQV{es:List (Int×BX)}(hk:TOk w es tb ks)(ho:s.heap.get? S=some (soT es ep tb))(h:Q (.ref s.heap.objs.size) {s with heap:=s.heap.push (itK w S ks ep 0)}):AH (AD prog w) A (pyIter<|.ref S) Q E s:=by
 have hT:s.TypeIs (.ref S) "set":=⟨_,ho,rfl⟩;refine BQ hT F.slot_set_iter (AQ F.slot_set_iter hT aCZ ?_<|F.args_set_iter_1 _);refine AA (AA<|AB (AB<|AA ?_));refine AA (AA<|Ae ho rfl (hk.fit) (AB<|AB ?_));refine AA ?_;refine AA<|Ae ho rfl (hk.fit) ?_;refine AA ?_;refine AA<|BU (AB<|AB ?_)
 have dr:∀ (b:Bool) (t t':Sem Fin) (Q:Fin->BY->Prop) (E:BX->BY->Prop),AH (AD prog w) A.in1 t' Q E s->AH (AD prog w) A.in1 (if(b&&(!tb.plain&&decide (es.toArray.size>1)))=true then t else t') Q E s:=λb t t' Q E ht=>by
  have:(b&&(!tb.plain&&decide (es.toArray.size>1)))=false:=by rw[hk.pl];simp
  rw[this];exact ht
 refine dr _ _ _ _ _ (AA<|AB (AA<|wpAny_setEpoch_of ho rfl (hk.fit) ?_));refine AA (AO<|AB ⟨_,rfl,"set_iterator",_,⟨_,aR _ rfl,rfl⟩,slot_sit_next.lookup,?_⟩);have e0:stK w ks 0=0:=by unfold stK;split<;>rfl
 have e:({cls:=Value.type "set_iterator",data:=.fields [BJ 0,BJ 0,Value.ref S,BJ<|es.toArray.size,BJ<|ep].toArray})=itK w S ks ep 0:=by unfold itK;rw[e0];simp[hk.len]
 exact e▸h
def aCr{es:List (Int×BX)}(hk:TOk w es tb ks):(pA w S ep es).length=ks.length:=by rw[(aAu es).length_eq,hk.len]
def aOJ(hh:A.handled=none){es:List (Int×BX)}(hk:TOk w es tb ks)(hne:S≠I):Walks prog w A I [I,S] [I] ks.length (λi v=>∃c,(pA w S ep es)[i]? =some (c,v)) (λi h=>h.get? I=some (itK w S ks ep i)/\h.get? S=some (soT es ep tb)) where
 sub:=λb hb=>by simp at hb;simp[hb]
 frame:=λ_ _ _ st kp=>⟨kp I (by simp) _ st.1,kp S (by simp) _ st.2⟩
 item:=λi s Q E hi st k=>by
  have hi':i<(pA w S ep es).length:=by rw[aCr hk];exact hi
  obtain⟨⟨c,v⟩,hx⟩:∃p,(pA w S ep es)[i]? =some p:=⟨(pA w S ep es)[i],by simp[hi']⟩;refine aRJ hk st.1 st.2 hi hx λh' g sb=>k v h' s.toks ⟨c,hx⟩ ⟨g,?_⟩ λb o hb g=>?_
  ·rw[sb.2 S hne];exact st.2
  ·rw[sb.2 b λz=>hb<|by simp[z]];exact g
 done:=λs Q E st k=>endW hh hk st.1 st.2 (aCr hk) λh' eb=>k h' s.toks λb o hb g=>eb b o (λz=>hb<|by simp[z]) g
 self:=λ_ _ _ _ st k=>aQS st.1 k
def srcW{es:List (Int×BX)}(hk:TOk w es tb ks):PySem.W.KdlSrc prog w "set" S S ks.length (λi v=>∃c,(pA w S ep es)[i]? =some (c,v)) (λh=>h.get? S=some (soT es ep tb)) where
 type:=λ_ hm=>⟨_,hm,rfl⟩
 there:=λ_ hm=>⟨aM hm,aM hm⟩
 keep:=λ_ _ hm kp=>kp S (.inl rfl) _ hm
 notList:=by decide
 notTuple:=by decide
 hint:=λ_ _ _ _ hm q=>aQM ⟨_,hm,rfl⟩ q
 iter:=λ_ _ hh hm=>⟨_,_,(λ_ _ q=>aQV hk hm q),aOJ hh hk (bC<|aM hm),⟨aR _ rfl,aD _ hm⟩⟩
noncomputable def jX(h:CB)(a:BZ)(vs:List BX):CB:=((h.update a<|Obj.mapSeq λ_=> #[]).push<|Aj "tuple" vs.toArray 0).push<|Aj "list" #[] 0
def sQ(vs:List BX):(vs.toArray.zip vs.toArray).toList=vs.map λv=>(v,v):=by
 rw[Array.toList_zip]
 induction vs with
 |nil=>rfl
 |cons v vs ih=>rw[eV,ih];rfl
def aME{vs:List BX}(nd:(vs.map rk).Nodup)(hask:∀x∈vs,∀y∈vs,∀ (Q:Bool->BY->Prop) (E':BX->BY->Prop),Q (decide<|rk x<rk y) s->AH (AD prog w) A (keyLt' κ x y) Q E' s):mB prog w A E s κ (λp=>rk p.1) (vs.toArray.zip vs.toArray):=by
 refine⟨λ{x y st Q} hx hy hk h=>?_,?_⟩
 ·rw[sQ] at hx hy;obtain⟨u,hu,rfl⟩:=aJ.mp hx;obtain⟨v,hv,rfl⟩:=aJ.mp hy;rw[lt'_eq];refine AG<|wpS_get ?_;rw[hk];exact AG<|wpS_lift (BG<|hask u hu v hv _ _ ⟨rfl,AJ h⟩)
 ·rw[sQ,aW];exact nd
theorem qN{a:BZ}{rk:BX->Nat}{R:PySem.Fin->BY->Prop}(ho:s.heap.get? a=some (Aj "list" vs.toArray n))(nd:(vs.map rk).Nodup)(hn:vs.length<=10000)(hkind:2<=vs.length->∀ (Q:BA->BY->Prop),Q κ ⟨jX s.heap a vs,s.gens,s.drawn,s.toks,s.os⟩->AH (AD prog w) A (keyKind' vs.toArray) Q E ⟨jX s.heap a vs,s.gens,s.drawn,s.toks,s.os⟩)(hask:∀x∈vs,∀y∈vs,∀ (Q:Bool->BY->Prop) (E':BX->BY->Prop),Q (decide<|rk x<rk y) ⟨jX s.heap a vs,s.gens,s.drawn,s.toks,s.os⟩->AH (AD prog w) A (keyLt' κ x y) Q E' ⟨jX s.heap a vs,s.gens,s.drawn,s.toks,s.os⟩)(h:∀out:Array BX,out.toList.Perm vs->(out.toList.map rk).Pairwise (·<·)->R (.done<|.ret .none) {s with heap:=sortedHeap s.heap a vs out}):AH (AD prog w) A (Builtin.«list.sort» ⟨[.ref a],[]⟩) R E s:=by
 have lt:=aM ho;have sz:vs.toArray.size=vs.length:=by simp
 obtain⟨n0,g1⟩:∃n0,(s.heap.update a<|Obj.mapSeq λ_=> #[]).get? a=some (Aj "list" #[] n0):=⟨_,BW ho λ_=> #[]⟩
 have n1:a≠((s.heap.update a<|Obj.mapSeq λ_=> #[]).push<|Aj "tuple" vs.toArray 0).objs.size:=by rw[size_push',oZ];exact bC<|oC lt
 have n2:a≠(s.heap.update a<|Obj.mapSeq λ_=> #[]).objs.size:=by rw[oZ];exact bC lt
 have g6:(jX s.heap a vs).get? a=some (Aj "list" #[] n0):=by unfold jX;rw[aKs _ _ _ n1,aKs _ _ _ n2,g1]
 rw[list_sort_plain];refine AA (listItems_at ho rfl<|AA (listUpdate_at ho rfl (AA (seqEpoch_at g1 rfl<|AA (wpAny_newTuple (AA (wpAny_newList (AV ?_)<|bM _))<|by show vs.length<=_;rw[Ao];lia))) (by rw[Ao];lia)<|bM _));dsimp only
 by_cases h2:vs.toArray.size<2
 ·rw[if_pos h2,if_pos h2];refine AA<|AB ?_;refine AA (AB (AA<|seqEpoch_at g6 rfl (AA<|listUpdate_at g6 rfl ?_ (bM _) ?_)))
  ·simp only[bne_self_eq_false,if_false,bK];refine AB ?_
   have e:Array.map (λ(x)=>x.2) (AK<|SortSt.mk' general' (vs.toArray.zip vs.toArray) #[] 7 none)=vs.toArray:=by apply jL.mp;rw[vT];rw[sQ,aW];exact kH _
   rw[e];refine h vs.toArray (.refl _) ?_
   match vs,h2 with
   |[],_=>exact .nil
   |[v],_=>exact kG _ _
  ·rw[Array.size_map,Array.size_zip,sz,Ao];lia
 ·rw[if_neg h2,if_neg h2];refine AA<|hkind (by lia) _ ?_;have K:mB prog w A E ⟨jX s.heap a vs,s.gens,s.drawn,s.toks,s.os⟩ κ (λp=>rk p.1) (vs.toArray.zip vs.toArray):=aME nd hask;refine AA<|Ak (aGr (Q:=λ_ st'=>SB κ (vs.toArray.zip vs.toArray) st'/\AscR (λp=>rk p.1) (AK st') 0 (vs.toArray.zip vs.toArray).size) K ⟨Array.Perm.refl _,rfl,rfl⟩ rfl λst' b c=>⟨b,c⟩) ?_ λ_ _ z=>z;rintro⟨⟨⟩,st'⟩ s' ⟨rfl,hB,hA⟩
  have pm:=by
   have:=gP.mp hB.perm
   rwa[sQ] at this
  have p2:((AK st').map (·.2)).toList.Perm vs:=by rw[vT];have:=pm.map (·.2);rw[aW] at this;exact this.trans (List.Perm.of_eq<|kH _)
  have sO:=by
   have:=p2.length_eq
   rwa[eC] at this
  refine AA<|seqEpoch_at g6 rfl (AA<|listUpdate_at g6 rfl ?_ (bM _) ?_)
  ·rw[hB.failed];simp only[bne_self_eq_false,if_false,bK];refine AB<|h _ p2 ?_;rw[vT,aW,jP];intro i j hi hj hij;rw[aA,eC] at hi hj;have q:=hA i j (bM _) hij (by rw[<-hB.size];exact hj);rw[eA hi,eA hj] at q
   have d:∀p∈(AK st').toList,p.1=p.2:=λp hp=>by obtain⟨v,_,rfl⟩:=aJ.mp<|pm.mem_iff.mp hp;rfl
   have d1:=d (AK st')[i] (by simp);have d2:=d (AK st')[j] (by simp);rw[d1,d2] at q;simpa using q
  ·rw[sO,Ao];lia
open PySem.W (kat_lt kat_cons kat_nil kat_yes kat_no kat_one kat_kind KatTups KatLex)
theorem aCS{rk:BX->Nat}(hl:s.heap.IsList l vs.toArray)(nd:(vs.map rk).Nodup)(hn:vs.length<=10000)(hkind:∀t:BY,(∀b o,s.heap.get? b=some o->t.heap.get? b=some o)->2<=vs.length->∀ (A':CA) (R:BA->BY->Prop) (E':BX->BY->Prop),A'.units<=A.units+2->R κ t->AH (AD prog w) A' (keyKind' vs.toArray) R E' t)(hask:∀t:BY,(∀b o,s.heap.get? b=some o->t.heap.get? b=some o)->∀x∈vs,∀y∈vs,∀ (A':CA) (R:Bool->BY->Prop) (E':BX->BY->Prop),A'.units<=A.units+2->R (decide<|rk x<rk y) t->AH (AD prog w) A' (keyLt' κ x y) R E' t)(h:∀out:Array BX,out.toList.Perm vs->(out.toList.map rk).Pairwise (·<·)->Q (.ref<|s.heap.objs.size+1) {s with heap:=sortedAll s.heap vs out}):AH (AD prog w) A (call (.builtin "sorted") [.ref l]) Q E s:=by
 have hsz:((s.heap.push<|Aj "list" #[] 0).update s.heap.objs.size (Obj.mapSeq (·++vs.toArray))).objs.size=s.heap.objs.size+1:=by rw[oZ,size_push']
 have hoL:(((s.heap.push<|Aj "list" #[] 0).update s.heap.objs.size (Obj.mapSeq (·++vs.toArray))).push<|Aj "list" vs.toArray 0).get? (s.heap.objs.size+1)=some (Aj "list" vs.toArray 0):=by rw[<-hsz];exact aR _ rfl
 have k2:∀b o,s.heap.get? b=some o->(((s.heap.push<|Aj "list" #[] 0).update s.heap.objs.size (Obj.mapSeq (·++vs.toArray))).push<|Aj "list" vs.toArray 0).get? b=some o:=λb o g=>by
  have nb:s.heap.objs.size≠b:=λz=>absurd (aM g) (by rw[<-z];exact dH _)
  refine aD _ ?_;rw[cJ _ _ nb];exact aD _ g
 have k6:∀b o,s.heap.get? b=some o->(jX (((s.heap.push<|Aj "list" #[] 0).update s.heap.objs.size (Obj.mapSeq (·++vs.toArray))).push<|Aj "list" vs.toArray 0) (s.heap.objs.size+1) vs).get? b=some o:=λb o g=>by
  have nb:s.heap.objs.size+1≠b:=λz=>by have:=aM g;rw[<-z] at this;exact absurd this (aCH.mpr<|jK _)
  refine aD _<|aD _ ?_;rw[cJ _ _ nb];exact k2 b o g
 refine Calls.call_function_entry kind_sorted plain_sorted entry_sorted (args_sorted1<|.ref l) ?_;refine AA (AB<|AA (collect_list hl (AA (wpAny_newList ?_<|by rw[Ao];lia))<|by rw[Ao];lia));rw[hsz];refine AA (AV (AQ slot_list_sort ⟨_,hoL,rfl⟩ entry_list_sort (qN hoL nd hn (λh2 R q=>hkind ⟨jX (((s.heap.push<|Aj "list" #[] 0).update s.heap.objs.size (Obj.mapSeq (·++vs.toArray))).push<|Aj "list" vs.toArray 0) (s.heap.objs.size+1) vs,s.gens,s.drawn,s.toks,s.os⟩ k6 h2 _ R _ ?_ q) (λx hx y hy R E' q=>hask ⟨jX (((s.heap.push<|Aj "list" #[] 0).update s.heap.objs.size (Obj.mapSeq (·++vs.toArray))).push<|Aj "list" vs.toArray 0) (s.heap.objs.size+1) vs,s.gens,s.drawn,s.toks,s.os⟩ k6 x hx y hy _ R E' ?_ q) λout p1 p2=>⟨_,rfl,AB ⟨_,rfl,h out p1 p2⟩⟩)<|args_list_sort _))
 all_goals simp only[Around.in1];omega
def aMh{fin b:Bool}{r:List (BX×BX)}(x:aHc A s fin r b):∀ {i:Nat},Q b s->KatLex prog w A false fin Q r i s:=by
 induction x with
 |nil=>intro i q;exact kat_nil q
 |eq he _ ih=>intro i q;exact kat_cons<|SeqAt.EqAt.of_in1 he prog w _ _ (kat_yes<|ih q)
 |@lt x y r b he hl=>intro i q;refine kat_cons (SeqAt.EqAt.of_in1 he prog w _ _<|kat_no ?_);exact kat_one x y (wpAny_of_in1<|hl prog w _ _ q)
theorem wY:∀ {l:List α}{m:List β}{n:Nat}{a:α},Paired G l m->l[n]? =some a->∃b,m[n]? =some b/\G a b
 |_,_,_,_,.nil,h=>by simp at h
 |_,_,0,_,.cons r _,h=>by cases h;exact⟨_,rfl,r⟩
 |_,_,n+1,_,.cons _ t,h=>wY (n:=n) t (by simpa using h)
theorem tX:∀ {l:List α}{m:List β} (n:Nat),Paired G l m->Paired G (l.eraseIdx n) (m.eraseIdx n)
 |_,_,_,.nil=>.nil
 |_,_,0,.cons _ t=>t
 |_,_,n+1,.cons r t=>.cons r<|tX n t
def aSk(X:Cx):V->List V->Hp->VK->Prop:=λx vs H Q=>∃ (F:Hp) (l ad:BZ) (k:List Key) (y:V) (n:Nat) (o:CC) (kvs:List (List Key×V)),x=.ref l/\vs=[.ref ad]/\Same F H/\H l=some (exO l o)/\F ad=some (.tup<|k.map kV)/\X.A.units+1<AR/\
 TDo X.prog X.w F l o kvs/\kvs[n]? =some (k,y)/\(∀o',(∀v,o'.data≠ .cell v)->TDo X.prog X.w F l o' (kvs.eraseIdx n)->Q y (upd H l<|exO l o'))
theorem aOz:MtR X "dict.pop" (aSk X):=by
 intro pins s σ H x vs v us Q I rx rv h;obtain⟨F,l,ad,k,y,n,o,kvs,rfl,rfl,sF,hl,ha,hu,⟨z,hm,ts,kt,es,ep,t1,t2,t3,t4⟩,hn,q1⟩:=h;obtain rfl:v=Value.ref l:=rx;obtain⟨u,rfl,ru⟩:=Vals.one rv;obtain rfl:u=Value.ref ad:=ru;have ho:=(I.hok l _ hl).1;have ktH:=kt.keeps λb ys e=>sF _ _ e
 have dd:s.heap.DictOfH (AT<|dQ X.prog X.w) l ts:=⟨o,es,ep,ho,t1,t2,t3,KT.all I.hok ktH,t4⟩;have hz:ts.length<=AM:=by rw[<-Paired.length kt];exact z
 obtain⟨⟨k',b,w'⟩,hj,e1,_,rw'⟩:=wY kt hn;subst e1;refine BZ aBE dd.typeIs PySem.F.entry_dict_pop (PySem.F.args_dict_pop_2 _ _) (aDe (AT<|dQ X.prog X.w) l ad) ⟨Ay hu,k,ts,n,(b,w'),nA I.hok<|sF _ _ ha,dd,hz,hj,λh' dd' hsm=>?_⟩;obtain⟨q,es',ep',hq,u2,u3,u4,_,u5⟩:=dd';have I4:=oQ (t':=s.toks+(AT<|dQ X.prog X.w).draws k) I (by rw[hl];exact True.intro) hsm ⟨q,hq⟩<|uO hq;exact⟨y,_,I4,rw',q1 q (λv z=>by rw[u3] at z;cases z) ⟨by have:=List.length_eraseIdx_le kvs n;lia,hm,_,tX n kt,es',ep',u2,u3,u4,u5⟩⟩
variable {e:Expr}{l:BZ}{ls:List BZ}{ks:List (List Key)}{dss:List (List D)}
theorem aLQ(i:Nat)(hg:Gl X "len")(hm:X.mg "len"=none)(hs:sd[i]? =some (odG X.prog X.w X.K l ks ls dss))(hx:PE X (.Name x p2) (kU i))(hst:AE [.Name x p2] X.env=(false,eval (.Name x p2) X.env)::AE [] X.env:=by rfl):PEd X sd (.Call (.Name "len" p) [.Name x p2] [] pos) (.val<|.int (ks.length:Nat)):=.mk λσ F H S=>
 (sV aFW hg hm PySem.boot_len (fN hx pa_nil hst) (by decide) (by decide) hst rfl).to (by
  obtain⟨hv,hF,⟨o,g1,nc,hl,z,sm,xs,kt,es,ep,t1,t2,t3,t4⟩,hI,nd⟩:=iN S hs;refine⟨.ref l,hv,l,o,es,ep,rfl,g1,t1,t2,sm,?_,F,S,Same.refl _,?_⟩
  ·have:=BM t3;have e2:=Paired.length kt;lia
  ·have:=BM t3;have e2:=Paired.length kt;have e3:(ks.zip<|ls.map V.ref).length=ks.length:=by rw[kB,aA,hl,kZ]
   simp only[ResOk,Rep]
   rw[this,<-e2,e3])
theorem aEu:∀ {kvs:List (List Key×V)}{xs:List (List Key×BZ×BX)},KT F kvs xs->Vals (xs.map λq=>V.ref q.2.1) (xs.map λq=>Value.ref q.2.1)
 |_,_,.nil=>.nil
 |_,_,.cons _ t=>.cons rfl<|aEu t
theorem aJp:∀ {kvs:List (List Key×V)}{xs:List (List Key×BZ×BX)},KT F kvs xs->RepL K F ((kvs.map (·.1)).map mQ) (xs.map λq=>V.ref q.2.1)
 |_,_,.nil=>.nil
 |_,_, @Paired.cons _ _ _ p q _ _ r t=>by refine .cons ?_ (aJp t);refine⟨q.2.1,p.1.map kV,rfl,r.2.1,?_⟩;exact sR _
theorem aIa(i:Nat)(hg:Gl X "list")(hm:X.mg "list"=none)(hs:sd[i]? =some (odG X.prog X.w X.K l ks ls dss))(hx:PE X (.Name x p2) (kU i))(hc:X.calm=true:=by rfl)(hst:AE [.Name x p2] X.env=(false,eval (.Name x p2) X.env)::AE [] X.env:=by rfl):PEd X sd (.Call (.Name "list" p) [.Name x p2] [] pos) (.own<|ks.map mQ):=.mk λσ F H S pins s I=>by
 obtain⟨hv,hF,⟨o,g1,nc,hl,z,sm,xs,kt,es,ep,t1,t2,t3,t4⟩,hI,nd⟩:=iN S hs;refine Ai<|mM I hg hm PyProof.Rows.boot_list ?_;refine PyProof.Rows.callWith_type1 (thn ((fN hx pa_nil hst) pos pins s σ H (λus H1=>us=[.ref l]/\H1=H) I ⟨.ref l,hv,rfl,rfl⟩) λus s1 hus=>?_) hst rfl;obtain⟨ws,H1,I1,rv,rfl,rfl⟩:=hus;obtain⟨u,rfl,ru⟩:=oX rv;cases(ru);have ez:=BM t3
 have e3:(ks.zip<|ls.map V.ref).map (·.1)=ks:=by rw[List.map_fst_zip];rw[aA];lia
 have ho:=(I1.hok l _ g1).1;refine PySem.W.kdl_call (srcD sm t1 t2) (I1.ok.hd hc) ho (by have:=Paired.length kt;lia) λh' tk acc c' kp gl it=>?_
 have al:acc=(xs.map λq=>Value.ref q.2.1).toArray:=by
  apply jL.mp;apply nY;intro j
  by_cases hj:j<acc.toList.length
  ·have e4:acc.toList[j]? =some acc.toList[j]:=by simp[hj]
   obtain⟨u,q,ev⟩:=it.2 j acc.toList[j] (by rw[<-cU];exact e4);rw[e4,ev];rw[<-cU,t3,aY] at q;obtain⟨y,hy,ey⟩:=eX.mp q;rw[<-ey];simp[hy,entryOfKey]
  ·have a1:acc.toList.length=es.size:=by exact it.1
   rw[cV<|by lia,cV<|by simp;lia]
 subst al;have le2:s1.heap.objs.size<=s1.heap.objs.size:=aK _;have hD:=I1.hok.fresh le2
 have I4:Inv X pins σ (upd H1 s1.heap.objs.size (.lst<|xs.map λq=>V.ref q.2.1)) {s1 with heap:=h',toks:=tk}:=
  I1.laid kp le2 ⟨by rw[aA];have:=Paired.length kt;lia,_,c',aEu kt,gl⟩
 obtain⟨S4,fp,no⟩:=S.layO hD;refine⟨.ref s1.heap.objs.size,_,I4,rfl,F,S4,Same.refl _,_,_,rfl,fp,bX,?_,no⟩;have:=aJp (K:=X.K) kt;rw[e3] at this;exact this
def lW(ds:List D):Nat:=Ah (λi k=>dlt (ds.getD i .non)<|ds.getD k .non)<|ds.length-1
structure aKP(X:Cx)(ds:List D):Prop where
 ne:0<ds.length
 cmp:∀d∈ds,∀d2∈ds,uE d d2=true
 pl:∀d∈ds,pl d=true
 dep:∀d∈ds,X.A.units+1+dep d<AR
theorem aGG(hc:X.calm=true):mG X (.builtin "min") (λvs H Q=>∃ (a:BZ) (xs:List V) (ds:List D),vs=[.ref a]/\SqL X.K H a xs/\RepL X.K H ds xs/\aKP X ds/\∀v,xs[lW ds]? =some v->Q v H):=by
 intro pins s σ H vs us Q I r h;obtain⟨a,xs,ds,rfl,ha,rl,M,q⟩:=h;obtain⟨u,rfl,rx⟩:=oX r;cases(rx);obtain⟨its,rv,p,hz⟩:=I.list ha;have hl:=rv.length;have hd:=rl.len;have isl:=p.isList;have alt:a<s.heap.objs.size:=by obtain⟨o,ho,_⟩:=isl;exact aM ho
 refine aGv<|Au isl ?_;refine⟨s.heap.objs.size,[s.heap.objs.size,a],[s.heap.objs.size],its.toArray.size,_,_,λh=>HOk X.prog X.w H h,λi k=>dlt (ds.getD i .non)<|ds.getD k .non,rfl,Walks.list (A:=X.A.in1) (I.ok.hd hc) _ a (bC alt) its.toArray,⟨⟨_,aR _ rfl,rfl,rfl⟩,isl.push _⟩,λb hb=>?_,by simp;have:=M.ne;lia,?_,?_,?_,λv h' tk pv k=>?_⟩
 ·rw[gQ];simp at hb
  rcases hb with rfl|rfl
  ·exact jQ _
  ·exact oC alt
 ·intro i k x y t Q' E' hJ hx hy q';have hx:=by simpa using hx
  have hy:=by simpa using hy
  have li:i<ds.length:=by have:=(aE.mp hx).1;lia
  have lk:k<ds.length:=by have:=(aE.mp hy).1;lia
  have ei:ds[i]? =some (ds.getD i .non):=by simp[bV,li]
  have ek:ds[k]? =some (ds.getD k .non):=by simp[bV,lk]
  obtain⟨v1,g1,r1⟩:=rl.get ei;obtain⟨v2,g2,r2⟩:=rl.get ek;obtain⟨u1,w1,z1⟩:=rv.get g1;obtain⟨u2,w2,z2⟩:=rv.get g2;rw[hx] at w1;rw[hy] at w2;cases w1;cases w2;have mi:=aQ ei;have mk:=aQ ek;exact aKm hJ (ds.getD i .non) (M.cmp _ mi _ mk) (M.pl _ mi) (M.pl _ mk) r1 r2 z1 z2 (by have:=M.dep _ mi;omega) X.prog X.w _ _ q'
 ·exact aAW (cs:=[]) I.hok (λb u _ g=>aD _ g) λb hb=>by cases hb
 ·intro h1 h2 j1 kp;refine aAW (cs:=[s.heap.objs.size+1,s.heap.objs.size]) j1 (λb u hb g=>kp b u (λz=>hb ?_) g) λb hb=>?_
  ·rw[gQ] at z;exact z
  ·simp at hb
   rcases hb with rfl|rfl
   ·exact I.hok.fresh<|jK _
   ·exact I.hok.fresh<|aK _
 ·have eb:Ah (λi k=>dlt (ds.getD i .non)<|ds.getD k .non) (its.toArray.size-1)=lW ds:=by rw[bB];congr 1;lia
  rw[eb] at pv;have pv:=by simpa using pv
  have lb:lW ds<xs.length:=by have:=(aE.mp pv).1;lia
  have ex:xs[lW ds]? =some xs[lW ds]:=by simp[lb]
  obtain⟨u,hu,ru⟩:=rv.get ex;rw[pv] at hu;cases hu;refine⟨xs[lW ds],H,I.kept λb o g=>k b o (λz=>?_)<|aD _ g,ru,q _ ex⟩;have zb:=by simpa using z
  exact bC (aM g) zb
def aLM{d:D}(hg:Gl X "min")(hm:X.mg "min"=none)(ha:PEd X sd e (.bor ds))(M:aKP X ds)(hd:ds[lW ds]? =some d)(hc:X.calm=true:=by rfl)(hst:AE [e] X.env=(false,eval e X.env)::AE [] X.env:=by rfl):PEd X sd (.Call (.Name "min" p) [e] [] pos) (.val d):=
 lG (he:=hst) (aGG hc) hg hm boot_min (aC ha aN trivial hst) λσ F H vs Q S q k=>by
  cases q with
  |cons q1 q2=>cases q2;obtain⟨p,xs,rfl,hp,rl,_⟩:=q1;refine⟨p,xs,ds,rfl,.of hp,rl.mono S.sub,M,λv hv=>k v F H S (Same.refl _) ?_⟩;obtain⟨v',g,r'⟩:=rl.get hd;rw[hv] at g;cases g;exact r'
theorem aAd{α β:Type}:∀ (a:List α) (b:List β) (n:Nat),a.length=b.length->(a.zip b).eraseIdx n=(a.eraseIdx n).zip (b.eraseIdx n)
 |[],[],_,_=>by simp
 |_::_,[],_,h=>by simp at h
 |[],_::_,_,h=>by simp at h
 |x::a,y::b,0,_=>rfl
 |x::a,y::b,n+1,h=>by show(x,y)::(a.zip b).eraseIdx n=(x,y)::(a.eraseIdx n).zip (b.eraseIdx n);rw[aAd a b n<|by simpa using h]
theorem aAt{α β:Type}(f:α->β):∀ (l:List α) (n:Nat),(l.eraseIdx n).map f=(l.map f).eraseIdx n
 |[],_=>by simp
 |_::_,0=>rfl
 |x::l,n+1=>by show f x::(l.eraseIdx n).map f=f x::(l.map f).eraseIdx n;rw[aAt f l n]
def aGH{j:Nat}{a:BZ}(h:sd[j]? =some z)(ha:a∈lN z):a∈dL sd:=dM.mpr ⟨z,aQ h,ha⟩
variable {H₀ F F' H':Hp}{i:Nat}{P:AF}
def StF.popG(n:Nat)(S:StF K H₀ F H σ sd)(hs:sd[i]? =some (odG P w K l ks ls dss))(nc:∀v,o.data≠ .cell v)(td:TDo P w F l o ((ks.zip<|ls.map V.ref).eraseIdx n)):StF K H₀ F (upd H l<|exO l o) σ (sd.set i (odG P w K l (ks.eraseIdx n) (ls.eraseIdx n)<|dss.eraseIdx n)):=by
 obtain⟨g1,g2,⟨o',g3,nc',hl,_⟩,g4,g5⟩:=iN S hs;obtain⟨n1,n2⟩:=bE.mp g5
 have sb:∀b,b∈l::ls.eraseIdx n->b∈l::ls:=λb hb=>by
  rcases aP.mp hb with h|h
  ·exact h▸aG
  ·exact aF _<|jY h
 refine S.reX hs g1 (λb ob hb q=>?_) (nM S.smp l) (yU (λb hb=>g2 b<|sb b hb) bX nc ?_ ?_ ?_) ?_ λb hb=>.inl<|sb b hb
 ·rw[bH (show b≠l from λz=>hb<|z▸aG)];exact q
 ·rw[lY,lY,hl]
 ·rw[aAt,<-aAd _ _ _ (by rw[aA];exact hl)];exact td
 ·refine InD.erase n<|g4.mono2 (Same.refl _) λb hb ob q=>?_;rw[bH (show b≠l from λz=>n1<|z▸hb)];exact q
 ·exact bE.mpr ⟨λh=>n1<|jY h,n2.sublist<|fT _ _⟩
open PySem.W (kat_lt kat_kind KatTups KatLex)
abbrev Pr2:=List Int×List Int
def p2D(x:Pr2):D:=.tup [bF x.1,bF x.2]
def aQR(x:Pr2):pl (p2D x)=true:=by show(pl (bF x.1)&&(pl (bF x.2)&&true))=true;rw[sD,sD];rfl
theorem tE:∀a b:List Int,sZ (a.map D.int) (b.map D.int)=true
 |[],_=>rfl
 |_::_,[]=>rfl
 |x::a,y::b=>by show(true&&sZ (a.map D.int) (b.map D.int))=true;rw[tE a b];rfl
def aPi(x y:Pr2):sZ [bF x.1,bF x.2] [bF y.1,bF y.2]=true:=by show(sZ (x.1.map D.int) (y.1.map D.int)&&(sZ (x.2.map D.int) (y.2.map D.int)&&true))=true;rw[tE,tE];rfl
def aCE{x:List Int}(h:Rep K F (bF x) v):∃c,v=.ref c/\F c=some (.tup<|x.map V.int):=by obtain⟨c,ys,rfl,e,r⟩:=h;have:=(r).ints;subst this;exact⟨c,rfl,e⟩
theorem aBp:∀ {x y:List Int},x.map V.int=y.map V.int->x=y
 |[],[],_=>rfl
 |[],_::_,h=>by cases h
 |_::_,[],h=>by cases h
 |a::x,b::y,h=>by
  injection h with h1 h2
  injection h1 with h1
  rw[h1,aBp h2]
def aKd{x:Pr2}(h:Rep K F (p2D x) v):∃a c d,v=.ref a/\F a=some (.tup [.ref c,.ref d])/\F c=some (.tup<|x.1.map V.int)/\F d=some (.tup<|x.2.map V.int):=by obtain⟨a,ys,rfl,e,r⟩:=h;obtain⟨v1,ys1,rfl,r1,t1⟩:=r.uncons;obtain⟨v2,ys2,rfl,r2,t2⟩:=t1.uncons;subst t2;obtain⟨c,rfl,f1⟩:=aCE r1;obtain⟨d,rfl,f2⟩:=aCE r2;exact⟨a,c,d,rfl,e,f1,f2⟩
def aDn{x y:Pr2}(h:Rep K F (p2D x) v)(g:Rep K F (p2D y) v):x=y:=by obtain⟨a,c,d,rfl,e,f1,f2⟩:=aKd h;obtain⟨a',c',d',ea,e',f1',f2'⟩:=aKd g;cases ea;rw[e] at e';cases e';rw[f1] at f1';rw[f2] at f2';have h1:=aBp (HO.tup.inj<|bW.inj f1');have h2:=aBp (HO.tup.inj<|bW.inj f2');exact Prod.ext h1 h2
structure SrtP(A:CA)(ps:List Pr2)(rk:Pr2->Nat):Prop where
 len:ps.length<=10000
 lt:∀x∈ps,∀y∈ps,dlt (p2D x) (p2D y)=decide (rk x<rk y)
 nd:(ps.map rk).Nodup
 un:A.units+8<AR
def aOE(x:Pr2):dep (p2D x)=2:=by show max (dep<|bF x.1) (max (dep<|bF x.2) 0)+1=2;rw[yS,yS];rfl
noncomputable def srE{α:Type}(hd:α->List D)(sn:α->D)(x:α):D:=.tup [.tup<|hd x,sn x]
structure aPW{α:Type}(A:CA)(K:aB)(hd:α->List D)(sn:α->D)(ps:List α)(rk:α->Nat):Prop where
 len:ps.length<=10000
 lt:∀x∈ps,∀y∈ps,mK [.tup<|hd x,sn x] [.tup<|hd y,sn y]=decide (rk x<rk y)
 nd:(ps.map rk).Nodup
 un:A.units+8<AR
 pl:∀x∈ps,plL [.tup<|hd x,sn x]=true
 cm:∀x∈ps,∀y∈ps,sZ [.tup<|hd x,sn x] [.tup<|hd y,sn y]=true
 dp:∀x∈ps,jI [.tup<|hd x,sn x]<=4
 inj:∀ (F:Hp) (x y:α) (v:V),Rep K F (srE hd sn x) v->Rep K F (srE hd sn y) v->x=y
def aFm(h:Rep K F (.tup ds) v):∃a,v=.ref a:=by obtain⟨a,_,rfl,_⟩:=h;exact⟨a,rfl⟩
variable {α:Type}{hd:α->List D}{sn:α->D}
theorem yB:mG X (.builtin "sorted") (fun vs H Q=>∃ (a:BZ) (xs:List V) (ps:List α) (rk:α→Nat),vs=[.ref a]∧H a=some (.lst xs)∧RepL X.K H (ps.map (srE hd sn)) xs∧aPW X.A X.K hd sn ps rk∧
  ∀ (D:BZ) (ys:List V) (qs:List α),H D=none->qs.Perm ps->(qs.map rk).Pairwise (·<·)->(∀F,RepL X.K F (ps.map (srE hd sn)) xs->RepL X.K F (qs.map (srE hd sn)) ys)->Q (.ref D) (upd H D (.lst ys))):=by
 intro pins s σ H vs us Q I r h;obtain⟨a,xs,ps,rk,rfl,ha,rl,M,q⟩:=h;obtain⟨u,rfl,rx⟩:=oX r;cases(rx);obtain⟨z,its,n,rv,hl2,eo⟩:=I.lstM ha
 have tb:∀ {ps:List α}{xs:List V}{us:List BX},RepL X.K H (ps.map<|srE hd sn) xs->Vals xs us->∃T:List (α×BZ),us=(T.map λr=>Value.ref r.2)/\xs=(T.map λr=>V.ref r.2)/\ps=(T.map λr=>r.1)/\∀r∈T,Rep X.K H ((srE hd sn) r.1) (.ref r.2):=by
  intro ps
  induction ps with
  |nil=>intro xs us r rv;rw[gH] at r;subst r;cases rv;exact⟨[],rfl,rfl,rfl,λr h=>(iA h).elim⟩
  |cons x ps ih=>
   intro xs us r rv;rw[bG] at r;obtain⟨v,xs,rfl,a,rl⟩:=r.uncons;cases rv with
   |cons ru rv=>
    obtain⟨T,e1,e2,e3,t1⟩:=ih rl rv;obtain⟨b,rfl⟩:=aFm a;cases ru;refine⟨(x,b)::T,by rw[bG,<-e1],by rw[bG,<-e2],by rw[bG,<-e3],λr hr=>?_⟩
    rcases aP.mp hr with rfl|hr
    ·exact a
    ·exact t1 r hr
 obtain⟨T,rfl,rfl,rfl,tr⟩:=tb rl rv
 obtain⟨rkW,hrk⟩:∃rkW:BX->Nat,∀r∈T,rkW (.ref r.2)=rk r.1:=by
  classical
  refine⟨λv=>if h:∃r∈T,v=Value.ref r.2 then rk h.choose.1 else 0,λr hr=>?_⟩;have h:∃r'∈T,Value.ref r.2=Value.ref r'.2:=⟨r,hr,rfl⟩;show(if h:∃r'∈T,Value.ref r.2=Value.ref r'.2 then rk h.choose.1 else 0)=_;rw[dif_pos h]
  have e2:=by have:=h.choose_spec.2;injection this
  have r2:=tr _ h.choose_spec.1;rw[<-e2] at r2;rw[M.inj _ _ _ _ r2<|tr r hr]
 have mT:∀ {r:α×BZ},r∈T->r.1∈T.map λr=>r.1:=λh=>cK h
 have lT:=by simpa using M.len
 have mv:∀x∈(T.map λr=>Value.ref r.2),∃r∈T,x=Value.ref r.2:=λx hx=>by obtain⟨r,hr,e⟩:=aJ.mp hx;exact⟨r,hr,e.symm⟩
 have ew:∀T':List (α×BZ),(∀r∈T',r∈T)->(T'.map λr=>Value.ref r.2).map rkW=(T'.map λr=>r.1).map rk:=λT' h=>by rw[aW,aW];exact bQ λr hr=>hrk r<|h r hr
 have hok':∀t:BY,(∀b o,s.heap.get? b=some o->t.heap.get? b=some o)->HOk X.prog X.w H t.heap:=λt k=>aAW I.hok (λb u _ g=>k b u g) λb hb=>(iA hb).elim
 refine aCS (κ:=tuples' false) ⟨_,eo,rfl,n,rfl⟩ (by rw[ew T λ_ h=>h];exact M.nd) (by rw[aA];exact lT) (λt kp h2 A' R E' _ hR=>?_) (λt kp x hx y hy A' R E' hA hR=>?_) λout p1 p2=>?_
 ·have ok:=hok' t kp
  have kt:∀T':List (α×BZ),(∀r∈T',r∈T)->∃fs:List BX,KatTups t.heap (T'.map λr=>Value.ref r.2) fs/\fs.length=T'.length/\∀v∈fs,∃c o,v=.ref c/\t.heap.get? c=some o/\o.cls=.type "tuple":=λT'=>by
   induction T' with
   |nil=>exact λ_=>⟨[],.nil,rfl,λv hv=>(iA hv).elim⟩
   |cons r T' ih=>
    intro h;obtain⟨fs,k,l,i⟩:=ih λr hr=>h r<|aF _ hr
    have rr:=tr r<|h r aG;obtain⟨b,ys,its,e1,e2,r2,v2,o,g,c,n',hd1⟩:=iK ok rr<|rfl;cases e1;cases e2;have r2:=r2;obtain⟨w1,ys1,rfl,q1,t1⟩:=r2.uncons;obtain⟨w2,ys2,rfl,q2,t2⟩:=t1.uncons;simp only[RepL] at t2;subst t2;obtain⟨c1,rfl⟩:=aFm q1;cases v2 with
    |cons ru1 v2=>
     cases ru1;obtain⟨b1,ys1,its1,e3,e4,_,_,o1,g1,cc1,_⟩:=iK ok q1<|rfl;cases e3;refine⟨.ref c1::fs,KatTups.cons g c hd1 (by simp) k,by rw[bZ,bZ,l],λv hv=>?_⟩
     rcases aP.mp hv with rfl|hv
     ·cases e4;exact⟨_,o1,rfl,g1,cc1⟩
     ·exact i v hv
  obtain⟨fs,k,l,i⟩:=kt T λ_ h=>h
  rw[aA] at h2;refine kat_kind (T:=.type "tuple") k (by lia) (λv hv=>?_) rfl hR;obtain⟨c,o,rfl,g,e⟩:=i v hv;have:PySem.W.Looks (AD X.prog X.w) t.heap (typeOf<|.ref c) o.cls:=(PySem.W.Looks.ld g).andThen .now;rw[e] at this;exact this
 ·have ok:=hok' t kp;obtain⟨rx,hrx,rfl⟩:=mv x hx;obtain⟨ry,hry,rfl⟩:=mv y hy;obtain⟨b,ys,its,e1,e2,r2,v2,o,g,c,n',hd1⟩:=iK ok (tr rx hrx)<|rfl;cases e1;cases e2;obtain⟨b',ys',its',e1,e2,r2',v2',o',g',c',n'',hd'⟩:=iK ok (tr ry hry)<|rfl;cases e1;cases e2;have r2:=r2;have r2':=r2';have l1:its.length=2:=by rw[<-v2.length,r2.len];rfl
  have l2:its'.length=2:=by rw[<-v2'.length,r2'.len];rfl
  refine kat_lt g hd1 g' hd'<|aMh (b:=mK [.tup<|hd rx.1,sn rx.1] [.tup<|hd ry.1,sn ry.1]) ?_ ?_
  ·refine aEo ok [.tup<|hd rx.1,sn rx.1] ?_ ?_ ?_ r2 r2' v2 v2' ?_ (by simp[l1,l2])
   ·exact M.cm _ (mT hrx) _<|mT hry
   ·exact M.pl _<|mT hrx
   ·exact M.pl _<|mT hry
   ·have:=M.un;have:=M.dp _<|mT hrx;lia
  ·have e:mK [.tup<|hd rx.1,sn rx.1] [.tup<|hd ry.1,sn ry.1]=decide (rkW (.ref rx.2)<rkW (.ref ry.2)):=by rw[hrk rx hrx,hrk ry hry];exact M.lt _ (mT hrx) _ (mT hry)
   rw[e];exact hR
 ·obtain⟨T',q1,q2⟩:=oO p1
  have eo2:out=(T'.map λr=>Value.ref r.2).toArray:=by apply jL.mp;rw[q2]
  rw[q2,ew T' λr hr=>q1.mem_iff.mp hr] at p2;subst eo2;obtain⟨kp,n2,g2⟩:=aIC s.heap (T.map λr=>Value.ref r.2) (T'.map λr=>Value.ref r.2).toArray;have hD:=I.hok.fresh<|jK _;have lT':=q1.length_eq
  have vv:Vals (T'.map λr=>V.ref r.2) (T'.map λr=>Value.ref r.2):=by
   generalize T'=U
   induction U with
   |nil=>exact .nil
   |cons r U ih=>exact .cons rfl ih
  have I3:Inv X pins σ (upd H (s.heap.objs.size+1) (.lst<|T'.map λr=>V.ref r.2)) {s with heap:=sortedAll s.heap (T.map λr=>Value.ref r.2) (T'.map λr=>Value.ref r.2).toArray}:=
   I.laid kp (jK _) ⟨by rw[Ao,aA];lia,_,n2,vv,by simpa[Aj] using g2⟩
  refine⟨.ref<|s.heap.objs.size+1,_,I3,rfl,q _ (T'.map λr=>V.ref r.2) (T'.map λr=>r.1) hD (q1.map _) p2 λF rF=>?_⟩
  have all:∀ {U:List (α×BZ)},RepL X.K F ((U.map λr=>r.1).map<|srE hd sn) (U.map λr=>V.ref r.2)->∀r∈U,Rep X.K F ((srE hd sn) r.1) (.ref r.2):=λ{U}=>by
   induction U with
   |nil=>exact λ_ r hr=>(iA hr).elim
   |cons y U ih=>
    intro h r hr;rw[bG,bG,bG] at h;obtain⟨v,vs,e,a1,a2⟩:=h.uncons;cases e
    rcases aP.mp hr with rfl|hr
    ·exact a1
    ·exact ih a2 r hr
  have aT:=all rF;have rT:=λr hr=>aT r<|q1.mem_iff.mp hr
  clear vv I3 g2 p2 q1 q2 p1 lT' kp
  induction T' with
  |nil=>exact .nil
  |cons r U ih=>exact .cons (rT r aG) (ih λq hq=>rT q<|aF _ hq)
theorem SrtP.gen(M:SrtP A ps rk):aPW A K (fun x:Pr2=>x.1.map D.int) (fun x=>bF x.2) ps rk:=⟨M.len,M.lt,M.nd,M.un,fun x _=>aQR x,fun x _ y _=>aPi x y,fun x _=>by
 have:=aOE x;have:jI [bF x.1,bF x.2]+1=2:=this;show jI [bF x.1,bF x.2]<=4
 lia,λF x y v h1 h2=>aDn h1 h2⟩
def aCY:mG X (.builtin "sorted") (fun vs H Q=>∃ (a:BZ) (xs:List V) (ps:List Pr2) (rk:Pr2→Nat),vs=[.ref a]∧H a=some (.lst xs)∧RepL X.K H (ps.map p2D) xs∧SrtP X.A ps rk∧
  ∀ (D:BZ) (ys:List V) (qs:List Pr2),H D=none->qs.Perm ps->(qs.map rk).Pairwise (·<·)->(∀F,RepL X.K F (ps.map p2D) xs->RepL X.K F (qs.map p2D) ys)->Q (.ref D) (upd H D (.lst ys))):=by
 intro pins s σ H vs us Q I r h;obtain⟨a,xs,ps,rk,h1,h2,h3,M,q⟩:=h;exact yB pins s σ H vs us Q I r ⟨a,xs,ps,rk,h1,h2,h3,M.gen,q⟩
variable {k:List Key}{E:jJ}{ps:List Pr2}{rk:Pr2->Nat}
theorem aIl(i j n:Nat){px py ap:Pos}(hu:X.A.units+1<AR)(hg:Gl X "sorted")(hm:X.mg "sorted"=none)(hs:sd[i]? =some (odG X.prog X.w X.K l ks ls dss))(hx:PE X (.Name x px) (kU i))(hb:PEd X sd b (.val (.tup<|k.map kD)))(hk:ks[n]? =some k)(hd:dss[n]? =some (ps.map p2D))(M:SrtP X.A ps rk)(hN:X.N.Nodup) (hj:X.N[j]? =some y) (hy:Loc X.env.scope y)(hE:∀ (l':BZ) (qs:List Pr2),qs.Perm ps->(qs.map rk).Pairwise (·<·)->E.nx ((sd.set i (odG X.prog X.w X.K l (ks.eraseIdx n) (ls.eraseIdx n)<|dss.eraseIdx n)).set j (.own l'<|qs.map p2D)))(hpop:PE X (.Call (.Attribute (.Name x px) "pop" ap) [b] [] cp) (λσ H Q=>kU i σ H λv H1=>(∃l ob,v=.ref l/\H1 l=some (exO l ob)/\ob.ExactDict)/\(lV (wE X b) vM) σ H1 λxs H2=>aSk X v xs H2 Q):=by exact aOe hV aBE PySem.F.type_dict_pop aOz (pv _) (fN fH pa_nil))(hst:AE [.Call (.Attribute (.Name x px) "pop" ap) [b] [] cp] X.env=(false,eval (.Call (.Attribute (.Name x px) "pop" ap) [b] [] cp) X.env)::AE [] X.env:=by rfl)(hsw:Af (.Call (.Name "sorted" p) [.Call (.Attribute (.Name x px) "pop" ap) [b] [] cp] [] p2) (some<|.Name y py) pos.line X.env=pure false:=by rfl)(hf:X.fn y=true\/X.env.scope.names.lookup y=some .local:=by first|exact .inl rfl|exact .inr rfl|assumption):PSd1 X sd (.Assign [.Name y py] (.Call (.Name "sorted" p) [.Call (.Attribute (.Name x px) "pop" ap) [b] [] cp] [] p2) pos) E:=.mk λσ F H S=>
 (qZ hN hj hy (sV aCY hg hm boot_sorted (fN hpop pa_nil hst) (by decide) (by decide) hst rfl) hsw hf).to (by
  obtain⟨h1,h2,⟨o,h3,nc,hk2,td⟩,h4,h5⟩:=iN S hs;refine⟨.ref l,h1,⟨l,o,rfl,h3,td.2.2.choose_spec.2.choose_spec.choose_spec.1⟩,(hb σ F H S).imp λv1 H1 ⟨F1,S1,s1,q1⟩=>?_⟩;obtain⟨g1,g2,⟨o2,g3,nc2,hk3,td2⟩,g4,g5⟩:=iN S1 hs;obtain⟨n1,n2⟩:=bE.mp g5;obtain⟨ad,ys,rfl,ha,rl⟩:=q1;rw[nI rl] at ha;have nl:n<ls.length:=by have:=(aE.mp hk).1;lia
  have e3:ls[n]? =some ls[n]:=by simp[nl]
  generalize ls[n]=an at e3;obtain⟨ds,xs,d1,d2,d3⟩:=g4.get e3;rw[hd] at d1;cases d1;have anl:an≠l:=λz=>n1<|z▸aQ e3
  have zg:(ks.zip<|ls.map V.ref)[n]? =some (k,V.ref an):=by rw[jO];exact⟨hk,by rw[aY,e3];rfl⟩
  refine⟨F1,l,ad,k,.ref an,n,o2,ks.zip<|ls.map V.ref,rfl,rfl,S1.sub,g3,ha,hu,td2,zg,λo' nc' td'=>?_⟩;have S2:=S1.popG n hs nc' td';refine⟨an,xs,ps,rk,rfl,by rw[bH anl];exact d2,d3.mono S2.sub,M,λD ys qs hD pm pw hr=>?_⟩;obtain⟨S3,fp,no⟩:=S2.layO hD
  exact⟨_,F1,S3.setO j fp bX (hr F1 d3) no,s1,hE D qs pm pw⟩)
def InD.snocL{a:BZ}{xs:List V}:∀ {as:List BZ}{dss:List (List D)},InD K F H as dss->H a=some (.lst xs)->RepL K F ds xs->InD K F H (as++[a]) (dss++[ds])
 |[],[],_,e,r=>⟨⟨xs,e,r⟩,trivial⟩
 |[],_::_,h,_,_=>h.elim
 |_::_,[],h,_,_=>h.elim
 |_::_,_::_,h,e,r=>⟨h.1,InD.snocL h.2 e r⟩
def StF.newW{a:BZ}{xs:List V}(S:StF K H₀ F H σ sd)(hs:sd[i]? =some (odG P w K l ks ls dss))(fa:F a=none)(ha:H a=some (.lst xs))(rl:RepL K F ds xs)(na:a∉dL sd)(nc:∀v,o.data≠ .cell v)(td:TDo P w F l o (ks.zip (ls.map V.ref)++[(k,.ref a)])):StF K H₀ F (upd H l<|exO l o) σ (sd.set i (odG P w K l (ks++[k]) (ls++[a])<|dss++[ds])):=by
 obtain⟨g1,g2,⟨o',g3,nc',hl,_⟩,g4,g5⟩:=iN S hs;obtain⟨n1,n2⟩:=bE.mp g5;have ml:∀b∈l::ls,b∈dL sd:=λb hb=>aGH hs hb
 have al:a≠l:=λz=>na<|z▸ml l aG
 have als:=λz=>na (ml a<|aF _ z)
 have sp:∀b,b∈l::(ls++[a])->b∈l::ls\/b=a:=λb hb=>by
  rcases aP.mp hb with h|h
  ·exact .inl<|h▸aG
  ·rcases aS.mp h with h|h
   ·exact .inl<|aF _ h
   ·exact .inr<|aH.mp h
 refine S.reX hs g1 (λb ob hb q=>?_) (nM S.smp l) (yU (λb hb=>?_) bX nc (by rw[aV,aV,hl];rfl) ?_ ?_) ?_ λb hb=>?_
 ·rw[bH (show b≠l from λz=>hb<|z▸aG)];exact q
 ·rcases sp b hb with h|rfl
  ·exact g2 b h
  ·exact fa
 ·rw[aO,bG,gH,uA<|by rw[aA];exact hl];exact td
 ·refine InD.snocL (g4.mono2 (Same.refl _) λb hb ob q=>?_) ?_ rl
  ·rw[bH (show b≠l from λz=>n1<|z▸hb)];exact q
  ·rw[bH al];exact ha
 ·refine bE.mpr ⟨λh=>?_,bD.mpr ⟨n2,by simp,λb hb c hc e=>als<|aH.mp hc▸e▸hb⟩⟩
  rcases aS.mp h with h|h
  ·exact n1 h
  ·exact al (aH.mp h).symm
 ·rcases sp b hb with h|rfl
  ·exact .inl h
  ·exact .inr na
theorem aIN(i:Nat){c c':Int}(hu:X.A.units+1<AR)(hs:sd[i]? =some (odG X.prog X.w X.K l ks ls dss))(hx:PE X (.Name x p) (kU i))(h:PEd X sd e (.own ds))(hk:([Sum.inl c,Sum.inl c']:List Key)∉ks)(hl:dss.length<=1000)(hE:∀a,E.nx<|sd.set i (odG X.prog X.w X.K l (ks++[[Sum.inl c,Sum.inl c']]) (ls++[a])<|dss++[ds]))(hb:PE X (.Tuple [.Constant (.int c) j1 q1, .Constant (.int c') j2 q2] x1 tp) (aSo (lV (tC<|.int c)<|lV (tC<|.int c') vM)):=by exact aJP (fN pe_int<|fN pe_int pa_nil))(hsw:Af e (some<|.Subscript (.Name x p) (.Tuple [.Constant (.int c) j1 q1, .Constant (.int c') j2 q2] x1 tp) p2) pos.line X.env=pure false:=by rfl):PSd1 X sd (.Assign [.Subscript (.Name x p) (.Tuple [.Constant (.int c) j1 q1, .Constant (.int c') j2 q2] x1 tp) p2] e pos) E:=.mk λσ F H S pins s I=>by
 refine wpAny_Assign_Subscript (thn (h σ F H S pins s I) λr s1 ⟨v,H1,I1,rv,F1,S1,sF1,q1⟩=>?_) hsw;obtain⟨a,xs,rfl,fa,ha,rl,na⟩:=q1;obtain rfl:r=Value.ref a:=rv;obtain⟨h1,_⟩:=iN S1 hs;refine thn (hx pins s1 σ H1 (λv H2=>v=.ref l/\H2=H1) I1 ⟨.ref l,h1,rfl,rfl⟩) λu s2 ⟨y,H2,I2,ry,e1,e2⟩=>?_
 subst e1 e2;obtain rfl:u=Value.ref l:=ry;refine thn (hb pins s2 σ H2 (λv H3=>∃ad,v=.ref ad/\H2 ad=none/\H3=upd H2 ad (.tup [.int c,.int c'])) I2 ⟨by show 2<=AM;decide,λad had=>⟨ad,rfl,had,rfl⟩⟩) λiv s3 ⟨y,H3,I3,ry,ad,e1,fad,e3⟩=>?_
 subst e1 e3;obtain rfl:iv=Value.ref ad:=ry;obtain⟨S3,sF3⟩:=S1.lay (o:=.tup [.int c,.int c']) fad trivial;have ada:a≠ad:=λz=>by rw[z,fad] at ha;cases ha
 have fa3:upd F1 ad (.tup [.int c,.int c']) a=none:=by rw[bH ada];exact fa
 have ha3:upd H2 ad (.tup [.int c,.int c']) a=some (.lst xs):=by rw[bH ada];exact ha
 obtain⟨g1,g2,⟨o,g3,nc,hkl,z,hm,ts,kt,es,ep,t1,t2,t3,t4⟩,g4,g5⟩:=iN S3 hs;have had:upd F1 ad (.tup [.int c,.int c']) ad=some (.tup<|([Sum.inl c,Sum.inl c']).map kV):=bX;have ho:=(I3.hok l _ g3).1;have ktH:=kt.keeps λb ys e=>S3.sub _ _ e
 have dd:s3.heap.DictOfH (AT<|dQ X.prog X.w) l ts:=⟨o,es,ep,ho,t1,t2,t3,KT.all I3.hok ktH,t4⟩;have hz:ts.length<=AM:=by rw[<-Paired.length kt];exact z
 have zl:(ks.zip<|ls.map V.ref).length=dss.length:=by rw[kB,aA,<-hkl,kZ,hkl,g4.len]
 have vn:fY (ks.zip<|ls.map V.ref) [Sum.inl c,Sum.inl c']=none:=aAB hk λ_ z=>z
 have hl2:(sN (ks.zip<|ls.map V.ref) [Sum.inl c,Sum.inl c']<|.ref a).length<=AM:=by rw[pK _ vn,aV,zl];have:=gG hl;show dss.length+1<=AM;omega
 refine wpAny_setItem_heap (hsz:=hz) (Ay hu) (nA I3.hok<|S3.sub _ _ had) dd λh' dd' hsm=>?_
 obtain⟨q,es',ep',hq,u2,u3,u4,_,u5⟩:=dd';have I4:=oQ (t':=s3.toks+(AT<|dQ X.prog X.w).draws [Sum.inl c,Sum.inl c']) I3 (by rw[g3];exact True.intro) hsm ⟨q,hq⟩<|uO hq;have kt':=kt.put [Sum.inl c,Sum.inl c'] had (show RelV (.ref a) (.ref a) from rfl);rw[pK _ vn] at kt' hl2;exact⟨σ,_,I4,_,_,S3.newW hs fa3 ha3 (rl.mono sF3) na (λv z=>by rw[u3] at z;cases z) ⟨hl2,hm,_,kt',es',ep',u2,u3,u4,u5⟩,sF1.trans sF3,hE a⟩
noncomputable def rkK(r:Int×Int):List Key:=[Sum.inl r.1,Sum.inl r.2]
def aMx{a b:Int×Int}(h:rkK a=rkK b):a=b:=by
 injection h with h1 h2
 injection h2 with h2 _
 injection h1 with h1
 injection h2 with h2
 exact Prod.ext h1 h2
abbrev WtT:=List<|(Int×Int)×List Pr2
structure Wt where
 l:BZ
 ls:List BZ
 T:WtT
def wtK(T:WtT):List (List Key):=T.map λt=>rkK t.1
def wtD(T:WtT):List (List D):=T.map λt=>t.2.map p2D
def wtS(P:AF)(w:AL)(K:aB)(a:Wt):Slot:=odG P w K a.l (wtK a.T) a.ls<|wtD a.T
def wtL(P:AF)(w:AL)(K:aB):Lent K:=⟨Wt,Wt.l,λa=>a.l::a.ls,λa=>Gg P w K a.l (wtK a.T) a.ls<|wtD a.T,λh=>h.1⟩
def aHZ(P:AF)(w:AL)(K:aB)(a:Wt)(v:V)(F H:Hp)(b:BZ)(o:HO)(h:(wtL P w K).G a v F H)(hb:b∈(wtL P w K).own a)(e:H b=some o):¬ aHa o:=by
 obtain⟨_,⟨ob,g,_⟩,hI⟩:=h
 rcases aP.mp (hb) with rfl|hb
 ·rw[g] at e;cases e;exact λz=>z
 ·obtain⟨xs,g2⟩:=InD.of hI b hb;rw[g2] at e;cases e;exact λz=>z
noncomputable def kX:WtT->Int×Int->Pr2->WtT
 |[],r,x=>[(r,[x])]
 |t::T,r,x=>if t.1=r then(t.1,t.2++[x])::T else t::kX T r x
theorem zH{r:Int×Int}(x:Pr2):∀ {T:WtT},rkK r∉wtK T->kX T r x=T++[(r,[x])]
 |[],_=>rfl
 |t::T,h=>by
  have h1:t.1≠r:=λe=>h (by unfold wtK;rw[bG,e];exact aG)
  show(if t.1=r then _ else t::kX T r x)=_;rw[if_neg h1,zH x λz=>h<|aF _ z];rfl
theorem xM{r:Int×Int}(x:Pr2):∀ {T:WtT}{n:Nat}{ds:List D},(wtK T).Nodup->(wtK T)[n]? =some (rkK r)->(wtD T)[n]? =some ds->wtK (kX T r x)=wtK T/\wtD (kX T r x)=(wtD T).set n (ds++[p2D x])
 |[],n,ds,_,h,_=>by simp[wtK] at h
 |t::T,0,ds,nd,h,hd=>by
  have e:=aMx (by simpa[wtK] using h);have e2:=by simpa[wtD] using hd
  have ea:kX (t::T) r x=(t.1,t.2++[x])::T:=if_pos e;rw[ea];refine⟨rfl,?_⟩;show((t.2++[x]).map p2D)::wtD T=((t.2.map p2D)::wtD T).set 0 _;rw[aO,e2];rfl
 |t::T,n+1,ds,nd,h,hd=>by
  have nd':=bE.mp (show(rkK t.1::wtK T).Nodup from nd);have h':(wtK T)[n]? =some (rkK r):=by simpa[wtK] using h
  have hd':(wtD T)[n]? =some ds:=by simpa[wtD] using hd
  have ne:t.1≠r:=λe=>nd'.1<|e▸aQ h'
  have ea:kX (t::T) r x=t::kX T r x:=if_neg ne;obtain⟨k1,k2⟩:=xM x nd'.2 h' hd';rw[ea];refine⟨by show rkK t.1::wtK (kX T r x)=rkK t.1::wtK T;rw[k1],?_⟩;show t.2.map p2D::wtD (kX T r x)=(t.2.map p2D::wtD T).set (n+1) _;rw[k2];rfl
def aLd{r:Int×Int}(x:Pr2){T:WtT}(nd:(wtK T).Nodup):(wtK<|kX T r x).Nodup:=by
 by_cases h:rkK r∈wtK T
 ·obtain⟨n,hn⟩:=cY h
  have ln:=by have:=(aE.mp hn).1;simpa[wtK] using this
  obtain⟨ds,hd⟩:∃ds,(wtD T)[n]? =some ds:=⟨_,by unfold wtD;rw[aY,dN ln];rfl⟩;rw[(xM x nd hn hd).1];exact nd
 ·rw[zH x h];unfold wtK;rw[aO];refine bD.mpr ⟨nd,by simp,λa ha b hb e=>h ?_⟩;have q:=by simpa using hb
  rw[<-q,<-e];exact ha
noncomputable def tot(T:WtT):Nat:=(T.map λt=>t.2.length+1).sum
theorem aFa(r:Int×Int)(x:Pr2):∀T:WtT,tot (kX T r x)<=tot T+2
 |[]=>by simp[tot,kX]
 |t::T=>by
  have ih:=aFa r x T;show tot (if t.1=r then(t.1,t.2++[x])::T else t::kX T r x)<=_
  split
  ·simp[tot];lia
  ·simp[tot] at ih ⊢;lia
theorem aLq(T:WtT):T.length<=tot T:=by
 induction T with
 |nil=>exact aK _
 |cons t T ih=>simp[tot] at ih ⊢;lia
theorem aMb{T:WtT}:∀ds∈wtD T,ds.length<=tot T:=by
 induction T with
 |nil=>exact λds h=>(iA h).elim
 |cons t T ih=>
  intro ds h
  rcases aP.mp (h) with rfl|h
  ·simp[tot];lia
  ·have:=ih ds h;simp[tot] at this ⊢;lia
noncomputable def nP(x:List Nat×List Nat):Pr2:=(x.1.map λ(i:Nat)=>(i:Int),x.2.map λ(i:Nat)=>(i:Int))
def aQK(x:List Nat×List Nat):p2D (nP x)=.tup [.tup<|cS x.1,.tup<|cS x.2]:=by unfold p2D nP bF cS;rw[aW,aW];rfl
def lgQ(p:Int×Int)(L:List SK)(b:Int)(r:Int×Int)(row nb:List Nat):Nat->WtT->WtT
 |0,T=>T
 |t+1,T=>if r.1+(L.getD t AN).2<=b then kX (lgQ p L b r row nb t T) (r.1+(L.getD t AN).2,r.2+1) (nP (row++[t],hX (jA p (L.getD t AN).1) nb)) else lgQ p L b r row nb t T
theorem aHr{p:Int×Int}{b:Int}{r:Int×Int}{row nb:List Nat}{T:WtT}(nd:(wtK T).Nodup):∀t,(wtK<|lgQ p L b r row nb t T).Nodup
 |0=>nd
 |t+1=>by
  unfold lgQ
  split
  ·exact aLd _<|aHr nd t
  ·exact aHr nd t
theorem aJU{p:Int×Int}{L:List SK}{b:Int}{r:Int×Int}{row nb:List Nat}{T:WtT}:∀t,tot (lgQ p L b r row nb t T)<=tot T+2*t
 |0=>aK _
 |t+1=>by
  have ih:=aJU (p:=p) (L:=L) (b:=b) (r:=r) (row:=row) (nb:=nb) (T:=T) t;unfold lgQ
  split
  ·have:=aFa (r.1+(L.getD t AN).2,r.2+1) (nP (row++[t],hX (jA p (L.getD t AN).1) nb))<|lgQ p L b r row nb t T;lia
  ·lia
def aSt(a:Wt)(ds:List D)(post:Wt->Prop):Prop:=∃p L b r row nb,p∈bS/\L.length<=100/\NOk p nb/\row.length<=400/\(wtK a.T).Nodup/\tot a.T+2*L.length<=900/\ds=[.lst (L.map<|mvD p),.int b,.tup [.int r.1,.int r.2],.tup<|cS row,.tup<|cS nb]/\post=λa'=>a'.l=a.l/\a'.T=lgQ p L b r row nb L.length a.T
noncomputable def unP(y:Pr2):List Nat×List Nat:=(y.1.map rQ,y.2.map rQ)
def aEb(x:List Nat×List Nat):unP (nP x)=x:=by
 have g:∀l:List Nat,(l.map λ(i:Nat)=>(i:Int)).map rQ=l:=λl=>by rw[aW];exact(bQ λi _=>eM i).trans<|kH l
 exact Prod.ext (g x.1)<|g x.2
structure FdS where
 T:WtT
 kn:List (List Nat)
 fd:List (Int×List Nat×List Nat)
def fdI(p:Int×Int)(L:List SK)(b:Int)(r:Int×Int)(S:FdS)(x:List Nat×List Nat):FdS:=if x.2∈S.kn then S else⟨lgQ p L b r x.1 x.2 L.length S.T,S.kn++[x.2],S.fd++[(r.1,x.1,x.2)]⟩
def fdP(p:Int×Int)(L:List SK)(b:Int)(r:Int×Int)(S:FdS)(xs:List Pr2):FdS:=xs.foldl (λS y=>fdI p L b r S<|unP y) S
def xY(p:Int×Int)(L:List SK)(b:Int)(r:Int×Int)(S:FdS)(xs:List Pr2)(y:Pr2):fdP p L b r S (xs++[y])=fdI p L b r (fdP p L b r S xs) (unP y):=by unfold fdP;rw[iW];rfl
structure aQB(S:FdS):Prop where
 nk:(wtK S.T).Nodup
 kn:S.kn=S.fd.map λe=>e.2.2
 nd:S.kn.Nodup
def aPb{p:Int×Int}{b:Int}{r:Int×Int}(h:aQB S)(x:List Nat×List Nat):aQB (fdI p L b r S x):=by
 unfold fdI
 split
 ·exact h
 ·rename_i q;refine⟨aHr h.nk _,?_,bD.mpr ⟨h.nd,by simp,λa ha c hc e=>q ?_⟩⟩
  ·rw[aO,<-h.kn];rfl
  ·have hc:=by simpa using hc
   rw[<-hc,<-e];exact ha
def rlt(r s:Int×Int):Prop:=r.1<s.1\/(r.1=s.1/\r.2<s.2)
instance (r s:Int×Int):Decidable (rlt r s):=inferInstanceAs (Decidable<|_\/_)
noncomputable def rkD(r:Int×Int):D:=.tup [.int r.1,.int r.2]
def aJQ(r s:Int×Int):dlt (rkD r) (rkD s)=decide (rlt r s):=by
 have e:dlt (rkD r) (rkD s)=(if deq (.int r.1) (.int s.1)=true then(if deq (.int r.2) (.int s.2)=true then false else decide (r.2<s.2)) else decide (r.1<s.1)):=rfl;have d:∀a b,deq (.int a) (.int b)=decide (a=b):=λa b=>rfl
 rw[e,d,d];unfold rlt
 by_cases h1:r.1=s.1
 ·by_cases h2:r.2=s.2
  ·simp[h1,h2]
  ·simp[h1,h2]
 ·simp[h1]
theorem vW(bt:Nat->Nat->Bool):∀k,Ah bt k<=k
 |0=>aK _
 |k+1=>by
  show(if bt (k+1) (Ah bt k)=true then k+1 else Ah bt k)<=k+1
  split
  ·exact aK _
  ·exact Nat.le_succ_of_le<|vW bt k
theorem yE(rs:List (Int×Int)):∀k,k<rs.length->∀j,j<=k->¬ rlt (rs.getD j (0,0)) (rs.getD (Ah (λi k=>decide (rlt (rs.getD i (0,0))<|rs.getD k (0,0))) k) (0,0))
 |0,_,j,hj=>by
  have:j=0:=by lia
  subst this;show ¬ rlt _ (rs.getD 0 (0,0));unfold rlt;lia
 |k+1,hk,j,hj=>by
  have ih:=yE rs k (by lia);generalize hb:Ah (λi k=>decide (rlt (rs.getD i (0,0))<|rs.getD k (0,0))) k=bk at ih
  have e:Ah (λi k=>decide (rlt (rs.getD i (0,0))<|rs.getD k (0,0))) (k+1)=if decide (rlt (rs.getD (k+1) (0,0))<|rs.getD bk (0,0))=true then k+1 else bk:=by rw[<-hb];rfl
  rw[e]
  by_cases q:rlt (rs.getD (k+1) (0,0)) (rs.getD bk (0,0))
  ·rw[if_pos<|decide_eq_true q]
   by_cases hjk:j=k+1
   ·subst hjk;unfold rlt;lia
   ·have:=ih j (by lia);unfold rlt at *;lia
  ·rw[if_neg<|by rw[decide_eq_false q];decide]
   by_cases hjk:j=k+1
   ·subst hjk;exact q
   ·exact ih j<|by lia
theorem qW:∀k,(∀i j,i<=k->j<=k->bt i j=bt' i j)->Ah bt k=Ah bt' k
 |0,_=>rfl
 |k+1,h=>by
  have ih:=qW k λi j hi hj=>h i j (by lia)<|by lia
  show(if bt (k+1) (Ah bt k)=true then k+1 else Ah bt k)=(if bt' (k+1) (Ah bt' k)=true then k+1 else Ah bt' k);have:=vW bt' k;rw[ih,h (k+1) (Ah bt' k) (aK _)<|by lia]
theorem aOS(hu:X.A.units+4<AR){T:WtT}(hne:T≠[]):aKP X ((wtK T).map mQ)/\∃t:(Int×Int)×List Pr2,T[lW<|(wtK T).map mQ]? =some t/\((wtK T).map mQ)[lW<|(wtK T).map mQ]? =some (rkD t.1)/\(wtK T)[lW<|(wtK T).map mQ]? =some (rkK t.1)/\(wtD T)[lW<|(wtK T).map mQ]? =some (t.2.map p2D)/\∀s∈T,¬ rlt s.1 t.1:=by
 have l0:=fC.mpr hne
 have em:(wtK T).map mQ=T.map λt=>rkD t.1:=by unfold wtK;rw[aW];rfl
 have ln:((wtK T).map mQ).length=T.length:=by rw[em,aA]
 have mem:∀d∈(wtK T).map mQ,∃r,d=rkD r:=λd hd=>by rw[em] at hd;obtain⟨t,_,rfl⟩:=aJ.mp hd;exact⟨t.1,rfl⟩
 have gd:∀i,i<T.length->((wtK T).map mQ).getD i .non=rkD ((T.map (·.1)).getD i (0,0)):=λi hi=>by rw[em];simp[bV,hi]
 have eb:lW ((wtK T).map mQ)=Ah (λi k=>decide (rlt ((T.map (·.1)).getD i (0,0)) ((T.map (·.1)).getD k (0,0)))) (T.length-1):=by unfold lW;rw[ln];exact qW _ λi j hi hj=>by rw[gd i<|by lia,gd j<|by lia,aJQ]
 have bl:=vW (λi k=>decide (rlt ((T.map (·.1)).getD i (0,0)) ((T.map (·.1)).getD k (0,0))))<|T.length-1;have bm:=yE (T.map (·.1)) (T.length-1) (by rw[aA];lia);rw[<-eb] at bl bm;generalize lW ((wtK T).map mQ)=n at bl bm;have hn:n<T.length:=by lia
 have hT:=dN hn;refine⟨⟨by rw[ln];exact l0,λd hd d2 hd2=>?_,λd hd=>?_,λd hd=>?_⟩,T[n],hT,?_,?_,?_,λs hs=>?_⟩
 ·obtain⟨r,rfl⟩:=mem d hd;obtain⟨r2,rfl⟩:=mem d2 hd2;rfl
 ·obtain⟨r,rfl⟩:=mem d hd;rfl
 ·obtain⟨r,rfl⟩:=mem d hd;show X.A.units+1+1<AR;lia
 ·rw[em,aY,hT];rfl
 ·unfold wtK;rw[aY,hT];rfl
 ·unfold wtD;rw[aY,hT];rfl
 ·obtain⟨j,hj⟩:=cY hs;have lj:=(aE.mp hj).1;have:=bm j (by lia);have e1:(T.map (·.1)).getD j (0,0)=s.1:=by simp[bV,hj]
  have e2:(T.map (·.1)).getD n (0,0)=T[n].1:=by simp[bV,hn]
  rw[e1,e2] at this;exact this
noncomputable def llt:List Int->List Int->Bool
 |[],[]=>false
 |[],_::_=>true
 |_::_,[]=>false
 |x::a,y::b=>if x=y then llt a b else decide (x<y)
theorem aHn:∀a b:List Int,mK (a.map D.int) (b.map D.int)=llt a b
 |[],[]=>rfl
 |[],_::_=>rfl
 |_::_,[]=>rfl
 |x::a,y::b=>by
  have e:mK ((x::a).map D.int) ((y::b).map D.int)=if decide (x=y)=true then mK (a.map D.int) (b.map D.int) else decide (x<y):=rfl
  rw[e,aHn a b];show _=if x=y then llt a b else decide (x<y)
  by_cases h:x=y
  ·rw[if_pos<|decide_eq_true h,if_pos h]
  ·rw[if_neg (by rw[decide_eq_false h];decide),if_neg h]
theorem oM:∀a:List Int,llt a a=false
 |[]=>rfl
 |x::a=>by show(if x=x then llt a a else decide (x<x))=false;rw[if_pos rfl];exact oM a
theorem wF:∀a b:List Int,a≠b->llt a b=true\/llt b a=true
 |[],[],h=>absurd rfl h
 |[],_::_,_=>.inl rfl
 |_::_,[],_=>.inr rfl
 |x::a,y::b,h=>by
  show(if x=y then llt a b else decide (x<y))=true\/(if y=x then llt b a else decide (y<x))=true
  by_cases e:x=y
  ·subst e;rw[if_pos rfl,if_pos rfl];exact wF a b λz=>h (by rw[z])
  ·rw[if_neg e,if_neg λz=>e z.symm,decide_eq_true_iff,decide_eq_true_iff];lia
theorem uF:∀a b c:List Int,llt a b=true->llt b c=true->llt a c=true
 |[],[],_,h,_=>by cases h
 |[],_::_,[],_,h=>by cases h
 |[],_::_,_::_,_,_=>rfl
 |_::_,[],_,h,_=>by cases h
 |_::_,_::_,[],_,h=>by cases h
 |x::a,y::b,z::c,h1,h2=>by
  have h1:(if x=y then llt a b else decide (x<y))=true:=h1;have h2:(if y=z then llt b c else decide (y<z))=true:=h2;show(if x=z then llt a c else decide (x<z))=true
  by_cases e1:x=y
  ·subst e1;rw[if_pos rfl] at h1
   by_cases e2:x=z
   ·subst e2;rw[if_pos rfl] at h2 ⊢;exact uF a b c h1 h2
   ·rw[if_neg e2] at h2 ⊢;exact h2
  ·rw[if_neg e1] at h1;have h1:=of_decide_eq_true h1
   by_cases e2:y=z
   ·subst e2;rw[if_neg e1];exact decide_eq_true h1
   ·rw[if_neg e2] at h2;have h2:=of_decide_eq_true h2;rw[if_neg<|by lia];exact decide_eq_true<|by lia
def plt(x y:Pr2):Bool:=if x.1=y.1 then llt x.2 y.2 else llt x.1 y.1
def aNL(a b:List Int):deq (bF a) (bF b)=decide (a=b):=sX a b
def aRo(x y:Pr2):dlt (p2D x) (p2D y)=plt x y:=by
 have e:dlt (p2D x) (p2D y)=if deq (bF x.1) (bF y.1)=true then(if deq (bF x.2) (bF y.2)=true then false else mK (x.2.map D.int) (y.2.map D.int)) else mK (x.1.map D.int) (y.1.map D.int):=rfl
 rw[e,aNL,aNL,aHn,aHn];unfold plt
 by_cases h:x.1=y.1
 ·rw[if_pos<|decide_eq_true h,if_pos h]
  by_cases h2:x.2=y.2
  ·rw[if_pos<|decide_eq_true h2,h2,oM]
  ·rw[if_neg<|by rw[decide_eq_false h2];decide]
 ·rw[if_neg (by rw[decide_eq_false h];decide),if_neg h]
def aLR(x:Pr2):plt x x=false:=by unfold plt;rw[if_pos rfl];exact oM _
def aBo{x y:Pr2}(h:x≠y):plt x y=true\/plt y x=true:=by
 unfold plt
 by_cases e:x.1=y.1
 ·rw[if_pos e,if_pos e.symm];exact wF _ _ λz=>h<|Prod.ext e z
 ·rw[if_neg e,if_neg λz=>e z.symm];exact wF _ _ e
def aKi{x y z:Pr2}(h1:plt x y=true)(h2:plt y z=true):plt x z=true:=by
 unfold plt at *
 by_cases e1:x.1=y.1
 ·rw[if_pos e1] at h1
  by_cases e2:y.1=z.1
  ·rw[if_pos e2] at h2;rw[if_pos<|e1.trans e2];exact uF _ _ _ h1 h2
  ·rw[if_neg e2] at h2;rw[e1,if_neg e2];exact h2
 ·rw[if_neg e1] at h1
  by_cases e2:y.1=z.1
  ·rw[<-e2,if_neg e1];exact h1
  ·rw[if_neg e2] at h2
   by_cases e3:x.1=z.1
   ·have:=uF _ _ _ h1 h2;rw[e3,oM] at this;cases this
   ·rw[if_neg e3];exact uF _ _ _ h1 h2
def rkP(ps:List Pr2)(x:Pr2):Nat:=(ps.filter λy=>plt y x).length
def yQ{x y:Pr2}(hx:x∈ps)(h:plt x y=true):rkP ps x<rkP ps y:=by
 unfold rkP
 have e:ps.filter (λz=>plt z x)=(ps.filter λz=>plt z y).filter λz=>plt z x:=by
  rw[aIV];refine nZ λz _=>?_
  cases q:plt z x with
  |false=>rfl
  |true=>rw[aKi q h];rfl
 rw[e];refine qJ.mpr ⟨x,dZ.mpr ⟨hx,h⟩,?_⟩;rw[aLR];decide
theorem aOK(nd:ps.Nodup)(hl:ps.length<=10000)(hu:A.units+8<AR):SrtP A ps (rkP ps):=by
 have key:∀x∈ps,∀y∈ps,x≠y->rkP ps x≠rkP ps y:=λx hx y hy ne=>by
  rcases aBo ne with h|h
  ·exact bC<|yQ hx h
  ·exact eJ<|yQ hy h
 refine⟨hl,λx hx y hy=>?_,?_,hu⟩
 ·rw[aRo];cases h:plt x y with
  |true=>exact(decide_eq_true<|yQ hx h).symm
  |false=>
   refine(decide_eq_false λq=>?_).symm
   by_cases e:x=y
   ·rw[e] at q;lia
   ·rcases aBo e with z|z
    ·rw[h] at z;cases z
    ·have:=yQ hy z;lia
 ·unfold List.Nodup;rw[cA];exact List.Pairwise.imp_of_mem (λ{a b} ha hb h=>key a ha b hb h) nd
def aKx(x:Pr2):List Pr2->List Pr2
 |[]=>[x]
 |y::l=>if plt x y then x::y::l else y::aKx x l
def kA:List Pr2->List Pr2
 |[]=>[]
 |x::l=>aKx x<|kA l
theorem uD(x:Pr2):∀l,(aKx x l).Perm (x::l)
 |[]=>.refl _
 |y::l=>by
  show(if plt x y then x::y::l else y::aKx x l).Perm _
  split
  ·exact .refl _
  ·exact((uD x l).cons y).trans<|.swap x y l
theorem iI:∀l,(kA l).Perm l
 |[]=>.refl _
 |x::l=>(uD x<|kA l).trans<|(iI l).cons x
theorem aEN{x:Pr2}:∀ {l:List Pr2},x∉l->l.Pairwise (λa b=>plt a b=true)->(aKx x l).Pairwise (λa b=>plt a b=true)
 |[],_,_=>by simp[aKx]
 |y::l,h,p=>by
  obtain⟨p1,p2⟩:=dO.mp p;show(if plt x y then x::y::l else y::aKx x l).Pairwise _
  by_cases q:plt x y=true
  ·rw[if_pos q];refine dO.mpr ⟨λz hz=>?_,p⟩
   rcases aP.mp hz with rfl|hz
   ·exact q
   ·exact aKi q<|p1 z hz
  ·rw[if_neg q];refine dO.mpr ⟨λz hz=>?_,aEN (λz=>h<|aF _ z) p2⟩
   rcases aP.mp ((uD x l).mem_iff.mp hz) with rfl|hz
   ·rcases aBo (y:=y) (λe=>h<|e▸aG) with w|w
    ·exact absurd w q
    ·exact w
   ·exact p1 z hz
theorem aAY:∀ {l:List Pr2},l.Nodup->(kA l).Pairwise (λa b=>plt a b=true)
 |[],_=>List.Pairwise.nil
 |x::l,h=>by obtain⟨h1,h2⟩:=bE.mp h;exact aEN (λz=>h1<|(iI l).mem_iff.mp z)<|aAY h2
theorem aLh(nd:ps.Nodup)(hp:qs.Perm ps)(hs:(qs.map<|rkP ps).Pairwise (·<·)):qs=kA ps:=by refine List.Perm.eq_of_pairwise (le:=λx y=>rkP ps x<rkP ps y) (λx y _ _ h1 h2=>by lia) (by rw[cA] at hs;exact hs) ?_ (hp.trans (iI ps).symm);exact List.Pairwise.imp_of_mem (λ{a b} ha _ h=>yQ ((iI ps).mem_iff.mp ha) h)<|aAY nd
def fS(T:WtT):Nat:=lW<|(wtK T).map mQ
def fdT(p:Int×Int)(L:List SK)(b:Int)(S:FdS):FdS:=match S.T[fS S.T]? with
 |none=>S
 |some t=>fdP p L b t.1 {S with T:=S.T.eraseIdx (fS S.T)} (kA t.2)
def mE(p:Int×Int)(L:List SK)(b:Int):Nat->FdS->FdS
 |0,S=>S
 |k+1,S=>if S.T=[] then S else mE p L b k (fdT p L b S)
def inR(row:List Nat):List Int:=row.map λ(i:Nat)=>(i:Int)
def aMM{a b:List Nat}(h:inR a=inR b):a=b:=by
 have:(inR a).map rQ=(inR b).map rQ:=by rw[h]
 have g:∀l,(inR l).map rQ=l:=λl=>by unfold inR;rw[aW];exact(bQ λi _=>eM i).trans<|kH l
 rwa[g,g] at this
def rwP(y:Pr2):List Nat:=(unP y).1
def itP(p:Int×Int)(L:List SK)(row:List Nat):Pr2:=nP (row,nrQ p L row)
def rW(p:Int×Int)(L:List SK)(row:List Nat):rwP (itP p L row)=row:=by unfold rwP itP;rw[aEb]
def aOb(p:Int×Int)(L:List SK)(row:List Nat):unP (itP p L row)=(row,nrQ p L row):=aEb _
def rkR(L:List SK)(row:List Nat):Int×Int:=(S45.prQ (prK L) row,(row.length:Int))
def klt(L:List SK)(a c:List Nat):Prop:=rlt (rkR L a) (rkR L c)\/(rkR L a=rkR L c/\llt (inR a) (inR c)=true)
def kle(L:List SK)(a c:List Nat):Prop:=a=c\/klt L a c
theorem aPE{a b c:Int×Int}(h:rlt a b)(h2:rlt b c):rlt a c:=by unfold rlt at *;lia
theorem aMt{a b:Int×Int}(h:a≠b)(h2:¬ rlt b a):rlt a b:=by
 obtain⟨a1,a2⟩:=a;obtain⟨b1,b2⟩:=b;unfold rlt at *;have:¬ (a1=b1/\a2=b2):=λz=>h (by rw[z.1,z.2])
 lia
theorem wP(L:List SK)(a:List Nat):¬ klt L a a:=by
 rintro(h|⟨_,h⟩)
 ·unfold rlt at h;lia
 ·rw[oM] at h;cases h
def aBG{a b c:List Nat}(h:klt L a b)(h2:klt L b c):klt L a c:=by
 rcases h with h|⟨e,h⟩<;>rcases h2 with h2|⟨e2,h2⟩
 ·exact .inl<|aPE h h2
 ·exact .inl<|e2▸h
 ·exact .inl<|e▸h2
 ·exact .inr ⟨e.trans e2,uF _ _ _ h h2⟩
def aJO{a b c:List Nat}(h:kle L a b)(h2:kle L b c):kle L a c:=by
 rcases h with rfl|h
 ·exact h2
 ·rcases h2 with rfl|h2
  ·exact .inr h
  ·exact .inr<|aBG h h2
theorem aCm{x:Int}:∀ {a b:List Int},a.length=b.length->llt a b=true->llt (a++[x]) (b++[x])=true
 |[],[],_,h=>by cases h
 |[],_::_,h,_=>by cases h
 |_::_,[],h,_=>by cases h
 |u::a,v::b,hl,h=>by
  have h:(if u=v then llt a b else decide (u<v))=true:=h;show(if u=v then llt (a++[x]) (b++[x]) else decide (u<v))=true
  by_cases e:u=v
  ·rw[if_pos e] at h ⊢;exact aCm (by simpa using hl) h
  ·rw[if_neg e] at h ⊢;exact h
def pV(L:List SK)(a:List Nat)(k:Nat):rkR L (a++[k])=((rkR L a).1+prK L k,(rkR L a).2+1):=by unfold rkR;rw[S45.pr_snoc,aV];rfl
theorem aHB{a c:List Nat}(k:Nat)(h:kle L a c):kle L (a++[k]) (c++[k]):=by
 rcases h with rfl|h|⟨e,h⟩
 ·exact .inl rfl
 ·refine .inr<|.inl ?_;rw[pV,pV];unfold rlt at *;lia
 ·refine .inr (.inr ⟨by rw[pV,pV,e],?_⟩)
  have el:a.length=c.length:=by have:=congrArg Prod.snd e;have:(a.length)=(c.length:Int):=this;lia
  show llt ((a++[k]).map λ(i:Nat)=>(i)) ((c++[k]).map λ(i:Nat)=>(i))=true;rw[aO,aO];exact aCm (by rw[aA,aA];exact el) h
def wrR(T:WtT):List (List Nat):=T.flatMap λt=>t.2.map rwP
def wrR_mem{T:WtT}:row∈wrR T↔∃t∈T,∃y∈t.2,rwP y=row:=by
 unfold wrR;rw[dM]
 constructor
 ·rintro⟨t,ht,h⟩;obtain⟨y,hy,e⟩:=aJ.mp h;exact⟨t,ht,y,hy,e⟩
 ·rintro⟨t,ht,y,hy,e⟩;exact⟨t,ht,aJ.mpr ⟨y,hy,e⟩⟩
theorem aAh(r:Int×Int)(x:Pr2):∀T:WtT,(wrR<|kX T r x).Perm (rwP x::wrR T)
 |[]=>.refl _
 |t::T=>by
  show(wrR (if t.1=r then(t.1,t.2++[x])::T else t::kX T r x)).Perm _
  split
  ·show((t.2++[x]).map rwP++wrR T).Perm (rwP x::(t.2.map rwP++wrR T));rw[aO,dW];exact jM
  ·exact((aAh r x T).append_left _).trans jM
theorem aCc{r:Int×Int}{x:Pr2}:∀ {T:WtT}{t':(Int×Int)×List Pr2},(∀t∈T,t.2≠[])->t'∈kX T r x->t'.2≠[]/\∀y∈t'.2,(y=x/\t'.1=r)\/∃t∈T,t.1=t'.1/\y∈t.2
 |[],t',_,h=>by
  have:=by simpa[kX] using h
  subst this;exact⟨by simp,λy hy=>.inl ⟨by simpa using hy,rfl⟩⟩
 |t::T,t',hn,h=>by
  have h:t'∈(if t.1=r then(t.1,t.2++[x])::T else t::kX T r x):=h
  by_cases e:t.1=r
  ·rw[if_pos e] at h
   rcases aP.mp h with rfl|h
   ·refine⟨by simp,λy hy=>?_⟩
    rcases aS.mp hy with hy|hy
    ·exact .inr ⟨t,aG,rfl,hy⟩
    ·exact .inl ⟨by simpa using hy,e⟩
   ·exact⟨hn _<|aF _ h,λy hy=>.inr ⟨t',aF _ h,rfl,hy⟩⟩
  ·rw[if_neg e] at h
   rcases aP.mp h with rfl|h
   ·exact⟨hn _ aG,λy hy=>.inr ⟨t',aG,rfl,hy⟩⟩
   ·obtain⟨h1,h2⟩:=aCc (λz hz=>hn z<|aF _ hz) h;exact⟨h1,λy hy=>(h2 y hy).imp id λ⟨z,hz,q⟩=>⟨z,aF _ hz,q⟩⟩
variable {p:Int×Int}{b:Int}{r:Int×Int}{row nb:List Nat}{T:WtT}
def chs(L:List SK)(b:Int)(r:Int×Int)(row:List Nat)(n:Nat):List (List Nat):=((bI n).filter λk=>decide<|r.1+prK L k<=b).map λk=>row++[k]
def chs_mem{c:List Nat}:c∈chs L b r row n↔∃k,k<n/\r.1+prK L k<=b/\c=row++[k]:=by
 unfold chs;rw[aJ]
 constructor
 ·rintro⟨k,hk,rfl⟩;obtain⟨h1,h2⟩:=dZ.mp hk;exact⟨k,bR.mp h1,of_decide_eq_true h2,rfl⟩
 ·rintro⟨k,h1,h2,rfl⟩;exact⟨k,dZ.mpr ⟨bR.mpr h1,decide_eq_true h2⟩,rfl⟩
def aOQ(n:Nat):(chs L b r row n).Nodup:=by unfold chs List.Nodup;rw[cA];refine List.Pairwise.imp (λ{a c} h e=>h ?_) (List.Pairwise.filter _<|oY);simpa using List.append_cancel_left e
theorem aEI:∀n:Nat,(wrR<|lgQ p L b r row nb n T).Perm (chs L b r row n++wrR T)
 |0=>.refl _
 |n+1=>by
  have ih:=aEI n
  have ec:chs L b r row (n+1)=chs L b r row n++(if r.1+prK L n<=b then[row++[n]] else[]):=by
   unfold chs;rw[zS,aIS];congr 1
   by_cases h:r.1+prK L n<=b
   ·simp[h]
   ·simp[h]
  rw[ec];show(wrR (if r.1+(L.getD n AN).2<=b then kX _ _ _ else _)).Perm _
  by_cases h:r.1+prK L n<=b
  ·rw[if_pos h,if_pos (show r.1+(L.getD n AN).2<=b from h)];refine(aAh _ _ _).trans ?_
   have e:rwP (nP (row++[n],hX (jA p (L.getD n AN).1) nb))=row++[n]:=by unfold rwP;rw[aEb]
   rw[e,dW];exact(ih.cons _).trans jM.symm
  ·rw[if_neg h,if_neg (show ¬ r.1+(L.getD n AN).2<=b from h),dD];exact ih
theorem aBU:∀ (n:Nat) {t':(Int×Int)×List Pr2},(∀t∈T,t.2≠[])->t'∈lgQ p L b r row nb n T->t'.2≠[]/\∀y∈t'.2,(∃k,k<n/\r.1+prK L k<=b/\t'.1=(r.1+prK L k,r.2+1)/\y=nP (row++[k],hX (jA p (L.getD k AN).1) nb))\/∃t∈T,t.1=t'.1/\y∈t.2
 |0,t',hn,h=>⟨hn t' h,λy hy=>.inr ⟨t',h,rfl,hy⟩⟩
 |n+1,t',hn,h=>by
  have h:t'∈(if r.1+(L.getD n AN).2<=b then kX (lgQ p L b r row nb n T) (r.1+(L.getD n AN).2,r.2+1) (nP (row++[n],hX (jA p (L.getD n AN).1) nb)) else lgQ p L b r row nb n T):=h;have old:∀t∈lgQ p L b r row nb n T,t.2≠[]:=λt ht=>(aBU n hn ht).1
  by_cases q:r.1+(L.getD n AN).2<=b
  ·rw[if_pos q] at h;obtain⟨h1,h2⟩:=aCc old h;refine⟨h1,λy hy=>?_⟩
   rcases h2 y hy with⟨e1,e2⟩|⟨t,ht,e,hy2⟩
   ·exact .inl ⟨n,by omega,q,e2,e1⟩
   ·rcases(aBU n hn ht).2 y hy2 with⟨k,k1,k2,k3,k4⟩|⟨s,s1,s2,s3⟩
    ·exact .inl ⟨k,by lia,k2,e▸k3,k4⟩
    ·exact .inr ⟨s,s1,s2.trans e,s3⟩
  ·rw[if_neg q] at h;obtain⟨h1,h2⟩:=aBU n hn h;exact⟨h1,λy hy=>(h2 y hy).imp (λ⟨k,k1,k2⟩=>⟨k,by lia,k2⟩) id⟩
theorem aJf:∀ {T:WtT},(∀t∈T,t.2≠[])->tot T<=2*(wrR T).length
 |[],_=>aK _
 |t::T,h=>by
  have ih:=aJf λz hz=>h z<|aF _ hz
  have h1:=fC.mpr<|h t aG;have e1:tot (t::T)=(t.2.length+1)+tot T:=by simp[tot]
  have e2:(wrR (t::T)).length=t.2.length+(wrR T).length:=by show(t.2.map rwP++wrR T).length=_;rw[aV,aA]
  lia
structure FewR(L:List SK)(b:Int)(U:List (List Nat)):Prop where
 len:U.length<=400
 rl:∀row∈U,row.length<=300
 all:∀row,fO L row->S45.prQ (prK L) row<=b->row∈U
def Cov(p:Int×Int)(L:List SK)(S:FdS)(rest:List Pr2)(row:List Nat):Prop:=row∈wrR S.T\/row∈rest.map rwP\/∃e∈S.fd,e.2.2=nrQ p L row/\kle L e.2.1 row
structure Wk(p:Int×Int)(L:List SK)(b:Int)(dn:List (List Nat))(r:Int×Int)(rest:List Pr2)(S:FdS):Prop where
 ok:aQB S
 ne:∀t∈S.T,t.2≠[]
 wt:∀t∈S.T,∀y∈t.2,∃row,y=itP p L row/\fO L row/\t.1=rkR L row/\t.1.1<=b
 rs:∀y∈rest,∃row,y=itP p L row/\fO L row/\r=rkR L row/\r.1<=b
 up:rest.Pairwise λx y=>plt x y=true
 gt:rest≠[]->∀t∈S.T,rlt r t.1
 nd:(dn++rest.map rwP++wrR S.T).Nodup
 fd:∀e∈S.fd,e.2.1∈dn/\fO L e.2.1/\e.1=S45.prQ (prK L) e.2.1/\e.1<=b/\e.2.2=nrQ p L e.2.1
 par:∀row,row∈dn++rest.map rwP++wrR S.T->row=[]\/∃q k,row=q++[k]/\q∈S.fd.map λe=>e.2.1
 du:∀row∈dn,fO L row/\S45.prQ (prK L) row<=b
 srt:(S.fd.map λe=>e.2.1).Pairwise (klt L)
 lt1:∀e∈S.fd,∀y∈rest,klt L e.2.1<|rwP y
 lt2:∀e∈S.fd,∀row∈wrR S.T,klt L e.2.1 row
 cl:∀e∈S.fd,∀k,k<L.length->e.1+prK L k<=b->Cov p L S rest (e.2.1++[k])
 st:0<=b->Cov p L S rest []
variable {dn:List (List Nat)}{rest:List Pr2}{S:FdS}{U:List (List Nat)}
def Wk.all(W:Wk p L b dn r rest S)(F:FewR L b U):∀row∈dn++rest.map rwP++wrR S.T,row∈U:=λrow h=>by
 rcases aS.mp h with h|h
 ·rcases aS.mp h with h|h
  ·obtain⟨h1,h2⟩:=W.du row h;exact F.all row h1 h2
  ·obtain⟨y,hy,e⟩:=aJ.mp h;obtain⟨q,rfl,q2,q3,q4⟩:=W.rs y hy;rw[rW] at e;subst e;exact F.all q q2 (by rw[q3] at q4;exact q4)
 ·obtain⟨t,ht,y,hy,e⟩:=wrR_mem.mp h;obtain⟨q,rfl,q2,q3,q4⟩:=W.wt t ht y hy;rw[rW] at e;subst e;exact F.all q q2 (by rw[q3] at q4;exact q4)
def Wk.few(W:Wk p L b dn r rest S)(F:FewR L b U):dn.length+rest.length+(wrR S.T).length<=U.length:=by have:=W.nd.length_le_of_subset<|W.all F;rw[aV,aV,aA] at this;exact this
theorem Wk.tot(W:Wk p L b dn r rest S)(F:FewR L b U):tot S.T<=800:=by have:=aJf W.ne;have:=W.few F;have:=F.len;lia
theorem Wk.fdl(W:Wk p L b dn r rest S)(F:FewR L b U):S.fd.length<=400:=by
 have nd:(S.fd.map λe=>e.2.1).Nodup:=List.Pairwise.imp (S:=(·≠·)) (λ{a c} h e=>wP L a<|by rw[<-e] at h;exact h) W.srt
 have:=nd.length_le_of_subset λrow h=>by obtain⟨e,he,rfl⟩:=aJ.mp h;exact(W.fd e he).1
 rw[aA] at this;have:=W.few F;have:=F.len;lia
theorem Wk.step(hpr:∀k,k<L.length->1<=prK L k)(W:Wk p L b dn r (y::rest) S):Wk p L b (dn++[rwP y]) r rest (fdI p L b r S<|unP y):=by
 obtain⟨row,ey,ro,er,rb⟩:=W.rs y aG;subst ey;have up:=dO.mp W.up;have rp:=by rw[er] at rb;exact rb
 rw[aOb];have ew:(itP p L row::rest).map rwP=row::rest.map rwP:=by rw[bG,rW]
 have nd:=W.nd;have par:=W.par;rw[ew] at nd par;have e1:dn++row::rest.map rwP=(dn++[row])++rest.map rwP:=by simp
 rw[e1] at nd par;rw[rW]
 have cv:∀c,Cov p L S (itP p L row::rest) c->c=row\/Cov p L S rest c:=λc h=>by
  rcases h with h|h|h
  ·exact .inr<|.inl h
  ·rw[ew] at h
   rcases aP.mp h with h|h
   ·exact .inl h
   ·exact .inr (.inr<|.inl h)
  ·exact .inr (.inr<|.inr h)
 have du:∀c∈dn++[row],fO L c/\S45.prQ (prK L) c<=b:=λc h=>by
  rcases aS.mp h with h|h
  ·exact W.du c h
  ·rw[aH.mp h];exact⟨ro,rp⟩
 have rs:=λz hz=>W.rs z<|aF _ hz
 have gt:=W.gt (by simp);unfold fdI
 by_cases hk:nrQ p L row∈S.kn
 ·rw[if_pos hk];rw[W.ok.kn] at hk;obtain⟨e,he,en⟩:=aJ.mp hk
  have ke:=by have:=W.lt1 e he _ aG;rw[rW] at this;exact this
  have cv2:∀c,Cov p L S (itP p L row::rest) c->Cov p L S rest c:=λc h=>by
   rcases cv c h with rfl|h
   ·exact .inr<|.inr ⟨e,he,en,.inr ke⟩
   ·exact h
  exact⟨W.ok,W.ne,W.wt,rs,up.2,λ_=>gt,nd,λe he=>⟨bP _ (W.fd e he).1,(W.fd e he).2⟩,par,du,W.srt,λe he z hz=>W.lt1 e he z<|aF _ hz,W.lt2,λe he k hk hle=>cv2 _<|W.cl e he k hk hle,λh=>cv2 _<|W.st h⟩
 ·have ok:=aPb (p:=p) (L:=L) (b:=b) (r:=r) W.ok (row,nrQ p L row);unfold fdI at ok;rw[if_neg hk] at ok ⊢;have pm:=aEI (p:=p) (L:=L) (b:=b) (r:=r) (row:=row) (nb:=nrQ p L row) (T:=S.T) L.length;have lm:=λt' h=>aBU (p:=p) (L:=L) (b:=b) (r:=r) (row:=row) (nb:=nrQ p L row) L.length (t':=t') W.ne h
  have rno:row∉S.fd.map λe=>e.2.1:=λh=>by obtain⟨e,he,ee⟩:=aJ.mp h;have:=(W.fd e he).1;rw[ee] at this;have n2:=(bD.mp (bD.mp nd).1).1;exact(bD.mp n2).2.2 row this row (by simp) rfl
  have mem':∀c,c∈wrR (lgQ p L b r row (nrQ p L row) L.length S.T)↔c∈chs L b r row L.length\/c∈wrR S.T:=λc=>by rw[pm.mem_iff,aS]
  have ch_lt:∀c∈chs L b r row L.length,klt L row c:=λc h=>by obtain⟨k,k1,k2,rfl⟩:=chs_mem.mp h;refine .inl ?_;rw[pV];have:=hpr k k1;unfold rlt;simp only;lia
  have T_lt:∀c∈wrR S.T,klt L row c:=λc h=>by obtain⟨t,ht,y,hy,e⟩:=wrR_mem.mp h;obtain⟨q,rfl,q2,q3,q4⟩:=W.wt t ht y hy;rw[rW] at e;subst e;refine .inl ?_;rw[<-er,<-q3];exact gt t ht
  have rest_lt:∀z∈rest,klt L row (rwP z):=λz hz=>by
   obtain⟨q,rfl,q2,q3,q4⟩:=rs z hz;rw[rW];refine .inr ⟨er.symm.trans q3,?_⟩;have:=up.1 _ hz;unfold plt at this
   by_cases e:(itP p L row).1=(itP p L q).1
   ·exfalso;have e2:row=q:=aMM e;subst e2;rw[if_pos rfl,oM] at this;cases this
   ·rw[if_neg e] at this;exact this
  have cvn:∀c,Cov p L S (itP p L row::rest) c->Cov p L ⟨lgQ p L b r row (nrQ p L row) L.length S.T,S.kn++[nrQ p L row],S.fd++[(r.1,row,nrQ p L row)]⟩ rest c:=λc h=>by
   rcases cv c h with rfl|h|h|⟨e,he,q⟩
   ·exact .inr<|.inr ⟨(r.1,c,nrQ p L c),aU _<|cC _,rfl,.inl rfl⟩
   ·exact .inl ((mem' c).mpr<|.inr h)
   ·exact .inr<|.inl h
   ·exact .inr<|.inr ⟨e,bP _ he,q⟩
  have efd:(S.fd++[(r.1,row,nrQ p L row)]).map (λe=>e.2.1)=S.fd.map (λe=>e.2.1)++[row]:=by rw[aO];rfl
  refine⟨ok,λt h=>(lm t h).1,λt ht y hy=>?_,rs,up.2,λ_ t ht=>?_,?_,λe he=>?_,λc hc=>?_,du,?_,λe he z hz=>?_,λe he c hc=>?_,λe he k hk hle=>?_,λh=>cvn _<|W.st h⟩
  ·rcases(lm t ht).2 y hy with⟨k,k1,k2,k3,k4⟩|⟨s,s1,s2,s3⟩
   ·refine⟨row++[k],by rw[k4];unfold itP;rw[wQ],λi hi=>?_,by rw[k3,pV,er],by rw[k3];exact k2⟩
    rcases aS.mp hi with hi|hi
    ·exact ro i hi
    ·rw[aH.mp hi];exact k1
   ·rw[<-s2];exact W.wt s s1 y s3
  ·obtain⟨h1,h2⟩:=lm t ht;obtain⟨y,hy⟩:=List.exists_mem_of_ne_nil _ h1
   rcases h2 y hy with⟨k,k1,k2,k3,k4⟩|⟨s,s1,s2,s3⟩
   ·rw[k3];have:=hpr k k1;unfold rlt;simp only;lia
   ·rw[<-s2];exact gt s s1
  ·have pm2:((dn++[row]++rest.map rwP)++wrR (lgQ p L b r row (nrQ p L row) L.length S.T)).Perm (chs L b r row L.length++((dn++[row]++rest.map rwP)++wrR S.T)):=(pm.append_left _).trans (by
    rw[<-dW,<-dW (chs L b r row L.length)]
    exact iR.append_right _)
   refine pm2.nodup_iff.mpr<|bD.mpr ⟨aOQ _,nd,λc hc d hd e=>?_⟩;subst e;obtain⟨k,k1,k2,rfl⟩:=chs_mem.mp hc
   rcases par _ hd with h|⟨q,j,h1,h2⟩
   ·simp at h
   ·have:=(List.append_inj' h1 rfl).1;subst this;exact rno h2
  ·rcases aS.mp he with he|he
   ·exact⟨bP _ (W.fd e he).1,(W.fd e he).2⟩
   ·rw[aH.mp he];exact⟨aU _<|cC _,ro,by rw[er];rfl,rb,rfl⟩
  ·rw[efd]
   have h:c∈dn++[row]++rest.map rwP++wrR S.T\/c∈chs L b r row L.length:=by
    rcases aS.mp hc with h|h
    ·exact .inl<|bP _ h
    ·rcases(mem' c).mp h with h|h
     ·exact .inr h
     ·exact .inl<|aU _ h
   rcases h with h|h
   ·exact(par c h).imp id λ⟨q,k,h1,h2⟩=>⟨q,k,h1,bP _ h2⟩
   ·obtain⟨k,_,_,rfl⟩:=chs_mem.mp h;exact .inr ⟨row,k,rfl,aU _<|cC _⟩
  ·rw[efd];refine eW.mpr ⟨W.srt,kG _ _,λa ha c hc=>?_⟩;rw[aH.mp hc];obtain⟨e,he,rfl⟩:=aJ.mp ha;have:=W.lt1 e he _ aG;rw[rW] at this;exact this
  ·rcases aS.mp he with he|he
   ·exact W.lt1 e he z<|aF _ hz
   ·rw[aH.mp he];exact rest_lt z hz
  ·rcases aS.mp he with he|he
   ·rcases(mem' c).mp hc with h|h
    ·have:=W.lt1 e he _ aG;rw[rW] at this;exact aBG this<|ch_lt c h
    ·exact W.lt2 e he c h
   ·rw[aH.mp he]
    rcases(mem' c).mp hc with h|h
    ·exact ch_lt c h
    ·exact T_lt c h
  ·rcases aS.mp he with he|he
   ·exact cvn _<|W.cl e he k hk hle
   ·rw[aH.mp he] at hle ⊢;exact .inl<|(mem' _).mpr (.inl<|chs_mem.mpr ⟨k,hk,hle,rfl⟩)
def Wk.pop{t:(Int×Int)×List Pr2}(W:Wk p L b dn r [] S)(hn:S.T[n]? =some t)(hm:∀s∈S.T,¬ rlt s.1 t.1):t.2.Nodup/\Wk p L b dn t.1 (kA t.2) {S with T:=S.T.eraseIdx n}:=by
 have tm:=aQ hn;obtain⟨nl,en⟩:=aE.mp hn
 have pT:S.T.Perm (t::S.T.eraseIdx n):=by
  have e1:S.T=S.T.take n++t::S.T.drop (n+1):=by rw[<-en,<-dX nl,fU]
  rw[dP];exact(e1▸List.Perm.refl S.T:S.T.Perm (S.T.take n++t::S.T.drop (n+1))).trans jM
 have pw:(wrR S.T).Perm (t.2.map rwP++wrR (S.T.eraseIdx n)):=pT.flatMap_right _;have ps:((kA t.2).map rwP).Perm (t.2.map rwP):=(iI t.2).map _;have nd:=W.nd;rw[gH,dD] at nd
 have pall:(dn++(kA t.2).map rwP++wrR (S.T.eraseIdx n)).Perm (dn++wrR S.T):=by rw[dW];exact((ps.append_right _).trans pw.symm).append_left _
 have ndt:t.2.Nodup:=by have h1:=(bD.mp<|pw.nodup_iff.mp (bD.mp nd).2.1).1;exact List.Pairwise.of_map _ (λa c h e=>h<|by rw[e]) h1
 have er:∀s∈S.T.eraseIdx n,s∈S.T:=λs hs=>jY hs
 have sub:∀c∈wrR (S.T.eraseIdx n),c∈wrR S.T:=λc hc=>pw.symm.mem_iff.mp<|aU _ hc
 have sub2:=λy hy=>pw.symm.mem_iff.mp (bP _<|aJ.mpr ⟨y,(iI t.2).mem_iff.mp hy,rfl⟩)
 have cv:∀c,Cov p L S [] c->Cov p L {S with T:=S.T.eraseIdx n} (kA t.2) c:=λc h=>by
  rcases h with h|h|h
  ·rcases aS.mp (pw.mem_iff.mp h) with h|h
   ·exact .inr (.inl<|ps.symm.mem_iff.mp h)
   ·exact .inl h
  ·cases h
  ·exact .inr<|.inr h
 have ek:wtK (S.T.eraseIdx n)=(wtK S.T).eraseIdx n:=by unfold wtK;rw[dP,dP,aO,oB,jZ]
 refine⟨ndt,⟨by rw[ek];exact W.ok.nk.sublist<|fT _ _,W.ok.kn,W.ok.nd⟩,λs hs=>W.ne s<|er s hs,λs hs=>W.wt s<|er s hs,λy hy=>W.wt t tm y<|(iI t.2).mem_iff.mp hy,aAY ndt,λ_ s hs=>?_,pall.nodup_iff.mpr nd,W.fd,λc hc=>?_,W.du,W.srt,λe he y hy=>W.lt2 e he _<|sub2 y hy,λe he c hc=>W.lt2 e he c<|sub c hc,λe he k hk hle=>cv _<|W.cl e he k hk hle,λh=>cv _<|W.st h⟩
 ·refine aMt (λe=>?_) (hm s<|er s hs);have nk:=W.ok.nk;have pk:(wtK S.T).Perm (rkK t.1::wtK (S.T.eraseIdx n)):=pT.map _;have:=(bE.mp<|pk.nodup_iff.mp nk).1;refine this ?_;rw[e];exact aJ.mpr ⟨s,hs,rfl⟩
 ·refine W.par c ?_;rw[gH,dD];exact pall.mem_iff.mp hc
theorem aIc(hne:T≠[]):∃t:(Int×Int)×List Pr2,T[fS T]? =some t/\∀s∈T,¬ rlt s.1 t.1:=by
 have l0:=fC.mpr hne
 have em:(wtK T).map mQ=T.map λt=>rkD t.1:=by unfold wtK;rw[aW];rfl
 have ln:((wtK T).map mQ).length=T.length:=by rw[em,aA]
 have gd:∀i,i<T.length->((wtK T).map mQ).getD i .non=rkD ((T.map (·.1)).getD i (0,0)):=λi hi=>by rw[em];simp[bV,hi]
 have eb:fS T=Ah (λi k=>decide (rlt ((T.map (·.1)).getD i (0,0)) ((T.map (·.1)).getD k (0,0)))) (T.length-1):=by unfold fS lW;rw[ln];exact qW _ λi j hi hj=>by rw[gd i<|by lia,gd j<|by lia,aJQ]
 have bl:=vW (λi k=>decide (rlt ((T.map (·.1)).getD i (0,0)) ((T.map (·.1)).getD k (0,0))))<|T.length-1;have bm:=yE (T.map (·.1)) (T.length-1) (by rw[aA];lia);rw[<-eb] at bl bm;generalize fS T=n at bl bm;have hn:n<T.length:=by lia
 refine⟨T[n],dN hn,λs hs=>?_⟩;obtain⟨j,hj⟩:=cY hs;have lj:=(aE.mp hj).1;have:=bm j (by lia);have e1:(T.map (·.1)).getD j (0,0)=s.1:=by simp[bV,hj]
 have e2:(T.map (·.1)).getD n (0,0)=T[n].1:=by simp[bV,hn]
 rw[e1,e2] at this;exact this
def fd0(p:Int×Int)(b:Int):FdS:=⟨if 0<=b then[((0,0),[nP ([],st0 p)])] else[],[],[]⟩
def bkF(p:Int×Int)(L:List SK)(b:Int):List (Int×List Nat×List Nat):=(mE p L b 401<|fd0 p b).fd
theorem wk0(p:Int×Int)(L:List SK)(b:Int):Wk p L b [] (0,0) [] (fd0 p b):=by
 have e:nP ([],st0 p)=itP p L []:=rfl
 by_cases h:0<=b
 ·have e0:fd0 p b=⟨[((0,0),[itP p L []])],[],[]⟩:=by unfold fd0;rw[if_pos h,e]
  have ew:wrR [((0,0),[itP p L []])]=[[]]:=by show[rwP<|itP p L []]++[]=_;rfl
  rw[e0];refine⟨⟨by simp[wtK],rfl,dS⟩,λt ht=>?_,λt ht y hy=>?_,λy hy=>(nomatch hy),List.Pairwise.nil,λh=>absurd rfl h,?_,λe he=>(nomatch he),λrow hr=>?_,λrow hr=>(nomatch hr),List.Pairwise.nil,λe he=>(nomatch he),λe he=>(nomatch he),λe he=>(nomatch he),λ_=>.inl ?_⟩
  ·rw[aH.mp ht];simp
  ·rw[aH.mp ht] at hy ⊢;exact⟨[],aH.mp hy,λi hi=>(nomatch hi),rfl,h⟩
  ·rw[ew];simp
  ·exact .inl<|aH.mp hr
  ·exact cC _
 ·have e0:fd0 p b=⟨[],[],[]⟩:=by unfold fd0;rw[if_neg h]
  rw[e0];exact⟨⟨dS,rfl,dS⟩,λt ht=>(nomatch ht),λt ht=>(nomatch ht),λy hy=>(nomatch hy),List.Pairwise.nil,λh=>absurd rfl h,dS,λe he=>(nomatch he),λrow hr=>(nomatch hr),λrow hr=>(nomatch hr),List.Pairwise.nil,λe he=>(nomatch he),λe he=>(nomatch he),λe he=>(nomatch he),λz=>absurd z h⟩
theorem Wk.take(hpr:∀k,k<L.length->1<=prK L k)(W:Wk p L b dn r rest S):∀j,j<=rest.length->Wk p L b (dn++(rest.take j).map rwP) r (rest.drop j) (fdP p L b r S<|rest.take j)
 |0,_=>by rw[List.take_zero,gH,dD];exact W
 |j+1,hj=>by
  have ih:=Wk.take hpr W j (by lia);have lj:j<rest.length:=by omega
  rw[dX lj] at ih;have:=ih.step hpr;rw[<-xY] at this
  have et:rest.take (j+1)=rest.take j++[rest[j]]:=by rw[gB,dN lj];rfl
  rw[et,aO,<-dW];exact this
def Wk.turn(hpr:∀k,k<L.length->1<=prK L k)(W:Wk p L b dn r [] S)(hne:S.T≠[]):∃t:(Int×Int)×List Pr2,S.T[fS S.T]? =some t/\(∀s∈S.T,¬ rlt s.1 t.1)/\t.2.Nodup/\t.2≠[]/\Wk p L b dn t.1 (kA t.2) {S with T:=S.T.eraseIdx (fS S.T)}/\fdT p L b S=fdP p L b t.1 {S with T:=S.T.eraseIdx (fS S.T)} (kA t.2)/\Wk p L b (dn++(kA t.2).map rwP) t.1 [] (fdT p L b S):=by
 obtain⟨t,ht,hm⟩:=aIc hne;obtain⟨n1,W1⟩:=W.pop ht hm
 have e:fdT p L b S=fdP p L b t.1 {S with T:=S.T.eraseIdx (fS S.T)} (kA t.2):=by unfold fdT;rw[ht]
 refine⟨t,ht,hm,n1,W.ne t<|aQ ht,W1,e,?_⟩;have:=W1.take hpr (kA t.2).length<|aK _;rw[dA,wU] at this;rw[e];exact this
theorem aEQ(hpr:∀k,k<L.length->1<=prK L k)(F:FewR L b U):∀ (m:Nat) {dn:List (List Nat)}{r:Int×Int}{S:FdS},Wk p L b dn r [] S->U.length<dn.length+m->∃dn' r',Wk p L b dn' r' [] (mE p L b m S)/\(mE p L b m S).T=[]
 |0,dn,r,S,W,h=>by have:=W.few F;lia
 |m+1,dn,r,S,W,h=>by
  show ∃dn' r',Wk p L b dn' r' [] (if S.T=[] then S else mE p L b m (fdT p L b S))/\(if S.T=[] then S else mE p L b m (fdT p L b S)).T=[]
  by_cases q:S.T=[]
  ·rw[if_pos q];exact⟨dn,r,W,q⟩
  ·rw[if_neg q];obtain⟨t,_,_,_,ne,_,_,W2⟩:=W.turn hpr q;refine aEQ hpr F m W2 ?_
   have:0<(kA t.2).length:=by rw[(iI t.2).length_eq];exact fC.mpr ne
   rw[aV,aA];lia
structure BkFOk(p:Int×Int)(L:List SK)(b:Int)(B:List (Int×List Nat×List Nat)):Prop where
 len:B.length<=400
 ent:∀e∈B,fO L e.2.1/\e.1=S45.prQ (prK L) e.2.1/\e.1<=b/\e.2.2=nrQ p L e.2.1/\e.2.1.length<=300
 nd:(B.map λe=>e.2.2).Nodup
 srt:(B.map λe=>e.2.1).Pairwise (klt L)
 cl:∀e∈B,∀k,k<L.length->e.1+prK L k<=b->∃e'∈B,e'.2.2=nrQ p L (e.2.1++[k])/\kle L e'.2.1 (e.2.1++[k])
 st:0<=b->∃e∈B,e.2.2=nrQ p L []/\kle L e.2.1 []
theorem aJz(hpr:∀k,k<L.length->1<=prK L k)(F:FewR L b U):BkFOk p L b (bkF p L b):=by
 obtain⟨dn,r,W,e⟩:=aEQ hpr F 401 (wk0 p L b) (by have:=F.len;lia)
 have cv:∀c,Cov p L (mE p L b 401<|fd0 p b) [] c->∃e∈(mE p L b 401<|fd0 p b).fd,e.2.2=nrQ p L c/\kle L e.2.1 c:=λc h=>by
  rcases h with h|h|h
  ·rw[e] at h;cases h
  ·cases h
  ·exact h
 refine⟨W.fdl F,λe he=>?_,by have:=W.ok.nd;rw[W.ok.kn] at this;exact this,W.srt,λe he k hk hle=>cv _<|W.cl e he k hk hle,λh=>cv _<|W.st h⟩;obtain⟨h1,h2,h3,h4,h5⟩:=W.fd e he;exact⟨h2,h3,h4,h5,F.rl _ (F.all _ h2<|by rw[<-h3];exact h4)⟩
theorem BkFOk.all{B:List (Int×List Nat×List Nat)}(hpr:∀k,k<L.length->1<=prK L k)(O:BkFOk p L b B):∀row,fO L row->S45.prQ (prK L) row<=b->∃e∈B,e.2.2=nrQ p L row/\kle L e.2.1 row:=by
 have g:∀ (n:Nat) (row:List Nat),row.length=n->fO L row->S45.prQ (prK L) row<=b->∃e∈B,e.2.2=nrQ p L row/\kle L e.2.1 row:=λn=>by
  induction n with
  |zero=>intro row hl _ hb;have:=cI hl;subst this;exact O.st hb
  |succ n ih=>
   intro row hl ho hb;have hne:row≠[]:=λz=>by rw[z] at hl;cases hl
   have ed:=iQ hne;generalize row.dropLast=q at ed;generalize row.getLast hne=k at ed;subst ed;have kn:=ho k (by simp);have h1:=hpr k kn;rw[S45.pr_snoc] at hb;obtain⟨e,he,e1,e2⟩:=ih q (by simpa using hl) (λi hi=>ho i<|bP _ hi) (by lia);obtain⟨_,h3,_,h5,_⟩:=O.ent e he
   have le:S45.prQ (prK L) e.2.1<=S45.prQ (prK L) q:=by
    rcases e2 with z|(z|⟨z,_⟩)
    ·rw[z];exact kJ _
    ·have:(rkR L e.2.1).1<=(rkR L q).1:=by unfold rlt at z;lia
     exact this
    ·exact aGQ<|congrArg Prod.fst z
   obtain⟨e',he',e3,e4⟩:=O.cl e he k kn (by lia);refine⟨e',he',?_,aJO e4<|aHB k e2⟩;rw[e3,wQ,wQ,<-h5,e1]
 exact λrow=>g row.length row rfl
def fdD(e:Int×List Nat×List Nat):D:=.tup [.int e.1,.tup<|cS e.2.1,.tup<|cS e.2.2]
def aJv:List D->R->Prop:=λds r=>∃p L b U,p∈bS/\StkOk p L/\FewR L b U/\ds=[.lst (L.map<|mvD p),.int b,.tup (cS<|st0 p)]/\r=.own ((bkF p L b).map fdD)
noncomputable def aCO(ds:List D):List Nat:=ds.map λd=>match d with | .int i=>i.toNat|_=>0
def aFl(l:List Nat):aCO (cS l)=l:=by unfold aCO cS;rw[aW];exact(bQ λi _=>eM i).trans<|kH l
def unE:D->Int×List Nat×List Nat
 |.tup [.int a,.tup r,.tup n]=>(a,aCO r,aCO n)
 |_=>(0,[],[])
def aKI(e:Int×List Nat×List Nat):unE (fdD e)=e:=by show(e.1,aCO<|cS e.2.1,aCO<|cS e.2.2)=e;rw[aFl,aFl]
def bkQ(p:Int×Int)(L:List SK)(b:Int):List Bk:=(bkF p L b).map λe=>(e.1,e.2.1,lJ p e.2.2)
def aOm:List D->R->Prop:=λds r=>∃p L b U,p∈bS/\StkOk p L/\(L.map λs=>sqD s.1).Nodup/\FewR L b U/\ds=[dI p,.lst<|L.map skD,.int b]/\r=.own ((bkQ p L b).map enD)
def aKC(i:Int):Prop:=Builtin.Int.intBits i<=1048576
theorem yI:∀ (ns:List Int),∀i∈ns,Builtin.Int.intBits i<=PySem.W.WData.weightAll (ns.map PySem.W.WData.int)
 |[],i,h=>by cases h
 |n::ns,i,h=>by
  rw[bG];simp only[PySem.W.WData.weightAll,PySem.W.WData.weight]
  rcases aP.mp h with rfl|h
  ·unfold Builtin.Int.intBits;lia
  ·have:=yI ns i h;lia
def aOC{ns:List Int}(h:PySem.W.WData.layableAll [PySem.W.WData.list<|ns.map PySem.W.WData.int]=true):∀i∈ns,aKC i:=λi hi=>by
 have h1:=cZ.mp h _ aG;have h2:=(aGR.mp h1).2;have h3:=of_decide_eq_true h2;have e:PySem.W.WData.weight (PySem.W.WData.list<|ns.map PySem.W.WData.int)=PySem.W.WData.weightAll (ns.map PySem.W.WData.int):=by simp only[PySem.W.WData.weight]
 exact cF (yI ns i hi) h3
def aKK:List D->R->Prop:=λds r=>∃ns:List Int,ds=[.scr ns]/\ns.length<=63/\(∀i∈ns,aKC i)/\r=.val (.bl true)
section
open PySem.W PySem.Calls Att
def aAF{l:OpenLaw}{d:DefRec}(hn:l.most=some n) (hdf:d.params.defaults=[])(call:∀ (w:AL) (s₀ s₁:BY) (mg mb:Str→Option BX) (fa:BZ) (o:CC) (pm cd doc:BX) (a:BZ) (vs:List BX) (ns:List Int),
   Ground q loose [] XP w s₀ mg mb s₁.heap->YP w s₁.heap->
   s₁.heap.get? fa=some o->o.data=.func (docDef d.name d.params d.body d.scope pm cd doc)->s₁.heap.CodeRec cd d.name->mg d.name=some (.ref fa)->
   s₁.heap.get? a=some {cls:=.type "list",data:=.seq vs.toArray}->IntsAre vs ns->ns.length<=n->(∀i∈ns,aKC i)->s₁.gens= #[]->
   codeAny (AD l.prog w) callerA (.call (.ref fa) ⟨[.ref a],[]⟩) (λr s'=>r=.ok (.ret (.bool true))/\OldK s₁.heap s'.heap/\s'.os=s₁.os/\AllBare s'.gens) s₁):
  WalkO q loose XP YP l.row.toRowW d [] (λf vs=>PySem.call f vs):=by
 intro w s₀ s₁ mg mb G Y fa o pm cd doc dV kV ho hd hcd hD hmg hg args vals as hpre hlay hrd hwl hlo;obtain rfl:dV=.none:=Dflts.none hD hdf;obtain rfl:kV=.none:=Dflts.noKw hD;obtain⟨a,vs,ns,rfl,rfl,hobj,hints,hlen⟩:=aFR hn hpre hwl;refine enter_call<|BK (call w s₀ s₁ mg mb fa o pm cd doc a vs ns G Y ho (fd_plain hd) hcd hmg hobj hints hlen (aOC hlay) hg) λr s' hq=>?_;obtain⟨rfl,h2,h3,h4⟩:=hq;exact⟨.inl ⟨.bool true,.bool true,[],rfl,λ_=>rfl,.bool true,aFT l _,λ_=>⟨List.Pairwise.nil,λ_ hm=>(nomatch hm)⟩⟩,h2,h3,h4⟩
end
def walkDB{l:PySem.W.OpenLaw}{k:Nat}{d:DefRec}{K:Params->aB}(hn:l.most=some 63)(hdf:d.params.defaults=[])(hr:Room k callerA) (hY:∀ (w:AL) (h:CB),YP w h->(K w.params).In h)(F:∀ (w:AL) (mg:Str→Option BX) (fa:BZ) (h:CB),(K w.params).In h→h.Ns Am mg→mg d.name=some (.ref fa)→∃fd:Al,(∀ (s:BY) (u:BX),BindsTo s fd ⟨[u],[]⟩ [(x,u)])/\∀base:CB,(K w.params).In base->base.Ns Am mg->FnOk l.prog w (K w.params) mg base CX0 k fa fd [x] (spC (K w.params) 1 aKK)):PySem.W.WalkO q loose XP YP l.row.toRowW d [] (λf vs=>PySem.call f vs):=by
 refine aAF hn hdf λw s₀ s₁ mg mb fa o pm cd doc a vs ns G Y ho hd hcd hmg hobj hints hlen hbit hg=>?_
 have KX:=hY w _ Y;obtain⟨fd,hb,hF⟩:=F w mg fa _ KX G.T.g hmg
 exact aIb KX G.T.g G.T.b G.T.builtins G.T.nolimit hg hobj hints (cF hlen<|by decide) hr hF hb
  (λH hO hS=>⟨rfl,aID hO,[.scr ns],.val<|.bl true,.one (by exact⟨a,rfl,hS⟩),⟨ns,rfl,hlen,hbit,rfl⟩,λv H' ⟨F,_,_,_,res⟩=>by simpa only[ResOk,Rep] using res⟩) λH e s' z=>z
theorem aLK{i j:Int}(h:aKC i)(hj:Builtin.Int.intBits j<=1000):IntMulOk i j:=by unfold IntMulOk Builtin.Int.intTooBig;intro q;simp at q;unfold aKC at h;have e:bitsLine=134217728:=rfl;have:=q.2;lia
section
open PySem.SeqAt
open PySem.AutoSeq1 (wpAny_loadPart')
open PySem.MeetsSeq PySem.MeetsSeq2 PySem.MeetsSeq3
end
noncomputable def sz8L:List (Int×Int):=[(1,1),(1,2),(2,1),(2,2),(1,3),(3,1),(1,4),(4,1)]
theorem gL(x:Int)(h:0<n):(x%(n:Int)).toNat<n/\0<=x%(n:Int):=by have h0:=dU x (show(n:Int)≠0 by lia);have h1:=dE x (show(0:Int)<n by lia);lia
def xE{l:List Int}{d:Int}(h:i<l.length):(l.map D.int)[i]? =some (.int<|l.getD i d):=by simp[bV,h]
def tJ(c:Int):Int:=([1,1,3]:List Int).getD (mxS c 10%3).toNat 1
def oS(c:Int):Nat:=1+(mxS c 11%4).toNat+(if mxS c 12%8=1 then 1 else 0)
def aJc(c:Int):Int:=([1,1,2,3]:List Int).getD (mxS c 5%4).toNat 1
def xH(c:Int):tJ c=1\/tJ c=3:=by
 have g:∀x∈([1,1,3]:List Int),x=1\/x=3:=by decide
 exact g _<|getD_mem (gL _<|by decide).1
def aER(c:Int):1<=aJc c/\aJc c<=3:=by
 have g:∀x∈([1,1,2,3]:List Int),1<=x/\x<=3:=by decide
 exact g _<|getD_mem (gL _<|by decide).1
def aAw(c:Int):1<=oS c/\oS c<=5:=by
 have:=(gL (mxS c 11) (n:=4)<|by decide).1;unfold oS;have e:((4))=4:=rfl
 split<;>omega
def gC(p:Int×Int)(ns:List Int)(st:Nat)(f:Int):Nat->List SK
 |0=>[]
 |t+1=>if aHb (gC p ns st f t) (drQ p<|ns.getD (st+1+t) 0) then gC p ns st f t else gC p ns st f t++[(drQ p<|ns.getD (st+1+t) 0,f*aJc (ns.getD (st+1+t) 0))]
def aHp(p:Int×Int)(ns:List Int)(st:Nat):List SK:=gC p ns st (tJ<|ns.getD st 0) (oS<|ns.getD st 0)
def aKg:List D->R->Prop:=λds r=>∃p ns st,p∈bS/\st<=100/\ds=[.scr ns,.int ((st:Nat):Int),dI p]/\r=.val (.tup [.lst<|(aHp p ns st).map skD,.int (tJ<|ns.getD st 0)])
structure KitOk(p:Int×Int)(f:Int)(L:List SK):Prop where
 pos:0<L.length
 le:L.length<=5
 st:∀s∈L,rA p s.1/\f<=s.2/\s.2<=3*f
 nd:(L.map λs=>sqD s.1).Nodup
 f13:f=1\/f=3
theorem KitOk.stk{f:Int}(h:KitOk p f L):StkOk p L:=⟨h.pos,by have:=h.le; lia,fun s hs=>by
 obtain⟨h1,h2,h3⟩:=h.st s hs;have:=h.f13
 exact⟨h1,by lia,by lia⟩⟩
theorem uG(hp:p∈bS)(ns:List Int)(st:Nat){f:Int}(hf:f=1\/f=3):∀t,(gC p ns st f t).length<=t/\(0<t->0<(gC p ns st f t).length)/\(∀s∈gC p ns st f t,rA p s.1/\f<=s.2/\s.2<=3*f)/\((gC p ns st f t).map λs=>sqD s.1).Nodup
 |0=>⟨aK _,λh=>by omega,λs hs=>(nomatch hs),dS⟩
 |t+1=>by
  obtain⟨a,b,c,d⟩:=uG hp ns st hf t;have e:gC p ns st f (t+1)=if aHb (gC p ns st f t) (drQ p<|ns.getD (st+1+t) 0) then gC p ns st f t else gC p ns st f t++[(drQ p<|ns.getD (st+1+t) 0,f*aJc (ns.getD (st+1+t) 0))]:=rfl
  rw[e];clear e;cases h:aHb (gC p ns st f t) (drQ p<|ns.getD (st+1+t) 0) with
  |true=>
   rw[if_pos rfl];refine⟨by lia,λ_=>?_,c,d⟩;cases e:gC p ns st f t with
   |nil=>rw[e] at h;cases h
   |cons _ _=>simp
  |false=>
   rw[if_neg bJ];refine⟨by simp;omega,λ_=>by simp,λs hs=>?_,?_⟩
   ·rcases aS.mp hs with hs|hs
    ·exact c s hs
    ·rw[aH.mp hs];obtain⟨p1,p2⟩:=aER<|ns.getD (st+1+t) 0;refine⟨aOL hp _,?_⟩
     rcases hf with rfl|rfl<;>lia
   ·rw[aO];refine bD.mpr ⟨d,by simp,λx hx y hy z=>aLe h ?_⟩;have:y=sqD (drQ p<|ns.getD (st+1+t) 0):=by simpa using hy
    rw[<-this,<-z];exact hx
def aIF(hp:p∈bS)(ns:List Int)(st:Nat):KitOk p (tJ<|ns.getD st 0) (aHp p ns st):=by obtain⟨a,b,c,d⟩:=uG hp ns st (xH<|ns.getD st 0) (oS<|ns.getD st 0);obtain⟨m1,m2⟩:=aAw<|ns.getD st 0;exact⟨b<|by omega,cF a m2,c,d,xH _⟩
noncomputable def nR(n:Nat):Nat:=([12,5,4,3,2]:List Nat).getD (n-1) 0
def aDN(c:Int)(n:Nat)(f:Int):Int:=f*(c%((nR n:Int)+1))+c / 16%f
def aKb:List D->R->Prop:=λds r=>∃ (c:Int) (L:List SK) (f:Int),0<L.length/\L.length<=5/\(f=1\/f=3)/\ds=[.int c,.lst<|L.map skD,.int f]/\r=.val (.int<|aDN c L.length f)
theorem aHQ(c:Int)(n:Nat){f:Int}(hf:f=1\/f=3):0<=aDN c n f/\aDN c n f<f*((nR n:Int)+1):=by
 have h0:=dU c (show(nR n:Int)+1≠0 by lia);have h1:=dE c (show(0)<(nR n:Int)+1 by lia);unfold aDN
 rcases hf with rfl|rfl<;>lia
noncomputable def rK(n:Nat):Nat->List (List Nat)
 |0=>[[]]
 |k+1=>(bI n).flatMap λi=>(rK n k).map λr=>i::r
theorem rK_mem:∀ {k:Nat}{row:List Nat},row∈rK n k↔row.length=k/\∀i∈row,i<n
 |0,row=>by
  show row∈[[]]↔_;rw[aH]
  constructor
  ·rintro rfl;exact⟨rfl,λi hi=>(nomatch hi)⟩
  ·exact λh=>cI h.1
 |k+1,row=>by
  show row∈(bI n).flatMap _↔_;rw[dM]
  constructor
  ·rintro⟨i,hi,h⟩;obtain⟨r,hr,rfl⟩:=aJ.mp h;obtain⟨h1,h2⟩:=rK_mem.mp hr;refine⟨by rw[bZ,h1],λj hj=>?_⟩
   rcases aP.mp hj with rfl|hj
   ·exact bR.mp hi
   ·exact h2 j hj
  ·rintro⟨h1,h2⟩;cases row with
   |nil=>cases h1
   |cons i r=>exact⟨i,bR.mpr<|h2 i aG,aJ.mpr ⟨r,rK_mem.mpr ⟨by simpa using h1,λj hj=>h2 j<|aF _ hj⟩,rfl⟩⟩
def upK(n K:Nat):List (List Nat):=(bI<|K+1).flatMap<|rK n
theorem upK_mem{K:Nat}:row∈upK n K↔row.length<=K/\∀i∈row,i<n:=by
 unfold upK;rw[dM]
 constructor
 ·rintro⟨k,hk,h⟩;obtain⟨h1,h2⟩:=rK_mem.mp h;have:=bR.mp hk;exact⟨by lia,h2⟩
 ·rintro⟨h1,h2⟩;exact⟨row.length,bR.mpr<|by lia,rK_mem.mpr ⟨rfl,h2⟩⟩
theorem wO{f:Int}{pr:Nat->Int}:∀ (row:List Nat),(∀k∈row,f<=pr k)->f*(row.length:Int)<=S45.prQ pr row
 |[],_=>by simp[S45.prQ]
 |k::row,h=>by
  have ih:=wO row λj hj=>h j<|aF _ hj
  have h1:=h k aG;show f*((row.length+1:Nat))<=(pr k::row.map pr).sum;rw[aQd];have e:S45.prQ pr row=(row.map pr).sum:=rfl;rw[Int.natCast_add,Int.mul_add];lia
theorem aRH{f:Int}(h:KitOk p f L)(hb:b<f*((nR L.length:Int)+1)):FewR L b (upK L.length<|nR L.length):=by
 have g:∀n∈[1,2,3,4,5],(upK n<|nR n).length<=400/\nR n<=300:=by decide+kernel
 have hl:L.length∈[1,2,3,4,5]:=by
  have h1:=h.pos;have h2:=h.le;have e:L.length=1\/L.length=2\/L.length=3\/L.length=4\/L.length=5:=by lia
  rcases e with e|e|e|e|e<;>rw[e]<;>decide
 obtain⟨g1,g2⟩:=g _ hl;refine⟨g1,λrow hr=>cF (upK_mem.mp hr).1 g2,λrow ho hr=>upK_mem.mpr ⟨?_,ho⟩⟩;have:=wO (pr:=prK L) row λk hk=>(h.st _ (getD_mem<|ho k hk)).2.1
 have hf:=h.f13
 rcases hf with rfl|rfl<;>lia
noncomputable def rE(L:List SK)(c:Int):Nat:=(c*16807%2147483647%(L.length:Int)).toNat
def aES(h:0<L.length)(c:Int):rE L c<L.length:=(gL _ h).1
def aKG:List D->R->Prop:=λds r=>∃ (L:List SK) (row:List Nat),fO L row/\row.length<=400/\ds=[.lst<|L.map skD,.tup<|cS row]/\r=.val (.int<|S45.prQ (prK L) row)
def aJn(P:AF)(w:AL)(K:aB):List D->R->Prop:=λds r=>∃p L row,p∈bS/\StkOk p L/\fO L row/\row.length<=400/\ds=[dI p,.lst (L.map<|mgD P w K p),.tup<|cS row]/\r=.val (.tup<|(S45.tabQ (fG p L) (bU p) row).map bF)
structure BqOk(p:Int×Int)(L:List SK)(b:Int)(B:List Bk):Prop where
 len:B.length<=400
 ent:∀e∈B,fO L e.2.1/\e.1=S45.prQ (prK L) e.2.1/\e.1<=b/\e.2.2=S45.tabQ (fG p L) (bU p) e.2.1/\e.2.1.length<=300
 nd:(B.map λe=>e.2.2).Nodup
 srt:(B.map λe=>e.2.1).Pairwise (klt L)
 cl:∀e∈B,∀k,k<L.length->e.1+prK L k<=b->∃e'∈B,e'.2.2=fG p L k e.2.2/\kle L e'.2.1 (e.2.1++[k])
 st:0<=b->∃e∈B,e.2.2=bU p/\kle L e.2.1 []
 all:∀row,fO L row->S45.prQ (prK L) row<=b->∃e∈B,e.2.2=S45.tabQ (fG p L) (bU p) row/\kle L e.2.1 row
def uJ(hp:p∈bS)(S:StkOk p L)(F:FewR L b U):BqOk p L b (bkQ p L b):=by
 have O:=aJz (p:=p) S.pr F;have nr:∀ {row:List Nat},fO L row->NOk p (nrQ p L row)/\lJ p (nrQ p L row)=S45.tabQ (fG p L) (bU p) row:=λh=>vG hp (λs hs=>(S.st s hs).1) h
 have mem:∀ {e:Int×List Nat×List Nat},e∈bkF p L b->(e.1,e.2.1,lJ p e.2.2)∈bkQ p L b:=λh=>aJ.mpr ⟨_,h,rfl⟩
 refine⟨by unfold bkQ;rw[aA];exact O.len,λx hx=>?_,?_,?_,λx hx k hk hle=>?_,λh=>?_,λrow ho hr=>?_⟩
 ·obtain⟨e,he,rfl⟩:=aJ.mp hx;obtain⟨h1,h2,h3,h4,h5⟩:=O.ent e he;exact⟨h1,h2,h3,by rw[h4];exact(nr h1).2,h5⟩
 ·unfold bkQ;rw[aW];have:(bkF p L b).map ((λe=>e.2.2) ∘ λe=>(e.1,e.2.1,lJ p e.2.2))=((bkF p L b).map λe=>e.2.2).map (lJ p):=by rw[aW];rfl
  rw[this];have q:=O.nd;unfold List.Nodup at q ⊢;rw[cA];refine List.Pairwise.imp_of_mem (λ{a c} ha hc h z=>h ?_) q;obtain⟨e,he,rfl⟩:=aJ.mp ha;obtain⟨e',he',rfl⟩:=aJ.mp hc;have n1:=(nr (O.ent e he).1).1;have n2:=(nr (O.ent e' he').1).1;rw[<-(O.ent e he).2.2.2.1] at n1;rw[<-(O.ent e' he').2.2.2.1] at n2;exact aCa hp n1 n2 z
 ·unfold bkQ;rw[aW];exact O.srt
 ·obtain⟨e,he,rfl⟩:=aJ.mp hx;obtain⟨e',he',h1,h2⟩:=O.cl e he k hk hle;obtain⟨o1,_,_,o4,_⟩:=O.ent e he;refine⟨_,mem he',?_,h2⟩
  have ho:fO L (e.2.1++[k]):=λi hi=>by
   rcases aS.mp hi with hi|hi
   ·exact o1 i hi
   ·rw[aH.mp hi];exact hk
  rw[h1,(nr ho).2,S45.tab_snoc,o4,(nr o1).2]
 ·obtain⟨e,he,h1,h2⟩:=O.st h;refine⟨_,mem he,?_,h2⟩;rw[h1];exact aEO p
 ·obtain⟨e,he,h1,h2⟩:=O.all S.pr row ho hr;refine⟨_,mem he,?_,h2⟩;rw[h1];exact(nr ho).2
def aEY(hp:p∈bS)(S:StkOk p L)(h:fO L row):(S45.tabQ (fG p L) (bU p) row).length=(bU p).length:=by obtain⟨q1,q2⟩:=vG hp (λs hs=>(S.st s hs).1) h;rw[<-q2];unfold lJ;rw[aA];exact q1.1
def aQZ(e:Bk):pl (enD e)=true:=by show(true&&(plL (cS e.2.1)&&(plL (e.2.2.map bF)&&true)))=true;rw[(pN e.2.1).1,lI];rfl
theorem aOI(e:Bk):dep (enD e)<=3:=by show max 0 (max (jI (cS e.2.1)+1)<|max (jI (e.2.2.map bF)+1) 0)+1<=3;have:=kS e.2.2;rw[(pN e.2.1).2];lia
def aPk(B:List Bk):plL (B.map enD)=true/\jI (B.map enD)<=3:=⟨xD enD aQZ B,uI enD 3 aOI B⟩
def FI(K:aB)(mg:Str->Option BX)(n:Str)(st:CD):Prop:=∃f fd,mg n=some (.ref f)/\Fun K n n st f fd
def FI.mk{n:Str}{st:CD}{od an:Option BZ}{oc kV dc pm cd ct:BX}{f:BZ}(X:K.In h)(G:h.Ns Am mg)(a:tY K Am n=some (some<|.ref f))(l:K.lookup f=some ⟨oc,od,.func<|fV n n (lE st) (gU st) (bN st) .none kV dc pm an cd ct,sl⟩)(c:mP K cd n=true)(k:gM K (.ref f)=true):FI K mg n st:=⟨f,_,qQ X G a,aKj l c k⟩
def aOa:V->List V->Hp->VK->Prop:=λx vs H Q=>∃l xs y,∃ (z:Int) (k:Nat),x=.ref l/\vs=[.int z,y]/\z.toNat=k/\0<=z/\k<=xs.length/\xs.length<=1000/\H l=some (.lst xs)/\Q .non (upd H l<|.lst (xs.take k++y::xs.drop k))
theorem aCl(ry:RelV y u):∀ {xs:List V}{its:List BX} (k:Nat),Vals xs its->Vals (xs.take k++y::xs.drop k) (its.take k++u::its.drop k)
 |_,_,0,h=>by exact .cons ry h
 |_,_,k+1,.nil=>.cons ry .nil
 |_,_,k+1,.cons r h=>.cons r<|aCl ry k h
theorem aMi:MtM X "list.insert" aOa:=by
 intro pins s σ H x vs v us Q I rx rv h;obtain⟨l,xs,y,x,k,rfl,rfl,hxk,hx0,hk,h1000,hH,q⟩:=h;cases rx;cases rv with
 |cons r0 rv=>
  obtain⟨u,rfl,ru⟩:=Vals.one<|rv;obtain⟨t,rfl⟩:=r0;obtain⟨z,its,n,r,hl,e⟩:=I.lstM hH;have s1:=gG (show its.length<=1000 by lia)
  have fit:¬ (!Builtin.List.listFitsIndex x)=true:=by
   unfold Builtin.List.listFitsIndex;have h1: -(2^63)<=x:=by lia
   have h2:x<2^63:=by lia
   rw[decide_eq_true h1,decide_eq_true h2];decide
  have hz:its.toArray.size<=AM:=by exact cX s1
  have M:=PySem.AutoSeq1.list_insert_list_int_val_1 l its.toArray n x t u fit hz;refine call_meets F.slot_list_insert ⟨_,e,rfl⟩ F.entry_list_insert (F.args_list_insert_3 _ _ _) M ⟨e,?_⟩;refine⟨.non,_,I.lset hH e ?_ (aCl ru k r) ?_,rfl,q⟩
  ·have hn:¬ (x<0):=by lia
   have hm:min x.toNat its.toArray.size=k:=by rw[bB];lia
   simp only[if_neg hn,hm];apply jL.mp;simp;exact eZ (by rw[gN];exact aK _)
  ·rw[aV,bZ,cT,gN];lia
variable {b:Expr}{d:D}
def RepL.ins(r:Rep K F d v):∀ {ds:List D}{xs:List V} (k:Nat),RepL K F ds xs->RepL K F (ds.take k++d::ds.drop k) (xs.take k++v::xs.drop k)
 |ds,xs,0,h=>by exact .cons r h
 |[],xs,k+1,h=>by subst h;exact .cons r .nil
 |d'::ds,xs,k+1,h=>by obtain⟨x,xs',rfl,a1,r1⟩:=h.uncons;exact .cons a1<|RepL.ins r k r1
theorem aHU(i k:Nat){p ap:Pos}(hs:sd[i]? =some (.own l ds))(hb:PEd X sd b (.val<|.int (k:Int)))(h:PEd X sd e (.val d))(hk:k<=ds.length)(hl:ds.length<=1000)(hE:E.nx (sd.set i<|.own l (ds.take k++d::ds.drop k)))(hm:PE X (.Call (.Attribute (.Name x p) "insert" ap) [b,e] [] cp) (tBM X.K "list" aOa (kU i) (lV (wE X b)<|lV (wE X e) vM)):=by exact aCM hW PySem.F.slot_list_insert PySem.F.type_list_insert aMi (pv _) (fN fH<|fN fH pa_nil))(hsw:Af (.Call (.Attribute (.Name x p) "insert" ap) [b,e] [] cp) none pos.line X.env=pure false:=by rfl):PSd1 X sd (.Expr (.Call (.Attribute (.Name x p) "insert" ap) [b,e] [] cp) pos) E:=.mk λσ F H S=>
 (qC hm hsw).to (by
  obtain⟨o,h1,h2,n,xs,q,rl⟩:=S.slots.get hs;refine⟨.ref l,by rw[h1,h2],.inl ⟨rfl,xs,.of q⟩,(hb σ F H S).imp λv0 H0 ⟨F0,S0,s0,q0⟩=>(h σ F0 H0 S0).imp λv H1 ⟨F1,S1,s1,q1⟩=>?_⟩;obtain⟨o',h1',h2',n',xs',q',rl'⟩:=S1.slots.get hs;subst q0;have ln:=rl'.len
  exact⟨l,xs',v,(k),k,rfl,rfl,by lia,by lia,by lia,by lia,q',_,F1,S1.wr hs (RepL.ins q1 k rl'),s0.trans s1,hE⟩)
theorem aDs(n:Nat):pJ n none none (some (-1))=(bI n).reverse:=by
 have e:pJ n none none (some (-1))=(bI n).map λk=>n-1-k:=by
  unfold pJ sliceRange;simp only[As]
  by_cases h:n=0
  ·subst h;rfl
  ·have hp:¬ ((some (-1)).getD 1>0):=by decide
   simp only[if_neg hp];have e1:(some (-1)).getD 1= -1:=rfl;rw[e1,if_pos<|by lia,show(-(-1))=1 from rfl,Int.ediv_one,show(((n:Int)-1 - -1 - -1-1)).toNat=n by lia];refine bQ λk hk=>?_
   lia
 rw[e];refine lO (by simp) λi h1 h2=>?_
 rw[fA,aIW,List.getElem_reverse,aIW,eG]
theorem aFy(l:List α):nQ l none none (some (-1))=l.reverse:=by
 unfold nQ;rw[aDs,List.filterMap_reverse];congr 1
 have g:∀n,n<=l.length->(bI n).filterMap (l[·]?)=l.take n:=λn=>by
  induction n with
  |zero=>exact λ_=>rfl
  |succ n ih=>intro h;rw[zS,List.filterMap_append,ih<|by lia,gB];simp[show n<l.length from h]
 rw[g _<|aK _,dA]
namespace S45
variable {T:Type}[DecidableEq T]{n:Nat}{pr:Nat->Int}{beh:Nat->T->T}{t0:T}
noncomputable def ordB(rv:Bool)(l:List α):List α:=if rv then l.reverse else l
def aFs(rv:Bool)(l:List α)(x:α):x∈ordB rv l↔x∈l:=by
 unfold ordB
 split
 ·exact List.mem_reverse
 ·exact Iff.rfl
def run43(n:Nat)(pr:Nat->Int)(beh:Nat->T->T)(t0:T)(rv:Bool):Nat->List (Ent T)×Lay T
 |0=>([],aQj t0)
 |t+1=>(ordB rv<|(run43 n pr beh t0 rv t).2 t).foldl (one n pr beh t)<|run43 n pr beh t0 rv t
def Ok.perm{t:Int}{rest rest':List (List Nat×T)}{s:List (Ent T)×Lay T}(o:Ok n pr beh t0 t rest s)(h:∀x,x∈rest'↔x∈rest):Ok n pr beh t0 t rest' s:=
 ⟨o.ent,o.nd,o.ly,o.par,o.ch,λj x hj hx=>(o.done j x hj hx).imp (λz=>⟨z.1,(h x).mpr z.2⟩) id,λx hx=>o.sub x<|(h x).mp hx,o.le⟩
theorem ok_run43(hp:∀k,k<n->1<=pr k)(rv:Bool):∀t:Nat,Ok n pr beh t0 (t:Int) (ordB rv<|(run43 n pr beh t0 rv t).2 t) (run43 n pr beh t0 rv t)
 |0=>(aKh hp 0).perm λx=>aFs rv _ x
 |t+1=>by
  have o:=Ok.fold hp (kI t)<|ok_run43 hp rv t;refine Ok.perm ⟨λe he=>?_,o.nd,o.ly,o.par,o.ch,λj x hj hx=>?_,λx hx=>hx,o.le⟩ λx=>aFs rv _ x
  ·obtain⟨h1,h2,h3⟩:=o.ent e he;exact⟨h1,by lia,h3⟩
  ·by_cases z:j<=(t)
   ·rcases o.done j x z hx with⟨_,h⟩|h
    ·cases h
    ·exact .inr h
   ·have:j=((t+1)):=by lia
    subst this;exact .inl ⟨rfl,hx⟩
theorem run43_bd(rv:Bool):∀t:Nat,Bd n (run43 n pr beh t0 rv t)
 |0=>aKk (beh:=beh) (pr:=pr) 0
 |t+1=>fold_bd<|run43_bd rv t
theorem aIu{t:Int}{s:List (Ent T)×Lay T}(e:List Nat×T):s.1.length<=(one n pr beh t s e).1.length:=by
 unfold one
 split
 ·rw[aV];lia
 ·exact aK _
theorem aAn{t:Int}:∀ {rest:List (List Nat×T)}{s:List (Ent T)×Lay T},s.1.length<=(rest.foldl (one n pr beh t) s).1.length
 |[],_=>aK _
 |e::rest,s=>cF (aIu e)<|aAn
theorem run43_ne(rv:Bool):∀t:Nat,0<(run43 n pr beh t0 rv<|t+1).1.length
 |0=>by
  have e:ordB rv ((run43 n pr beh t0 rv 0).2<|(0:Nat))=[([],t0)]:=by cases rv<;>rfl
  show 0<((ordB rv ((run43 n pr beh t0 rv 0).2<|(0:Nat))).foldl (one n pr beh<|(0))<|run43 n pr beh t0 rv 0).1.length;rw[e];show 0<(one n pr beh ((0)) ([],aQj t0) ([],t0)).1.length;unfold one;simp
 |t+1=>aZ (run43_ne rv t) aAn
end S45
def nD(p:Int×Int)(L:List SK)(rv:Bool)(t:Nat):aQr:=S45.run43 L.length (prK L) (fG p L) (bU p) rv t
theorem aKO{b t:Int}(F:FewR L b U)(ht:t<=b){rest:List (List Nat×List (List Int))}{s:aQr}(o:S45.Ok L.length (prK L) (fG p L) (bU p) t rest s):s.1.length<=400:=by
 have nd:(s.1.map λe=>e.2.1).Nodup:=by have q:=o.nd;unfold List.Nodup at q ⊢;rw[cA] at q ⊢;refine List.Pairwise.imp_of_mem (λ{a c} ha hc h z=>h ?_) q;rw[(o.ent a ha).2.2.2.2,(o.ent c hc).2.2.2.2,z]
 have:=nd.length_le_of_subset λrow hr=>by obtain⟨e,he,rfl⟩:=aJ.mp hr;obtain⟨_,h2,h3,h4,_⟩:=o.ent e he;exact F.all _ h4<|by lia
 rw[aA] at this;have:=F.len;lia
def aCP(c:Int)(B:List Bk)(e:Bk):List Bk:=B.take (mxS c B.length%((B.length:Int)+1)).toNat++e::B.drop (mxS c B.length%((B.length:Int)+1)).toNat
def mW(c:Int)(B:List Bk):List Bk:=B.foldl (aCP c) []
def aDk(c:Int)(B:List Bk)(e:Bk):(aCP c B e).Perm (e::B):=by refine jM.trans (List.Perm.cons _ ?_);rw[fU]
def aDy(c:Int)(B:List Bk)(e:Bk):mW c (B++[e])=aCP c (mW c B) e:=by unfold mW;rw[iW];rfl
def zK(c:Int):∀B:List Bk,(mW c B).Perm B:=by
 have g:∀ (B A:List Bk),(B.foldl (aCP c) A).Perm (A++B):=λB=>by
  induction B with
  |nil=>exact λA=>by rw[dD];exact .refl _
  |cons e B ih=>intro A;refine(ih<|aCP c A e).trans ?_;refine((aDk c A e).append_right B).trans ?_;exact jM.symm
 exact λB=>g B []
def qY(p:Int×Int)(L:List SK)(b:Nat)(c:Int):List Bk:=mW c (nD p L (decide<|c%2=1)<|b+1).1
theorem aHS{b:Nat}{c:Int}(hp:p∈bS)(S:StkOk p L)(F:FewR L (b:Int) U):BkOk p L (b:Int) (qY p L b c)/\S45.HoldsP L.length (prK L) (fG p L) (b:Int) (qY p L b c)/\(qY p L b c)≠[]/\(qY p L b c).length<=400/\∀e∈qY p L b c,e.2.1.length<=300:=by
 have o:S45.Ok L.length (prK L) (fG p L) (bU p) (b) [] (nD p L (decide<|c%2=1)<|b+1):=S45.Ok.fold S.pr (kI b)<|S45.ok_run43 S.pr (decide<|c%2=1) b;have l4:=aKO F (kJ _) o;have ne:=S45.run43_ne (n:=L.length) (pr:=prK L) (beh:=fG p L) (t0:=bU p) (decide<|c%2=1) b;have ne:0<(nD p L (decide<|c%2=1)<|b+1).1.length:=ne;have pm:=zK c (nD p L (decide<|c%2=1)<|b+1).1;unfold qY;generalize nD p L (decide<|c%2=1) (b+1)=s at o l4 ne pm
 have rl:=λe he=>by obtain⟨_,h2,h3,h4,_⟩:=o.ent e he;exact F.rl _ (F.all _ h4<|by lia)
 refine⟨⟨by rw[pm.length_eq];lia,λe he=>?_,?_⟩,S45.holds_all S.pr o (kJ _) (kI b) (fC.mp ne) ?_ λx=>⟨λh=>?_,λh=>pm.mem_iff.mpr h.1⟩,fC.mp (by rw[pm.length_eq];exact ne),by rw[pm.length_eq];exact l4,λe he=>rl e<|pm.mem_iff.mp he⟩
 ·have he:=pm.mem_iff.mp he;obtain⟨h1,h2,h3,h4,h5⟩:=o.ent e he;exact⟨h3,h2,h4,by have:=rl e he;lia,h5⟩
 ·exact(pm.map _).nodup_iff.mpr o.nd
 ·exact cF (aDG _ _)<|by lia
 ·have h:=pm.mem_iff.mp h;exact⟨h,(o.ent x h).2.1⟩
end DL
namespace DL
open PySem PySem.Spec PyProof.Rows L2
open PySem.W (KasT kas_sort)
def TupAt1.inj(a:TupAt1 h v x)(b:TupAt1 h v y):x=y:=by
 obtain⟨a1,o,n,its,rfl,g,c,d,i1,_⟩:=a;obtain⟨a2,o2,n2,its2,e,g2,c2,d2,i2,_⟩:=b;cases e;rw[g] at g2;cases g2;rw[d] at d2
 have e2:its=its2:=by
  injection d2 with q
  simpa using q
 subst e2
 have f:∀ {vs:List BX}{x y:List Int},IntsAre vs x->IntsAre vs y->x=y:=λ{vs}=>by
  induction vs with
  |nil=>intro x y p q;cases p;cases q;rfl
  |cons v vs ih=>
   intro x y p q;cases p with
   |cons n t p=>cases q with
    |cons m u q=>rw[ih p q]
 exact f i1 i2
def rkV(h:CB)(rk:List Int->Nat)(v:BX):Nat:=open Classical in if q:∃x,TupAt1 h v x then rk (Classical.choose q) else 0
def aDX(a:TupAt1 h v x):rkV h rk v=rk x:=by unfold rkV;have q:∃x,TupAt1 h v x:=⟨x,a⟩;rw[dif_pos q,(Classical.choose_spec q).inj a]
noncomputable def gZ(k:List Key):List Int:=k.map λz=>match z with | .inl i=>i | .inr _=>0
def TupAt1.keep(p:TupAt1 h v x)(k:∀b o,o.cls=.type "tuple"->h.get? b=some o->h'.get? b=some o):TupAt1 h' v x:=by obtain⟨a,o,n,its,e,g,c,d⟩:=p;exact⟨a,o,n,its,e,k _ _ c g,c,d⟩
def aRh{vs us:List BX}(ho:h.get? a=some (Aj "list" us.toArray n)):∀b o,o.cls=.type "tuple"->h.get? b=some o->(jX h a vs).get? b=some o:=λb o c g=>by
 have nb:a≠b:=λz=>by subst z;rw[ho] at g;cases g;exact absurd (show Value.type "list"=Value.type "tuple" from c)<|by decide
 refine aD _<|aD _ ?_;rw[cJ _ _ nb];exact g
def aLW{T:List kK}(R:∀r∈T,TupAt1 h (.ref r.2.2)<|gZ r.2.1):TupsAt h (T.map λr=>Value.ref r.2.2) (T.map λr=>gZ r.2.1):=by
 induction T with
 |nil=>exact .nil
 |cons r T ih=>exact .cons (R r aG) (ih λq hq=>R q<|aF _ hq)
variable {prog:AF}{w:AL}{A:CA}{E:BX->BY->Prop}{s:BY}
theorem zL{rk:List Int->Nat}{R:PySem.Fin->BY->Prop}(ho:s.heap.get? a=some (Aj "list" (T.map λr=>Value.ref r.2.2).toArray n))(RI:∀r∈T,TupAt1 s.heap (.ref r.2.2)<|gZ r.2.1)(hn:T.length<=10000)(nd:(T.map λr=>rk<|gZ r.2.1).Nodup) (hlt:∀x∈T,∀y∈T,ltI (gZ x.2.1) (gZ y.2.1)=decide (rk (gZ x.2.1)<rk (gZ y.2.1)))(h:∀T':List kK,T'.Perm T->(T'.map λr=>rk<|gZ r.2.1).Pairwise (·<·)->R (.done<|.ret .none) {s with heap:=sortedHeap s.heap a (T.map λr=>Value.ref r.2.2) (T'.map λr=>Value.ref r.2.2).toArray}):AH (AD prog w) A (Builtin.«list.sort» ⟨[.ref a],[]⟩) R E s:=by
 obtain⟨vs,hvs⟩:∃vs,T.map (λr=>Value.ref r.2.2)=vs:=⟨_,rfl⟩;rw[hvs] at ho h;have R6:∀r∈T,TupAt1 (jX s.heap a vs) (.ref r.2.2) (gZ r.2.1):=λr hr=>(RI r hr).keep<|aRh ho
 have T6:=by have:=aLW R6;rw[hvs] at this;exact this
 have er:∀T':List kK,(∀r∈T',r∈T)->(T'.map λr=>Value.ref r.2.2).map (rkV (jX s.heap a vs) rk)=T'.map λr=>rk (gZ r.2.1):=λT' hT=>by rw[aW];exact bQ λr hr=>aDX (R6 r<|hT r hr)
 have mv:∀x∈vs,∃r∈T,x=Value.ref r.2.2:=λx hx=>by rw[<-hvs] at hx;obtain⟨r,hr,e⟩:=aJ.mp hx;exact⟨r,hr,e.symm⟩
 have lv:vs.length=T.length:=by rw[<-hvs,aA]
 have nv:(vs.map<|rkV (jX s.heap a vs) rk).Nodup:=by
  have:=er T λ_ z=>z
  rw[hvs] at this;rw[this];exact nd
 have hk0:2<=vs.length->∀Q,Q (tuples' true) ⟨jX s.heap a vs,s.gens,s.drawn,s.toks,s.os⟩->AH (AD prog w) A (keyKind' vs.toArray) Q E ⟨jX s.heap a vs,s.gens,s.drawn,s.toks,s.os⟩:=λh2 Q q=>aRI T6 (by rw[aA];lia) q
 have ha0:∀x∈vs,∀y∈vs,∀ (Q:Bool->BY->Prop) (E':BX->BY->Prop),Q (decide<|rkV (jX s.heap a vs) rk x<rkV (jX s.heap a vs) rk y) ⟨jX s.heap a vs,s.gens,s.drawn,s.toks,s.os⟩->AH (AD prog w) A (keyLt' (tuples' true) x y) Q E' ⟨jX s.heap a vs,s.gens,s.drawn,s.toks,s.os⟩:=λx hx y hy Q E' q=>by obtain⟨u,hu,rfl⟩:=mv x hx;obtain⟨v,hv,rfl⟩:=mv y hy;refine askI (R6 u hu) (R6 v hv) ?_;rw[hlt u hu v hv];rw[aDX<|R6 u hu,aDX<|R6 v hv] at q;exact q
 refine qN ho nv (by lia) hk0 ha0 λout p1 p2=>?_
 rw[<-hvs] at p1;obtain⟨T',q1,q2⟩:=oO p1
 have e:out=(T'.map λr=>Value.ref r.2.2).toArray:=by apply jL.mp;rw[q2]
 rw[q2,er T' λr hr=>q1.mem_iff.mp hr] at p2;rw[e];exact h T' q1 p2
theorem aDf{rk:List Int->Nat}(hh:A.handled=none)(ho:s.heap.get? S=some o)(sm:SetT prog w true o T)(l72:T.length<=3)(RI:∀r∈T,TupAt1 s.heap (.ref r.2.2)<|gZ r.2.1)(nd:(T.map λr=>rk<|gZ r.2.1).Nodup) (hlt:∀x∈T,∀y∈T,ltI (gZ x.2.1) (gZ y.2.1)=decide (rk (gZ x.2.1)<rk (gZ y.2.1)))(h:∀ (h':CB) (tk:Nat) (D:BZ) (T':List kK) (n:Nat),(∀b x,s.heap.get? b=some x->h'.get? b=some x)->S<D->h'.get? D=some {cls:=.type "list",data:=.seq (T'.map λr=>Value.ref r.2.2).toArray n}->T'.Perm T->(T'.map λr=>rk<|gZ r.2.1).Pairwise (·<·)->Q (.ref D) {s with heap:=h',toks:=tk}):AH (AD prog w) A (call (.builtin "sorted") [.ref S]) Q E s:=by
 obtain⟨es,ep,t,rfl,X,z,hled,hpl⟩:=sm;obtain⟨el,hel⟩:∃el,T.map (gT (tK prog w).hash)=el:=⟨_,rfl⟩;have ee:es=el.toArray:=by rw[<-hel];exact X.en
 have fit:=X.fit<|z.fit X.om l72;have lel:el.length=T.length:=by rw[<-hel,aA]
 obtain⟨ks,hks⟩:∃ks,T.map (·.1)=ks:=⟨_,rfl⟩;have lks:ks.length=T.length:=by rw[<-hks,aA]
 have hk:TOk w el t ks:=⟨by rw[<-ee];exact fit,hpl rfl,hled,by rw[<-hks];exact X.pl,by rw[<-hks];exact X.rs,by rw[lel,lks]⟩;have ho':s.heap.get? S=some (soT el ep t):=by rw[ho,ee];rfl
 have pm:=aAu (w:=w) (S:=S) (ep:=ep) el;have pm':=pm;rw[<-hel] at pm';obtain⟨T1,q1,q2⟩:=oO pm';rw[hel] at q2;have l1:=q1.length_eq;have src:=srcW (prog:=prog) (ep:=ep) (S:=S) hk;clear ee ho;refine Calls.call_function_entry kind_sorted plain_sorted entry_sorted (args_sorted1 _) ?_;refine AA<|AB (AA<|PySem.W.kdu_collect src (by simpa using hh) ho' (by rw[lks,Ao];lia) λh1 tk acc kp it=>?_)
 have al:acc.toList=T1.map λr=>Value.ref r.2.2:=by
  have e0:T1.map (λr=>Value.ref r.2.2)=(pA w S ep el).map (·.2):=by rw[q2,aW];rfl
  rw[e0];apply nY;intro j
  by_cases hj:j<acc.toList.length
  ·have e3:acc.toList[j]? =some acc.toList[j]:=by simp[hj]
   obtain⟨c,q⟩:=it.2 j acc.toList[j] (by rw[<-cU];exact e3);rw[e3,aY,q];rfl
  ·have a1:acc.toList.length=ks.length:=by exact it.1
   rw[cV<|by lia,cV<|by rw[aA,q2,aA];lia]
 have R1:∀r∈T1,TupAt1 (h1.push {cls:=.type "list",data:=.seq acc.toList.toArray}) (.ref r.2.2) (gZ r.2.1):=λr hr=>(RI r<|q1.mem_iff.mp hr).keep λb x _ g=>aD _<|kp b x g
 refine AA (wpAny_newList ?_<|by rw[al,aA,Ao];lia);have hoL:(h1.push {cls:=.type "list",data:=.seq acc.toList.toArray}).get? h1.objs.size=some (Aj "list" acc.toList.toArray 0):=aR _ rfl;rw[al] at hoL R1 ⊢;refine AA<|AV (AQ PyProof.Rows.slot_list_sort ⟨_,hoL,rfl⟩ PyProof.Rows.entry_list_sort (zL hoL R1 (by lia) ((q1.map _).nodup_iff.mpr nd) (λx hx y hy=>hlt x (q1.mem_iff.mp hx) y<|q1.mem_iff.mp hy) λT' p1 p2=>⟨_,rfl,AB ⟨_,rfl,?_⟩⟩)<|args_list_sort _);obtain⟨v1,hv1⟩:∃v1,T1.map (λr=>Value.ref r.2.2)=v1:=⟨_,rfl⟩;obtain⟨v2,hv2⟩:∃v2,T'.map (λr=>Value.ref r.2.2)=v2:=⟨_,rfl⟩;have fin:=λh' n2 a b c=>h h' tk h1.objs.size T' n2 a b c (p1.trans q1) p2
 rw[hv1] at hoL ⊢;rw[hv2] at fin ⊢
 have keep:∀ (b:BZ) (x:CC),b≠h1.objs.size->h1.get? b=some x->(sortedHeap (h1.push {cls:=.type "list",data:=.seq v1.toArray}) h1.objs.size v1 v2.toArray).get? b=some x:=λb x hb g=>by unfold sortedHeap;rw[cJ _ _<|Ne.symm hb];refine aD _<|aD _ ?_;rw[cJ _ _<|Ne.symm hb];exact aD _ g
 obtain⟨n1,g1⟩:∃n1,((h1.push {cls:=.type "list",data:=.seq v1.toArray}).update h1.objs.size<|Obj.mapSeq λ_=> #[]).get? h1.objs.size=some (Aj "list" #[] n1):=⟨_,BW hoL λ_=> #[]⟩;obtain⟨n2,g2⟩:∃n2,(sortedHeap (h1.push {cls:=.type "list",data:=.seq v1.toArray}) h1.objs.size v1 v2.toArray).get? h1.objs.size=some (Aj "list" v2.toArray n2):=⟨_,BW (aD _<|aD _ g1) λ_=>v2.toArray⟩;have le:=aM<|kp _ _ ho';exact fin _ n2 (λb x g=>keep b x (λz=>absurd (aM<|kp b x g)<|by rw[z];exact dH _)<|kp b x g) le g2
variable {X:Cx}{sd:List Slot}{a b e:Expr}{pos:Pos}
theorem aIq{ks:List (List Key)}(hu:X.A.units+10<AR)(hg2:Gl X "set")(hm2:X.mg "set"=none)(hi:∀k∈ks,∀z∈k,∃i,z=Sum.inl i)(h16:ks.length<=3)(hc:X.calm=true)(hst:AE [e] X.env=(false,eval e X.env)::AE [] X.env)(ha:PEd X sd e (.val (.lst<|ks.map mQ)))  (S:StF X.K X.B₀ F H σ sd)  (I:Inv X pins σ H s) (k:∀ (s0:BY) (h2:CB) (tk:Nat) (H1 F1:Hp) (o1:CC) (T1:List kK),Inv X pins σ H1 s0->(∀b o,s0.heap.get? b=some o->h2.get? b=some o)->StF X.K X.B₀ F1 H1 σ sd->Same F F1->h2.get? s0.heap.objs.size=some o1->SetT X.prog X.w true o1 T1->(∀k,k∈T1.map (·.2.1)↔k∈ks)->(∀p∈T1.map (·.2),F1 p.2=some (.tup<|p.1.map kV))->Q (.ref s0.heap.objs.size) {s0 with heap:=h2,toks:=tk}):AH (AD X.prog X.w) X.A (eval (.Call (.Name "set" p2) [e] [] q2) X.env) Q X.xe s:=by
 refine Ai<|mM I hg2 hm2 PyProof.Rows.boot_set ?_;refine PyProof.Rows.callWith_type1 (thn ((fN fH pa_nil hst) q2 pins s σ H (λus H1=>∃v F1,us=[v]/\StF X.K X.B₀ F1 H1 σ sd/\Same F F1/\ResOk X.K F1 H1 sd (.val (.lst<|ks.map mQ)) v) I<|(ha σ F H S).imp λv H1 ⟨F1,S1,s1,q1⟩=>⟨v,F1,rfl,S1,s1,q1⟩) λus s1 hus=>?_) hst rfl;obtain⟨ws,H1,I1,rv,v,F1,rfl,S1,sF,q1⟩:=hus;obtain⟨u,rfl,ru⟩:=oX rv;obtain⟨l,xs,rfl,hl,rl⟩:=q1;cases ru;obtain⟨its,rv2,ht0,hz⟩:=I1.list (.of<|S1.sub _ _ hl);have ht:=ht0.isList;have lx:xs.length=ks.length:=by rw[rl.len,aA]
 have ln:its.length=ks.length:=by rw[<-rv2.length,lx]
 have item:∀ (i:Nat) (v:BX),its[i]? =some v->∃a,v=.ref a/\i<ks.length/\F1 a=some (.tup<|(ks.getD i []).map kV):=λi v hv'=>by
  have hi:i<ks.length:=by rw[<-ln];exact(aE.mp hv').1
  obtain⟨x,hx,rx⟩:=rl.get (d:=D.tup<|(ks[i]).map kD) (by rw[aY,dN hi];rfl);obtain⟨u,hu',ru⟩:=rv2.get hx;rw[hv'] at hu';cases hu';obtain⟨a,ys,rfl,fa,ry⟩:=rx;have ey:=nI ry;subst ey;cases ru;have e:ks.getD i []=ks[i]:=by simp[bV,hi]
  exact⟨a,rfl,hi,by rw[e];exact fa⟩
 refine aRj (by lia) ks (ip:=true) (λ_=>hi) (by simpa using ln.symm) (by simpa[ln] using h16) (λi v hv=>?_) (I1.ok.hd hc) ht λh' tk o' T kp g sm kt rt=>?_
 ·obtain⟨a,rfl,hi,fa⟩:=item i v (by simpa using hv);exact⟨a,rfl,nA I1.hok<|S1.sub _ _ fa⟩
 ·refine k s1 h' tk H1 F1 o' T I1 kp S1 sF g sm kt λp hp=>?_
  obtain⟨i,hi,ei⟩:=rt p hp;obtain⟨a,ea,_,fa⟩:=item i _ (by simpa using hi);cases ea;rw[<-ei];exact fa
def nO(x:List Int):gZ (kY x)=x:=by unfold gZ kY;rw[aW];exact kH x
def aRb(x:List Int):(kY x).map kV=x.map V.int:=by unfold kY;rw[aW];rfl
def aRa(ps:List (List Int)):(ps.map kY).map mQ=ps.map bF:=by rw[aW];exact bQ λx _=>kY_D x
theorem aBk(K:aB)(F:Hp):∀x:List Int,RepL K F (x.map D.int) (x.map V.int)
 |[]=>.nil
 |n::x=>.cons (by simp only[Rep])<|aBk K F x
theorem aBu{p p2 q2:Pos}{ps qs:List (List Int)}{rk:List Int->Nat}(hu:X.A.units+10<AR)(hg:Gl X "sorted")(hm:X.mg "sorted"=none)(hg2:Gl X "set")(hm2:X.mg "set"=none)(ha:PEd X sd e (.val (.lst<|ps.map bF)))(hne:∀x∈ps,x≠[])(h72:ps.length<=3)(hlt:∀x∈ps,∀y∈ps,ltI x y=decide (rk x<rk y)) (inj:∀x∈ps,∀y∈ps,rk x=rk y->x=y) (hq:∀x,x∈qs↔x∈ps) (hs:qs.Pairwise λx y=>rk x<rk y)(hc:X.calm=true:=by rfl) (hst:AE [e] X.env=(false,eval e X.env)::AE [] X.env:=by rfl) (hst2:AE [.Call (.Name "set" p2) [e] [] q2] X.env=(false,eval (.Call (.Name "set" p2) [e] [] q2) X.env)::AE [] X.env:=by rfl):PEd X sd (.Call (.Name "sorted" p) [.Call (.Name "set" p2) [e] [] q2] [] pos) (.own<|qs.map bF):=.mk λσ F H S pins s I=>by
 refine Ai<|mM I hg hm boot_sorted ?_;refine PyProof.Rows.callWith_builtin1 ?_ hst2 rfl;refine Calls.spliced_cons ?_;have ha':PEd X sd e (.val (.lst<|(ps.map kY).map mQ)):=by rw[aRa];exact ha
 refine aIq hu hg2 hm2 (λk hk z hz=>?_) (by rw[aA];exact h72) hc hst ha' S I λs0 h2 tk H1 F1 o1 T1 I1 kp S1 sF g sm kt rt=>?_
 ·obtain⟨x,_,rfl⟩:=aJ.mp hk;obtain⟨i,_,rfl⟩:=aJ.mp hz;exact⟨i,rfl⟩
 ·refine Calls.spliced_nil ?_
  have row:∀r∈T1,∃x∈ps,r.2.1=kY x/\F1 r.2.2=some (.tup<|x.map V.int):=λr hr=>by have hk:=(kt r.2.1).mp<|cK hr;obtain⟨x,hx,ex⟩:=aJ.mp hk;refine⟨x,hx,ex.symm,?_⟩;have:=rt r.2<|cK hr;rw[<-ex,aRb] at this;exact this
  have knd:=sm.nd
  have l72:T1.length<=3:=by
   have:=knd.length_le_of_subset λk hk=>(kt k).mp hk
   rw[aA,aA] at this;lia
  have RI:∀r∈T1,TupAt1 h2 (.ref r.2.2) (gZ r.2.1):=λr hr=>by
   obtain⟨x,hx,e1,f1⟩:=row r hr
   have rp:Rep X.K H1 (bF x) (.ref r.2.2):=by exact⟨_,_,rfl,S1.sub _ _ f1,aBk _ _ x⟩
   obtain⟨b,ys,its,e2,e3,r2,v2,o,g2,c,n,hd⟩:=iK I1.hok rp<|rfl;cases e2;cases e3;have e4:=(r2).ints;subst e4;rw[e1,nO];exact⟨_,o,n,its,rfl,kp _ _ g2,c,hd,aEM v2,hne x hx⟩
  have ki:∀r∈T1,gZ r.2.1∈ps:=λr hr=>by obtain⟨x,hx,e1,_⟩:=row r hr;rw[e1,nO];exact hx
  have nd:(T1.map λr=>rk<|gZ r.2.1).Nodup:=by
   have e:T1.map (λr=>rk<|gZ r.2.1)=(T1.map (·.2.1)).map λk=>rk (gZ k):=by rw[aW];rfl
   rw[e];unfold List.Nodup;rw[cA];refine List.Pairwise.imp_of_mem (λ{k1 k2} m1 m2 q z=>q ?_) knd;obtain⟨x,hx,ex⟩:=aJ.mp<|(kt k1).mp m1;obtain⟨y,hy,ey⟩:=aJ.mp<|(kt k2).mp m2;rw[<-ex,<-ey,nO,nO] at z;rw[<-ex,<-ey,inj x hx y hy z]
  refine aDf (I1.ok.hd hc) g sm l72 RI nd (λx hx y hy=>hlt _ (ki x hx) _<|ki y hy) λh3 tk3 dd T' n kp3 le g3 pm pw=>?_
  have eT:=by
   refine List.Perm.eq_of_pairwise (fun x y _ _ h1 h2=>by lia) (by
    have:=pw;rw[cA] at this;rw[cA]
    exact this) hs ?_
   have n1:(T'.map λr=>gZ r.2.1).Nodup:=by have:=pw;rw[cA] at this;unfold List.Nodup;rw[cA];exact this.imp λ{x y} q z=>by rw[z] at q;lia
   have n2:qs.Nodup:=hs.imp λ{x y} q z=>by rw[z] at q;lia
   refine(aAK n1 n2).mpr λx=>?_
   rw[hq]
   constructor
   ·intro hx;obtain⟨r,hr,rfl⟩:=aJ.mp hx;exact ki r<|pm.mem_iff.mp hr
   ·intro hx;have:=(kt<|kY x).mpr<|cK hx;obtain⟨r,hr,er⟩:=aJ.mp this;refine aJ.mpr ⟨r,pm.mem_iff.mpr hr,?_⟩;rw[er,nO]
  have le2:=cX le;have hD:=I1.hok.fresh le2;have lT:T'.length<=3:=by rw[pm.length_eq];exact l72
  have vv:Vals (T'.map λr=>V.ref r.2.2) (T'.map λr=>Value.ref r.2.2):=by
   generalize T'=U
   induction U with
   |nil=>exact .nil
   |cons r U ih=>exact .cons rfl ih
  have I3:Inv X pins σ (upd H1 dd (.lst<|T'.map λr=>V.ref r.2.2)) {s0 with heap:=h3,toks:=tk3}:=
   I1.laid (λb o g=>kp3 b o<|kp b o g) le2 ⟨by rw[Ao,aA];lia,_,n,vv,g3⟩
  obtain⟨S4,fp,no⟩:=S1.layO hD;refine⟨.ref dd,_,I3,rfl,F1,S4,sF,dd,_,rfl,fp,bX,?_,no⟩;rw[<-eT,aW];have rT:∀r∈T',r∈T1:=λr hr=>pm.mem_iff.mp hr
  clear vv I3 S4 fp no g3 eT lT pw pm
  induction T' with
  |nil=>exact .nil
  |cons r U ih=>refine .cons ?_ (ih λq hq=>rT q<|aF _ hq);obtain⟨x,hx,e1,f1⟩:=row r<|rT r aG;show Rep X.K F1 (bF<|gZ r.2.1) (.ref r.2.2);rw[e1,nO];simp only[bF,Rep];exact⟨_,_,rfl,f1,aBk _ _ x⟩
def aMf:∀p∈bS,∀f∈bU p,∀g∈bU p,ltI f g=decide (pD p f<pD p g):=by decide+kernel
theorem aFv(hp:p∈bS):(bU p).Pairwise λa b=>pD p a<pD p b:=by
 rw[jP];intro i j hi hj hij;have a:=yL hp hi;have b:=yL hp hj;have ea:(bU p).getD i []=(bU p)[i]:=by simp[bV,hi]
 have eb:(bU p).getD j []=(bU p)[j]:=by simp[bV,hj]
 rw[ea] at a;rw[eb] at b;lia
theorem aEE(hp:p∈bS):(bU p).Nodup:=(aFv hp).imp λ{a b} h e=>by rw[e] at h;lia
def aIv(hp:p∈bS)(hf:f∈bU p)(hg:g∈bU p)(h:pD p f=pD p g):f=g:=by have a:=(xP hp<|lF hp hf).2.2;have b:=(xP hp<|lF hp hg).2.2;rw[<-a,<-b,h]
structure ChN(A c:List (List Int)):Prop where
 ne:c≠[]
 nd:c.Nodup
 sub:∀f∈c,f∈A
def ChN.le{A c:List (List Int)}(h:ChN A c):c.length<=A.length:=h.nd.length_le_of_subset h.sub
structure WN(A:List (List Int))(W:List (Option (List<|List Int))):Prop where
 len:W.length=A.length
 ok:∀o∈W,∀c,o=some c->ChN A c
theorem WN.wish(hp:p∈bS)(h:WN (bU p) W):rJ p W:=by refine⟨h.len,λo ho L hL=>?_⟩;have k:=h.ok o ho L hL;have f9:(bU p).length<=64:=jR hp;have:=k.le;exact⟨fC.mpr k.ne,by lia,λws hw=>lF hp<|k.sub ws hw⟩
def uP(L:List SK)(b:Int):List Nat->List Int->List Nat
 |q,[]=>q
 |q,c::cs=>if b<S45.prQ (prK L) (q++[rE L c]) then q else uP L b (q++[rE L c]) cs
theorem aEt{b:Int}(hL:0<L.length):∀ (cs:List Int) {q:List Nat},fO L q->S45.prQ (prK L) q<=b->fO L (uP L b q cs)/\S45.prQ (prK L) (uP L b q cs)<=b/\(uP L b q cs).length<=q.length+cs.length
 |[],q,h1,h2=>⟨h1,h2,aK _⟩
 |c::cs,q,h1,h2=>by
  show fO L (if b<S45.prQ (prK L) (q++[rE L c]) then q else uP L b (q++[rE L c]) cs)/\S45.prQ (prK L) (if b<S45.prQ (prK L) (q++[rE L c]) then q else uP L b (q++[rE L c]) cs)<=b/\(if b<S45.prQ (prK L) (q++[rE L c]) then q else uP L b (q++[rE L c]) cs).length<=q.length+(c::cs).length
  by_cases h:b<S45.prQ (prK L) (q++[rE L c])
  ·rw[if_pos h];exact⟨h1,h2,by lia⟩
  ·rw[if_neg h]
   obtain ⟨a1,a2,a3⟩:=aEt hL cs (fun i hi=>by
    rcases aS.mp hi with hi|hi
    ·exact h1 i hi
    ·rw[aH.mp hi]
     exact aES hL c) (Int.not_lt.mp h)
   refine⟨a1,a2,?_⟩;simp at a3 ⊢;lia
def aCJ(L:List SK)(b:Int)(ns:List Int)(st:Nat):List Nat:=uP L b []<|ns.drop st
theorem aHF{b:Int}(hL:0<L.length)(hb:0<=b)(h63:ns.length<=63)(st:Nat):fO L (aCJ L b ns st)/\S45.prQ (prK L) (aCJ L b ns st)<=b/\(aCJ L b ns st).length<=63:=by obtain⟨a1,a2,a3⟩:=aEt hL (ns.drop st) (q:=[]) (λi hi=>(nomatch hi)) hb;refine⟨a1,a2,cF a3 ?_⟩;simp;lia
def aKp:List D->R->Prop:=λds r=>∃ns st p L b,StkOk p L/\0<=b/\st<=100/\ns.length<=63/\(∀i∈ns,aKC i)/\ds=[.scr ns,.int ((st:Nat):Int),.lst<|L.map skD,.int b]/\r=.val (.tup (cS<|aCJ L b ns st))
def yR(p:Int×Int)(f:List Int)(n:Int):Option (List<|List Int):=
 if n%5=0 then none else if n%5<3 then some [f] else if n%5=3 then some ((bU p).filter λg=>decide<|g.getD (n / 5%p.2).toNat 0=f.getD (n / 5%p.2).toNat 0)
 else some ((bU p).filter λg=>decide<|g∈[f,(bU p).getD (n / 40%((bU p).length:Int)).toNat []])
def aNG:List D->R->Prop:=λds r=>∃p f n,p∈bS/\f∈bU p/\ds=[dI p,bF f,.int n]/\r=.val (wsD<|yR p f n)
def aLS(hp:p∈bS)(hf:f∈bU p)(n:Int):∀c,yR p f n=some c->ChN (bU p) c:=λc hc=>by
 unfold yR at hc
 by_cases h0:n%5=0
 ·rw[if_pos h0] at hc;cases hc
 ·rw[if_neg h0] at hc
  by_cases h1:n%5<3
  ·rw[if_pos h1] at hc;obtain rfl:=bW.inj hc;exact⟨by simp,by simp,λx hx=>by rw[aH.mp hx];exact hf⟩
  ·rw[if_neg h1] at hc
   by_cases h3:n%5=3
   ·rw[if_pos h3] at hc;obtain rfl:=bW.inj hc;have hm:f∈(bU p).filter λg=>decide (g.getD (n / 5%p.2).toNat 0=f.getD (n / 5%p.2).toNat 0):=dZ.mpr ⟨hf,by simp⟩
    exact⟨λz=>(iA<|z▸hm).elim,(aEE hp).sublist rP,λx hx=>(dZ.mp hx).1⟩
   ·rw[if_neg h3] at hc;obtain rfl:=bW.inj hc;have hm:f∈(bU p).filter λg=>decide (g∈[f,(bU p).getD (n / 40%((bU p).length)).toNat []]):=dZ.mpr ⟨hf,by simp⟩
    exact⟨λz=>(iA<|z▸hm).elim,(aEE hp).sublist rP,λx hx=>(dZ.mp hx).1⟩
noncomputable def aCL(T:List (List Int))(a:Int)(n:Int)(k:Nat):List Int:=if a%6=1 then T.getD (n / 7%(T.length:Int)).toNat [] else T.getD k []
def rZ(p:Int×Int)(T:List (List Int))(ns:List Int)(st:Nat)(t:Nat):List (Option (List<|List Int)):=(bI t).map λk=>yR p (aCL T (ns.getD st 0) (mxS (ns.getD (st+1+k) 0)<|70+k) k) (mxS (ns.getD (st+1+k) 0)<|70+k)
def aHm(p:Int×Int)(T:List (List Int))(ns:List Int)(st:Nat):List (Option (List<|List Int)):=rZ p T ns st T.length
def aNu:List D->R->Prop:=λds r=>∃p T ns st,p∈bS/\T.length=(bU p).length/\(∀f∈T,f∈bU p)/\st<=100/\ds=[.scr ns,.int ((st:Nat):Int),dI p,.tup<|T.map bF]/\r=.own ((aHm p T ns st).map wsD)
def aCW(p:Int×Int)(T:List (List Int))(ns:List Int)(st t:Nat):rZ p T ns st (t+1)=rZ p T ns st t++[yR p (aCL T (ns.getD st 0) (mxS (ns.getD (st+1+t) 0)<|70+t) t) (mxS (ns.getD (st+1+t) 0)<|70+t)]:=by unfold rZ;rw[zS,aO];rfl
theorem aEV(hT:∀f∈T,f∈bU p)(a n:Int)(hk:k<T.length):aCL T a n k∈bU p:=by
 unfold aCL
 split
 ·exact hT _<|getD_mem (gL _<|by lia).1
 ·exact hT _<|getD_mem hk
def aIM(hp:p∈bS)(hl:T.length=(bU p).length)(hT:∀f∈T,f∈bU p)(ns:List Int)(st:Nat):WN (bU p) (aHm p T ns st):=by refine⟨by unfold aHm rZ;rw[aA,eG];exact hl,λo ho c hc=>?_⟩;obtain⟨k,hk,rfl⟩:=aJ.mp ho;exact aLS hp (aEV hT _ _<|bR.mp hk) _ c hc
def aNR:List D->R->Prop:=λds r=>∃p w T,p∈bS/\rJ p w/\aCK p T/\ds=[.lst<|w.map wsD,.tup<|T.map bF]/\r=.val (.bl (vC w (bU p) T).isNone)
def doQ(p:Int×Int)(w:List (Option (List<|List Int)))(T:List (List Int)):Bool:=(vC w (bU p) T).isNone
def ftQ(p:Int×Int)(w:List (Option (List<|List Int)))(B:List Bk):Option Bk:=B.find? λe=>doQ p w e.2.2
def oeD:Option Bk->D
 |none=>.non
 |some e=>enD e
def lrD(p:Int×Int)(w:List (Option (List<|List Int)))(B:List Bk):D:=match ftQ p w B with
 |none=>.tup [.str "none",.lst<|B.map enD]
 |some e=>.tup [.str "row",.tup<|cS e.2.1,.lst<|(B.filter λx=>decide<|x.1<e.1).map enD]
def aNB:List D->R->Prop:=λds r=>∃p L b U w,p∈bS/\StkOk p L/\(L.map λs=>sqD s.1).Nodup/\FewR L b U/\rJ p w/\ds=[dI p,.lst<|L.map skD,.int b,.lst<|w.map wsD]/\r=.val (lrD p w<|bkQ p L b)
def vZ(hp:p∈bS)(S:StkOk p L)(h:fO L row):aCK p (S45.tabQ (fG p L) (bU p) row):=⟨aEY hp S h,λws hw=>lF hp<|sG hp S h ws hw⟩
def aLL{b:Int}(O:BqOk p L b B){w:List (Option (List<|List Int))}{e:Bk}(h:ftQ p w B=some e):e∈B/\doQ p w e.2.2=true/\∀row,fO L row->S45.prQ (prK L) row<=b->doQ p w (S45.tabQ (fG p L) (bU p) row)=true->kle L e.2.1 row:=by
 obtain⟨h1,as,bs,e1,h2⟩:=zN.mp h;refine⟨by rw[e1];simp,h1,λrow ho hr hd=>?_⟩;obtain⟨x,hx,x1,x2⟩:=O.all row ho hr;refine aJO ?_ x2;rw[e1] at hx
 rcases aS.mp hx with hx|hx
 ·have:=h2 x hx;rw[x1] at this;simp[hd] at this
 ·rcases aP.mp hx with rfl|hx
  ·exact .inl rfl
  ·have:=O.srt;rw[e1,aO] at this;have:=(dO.mp (eW.mp this).2.1).1;exact .inr (this x.2.1<|aJ.mpr ⟨x,hx,rfl⟩)
def aLA{b:Int}(O:BqOk p L b B){w:List (Option (List<|List Int))}(h:ftQ p w B=none):∀row,fO L row->S45.prQ (prK L) row<=b->doQ p w (S45.tabQ (fG p L) (bU p) row)=false:=λrow ho hr=>by obtain⟨x,hx,x1,x2⟩:=O.all row ho hr;have:=mY.mp h x hx;rw[x1] at this;simpa using this
def aKF(c:Int):Int×Int:=sz8L.getD (mxS c 30%8).toNat (1,1)
def aMg(c:Int):aKF c∈bS:=by
 have g8:∀p∈sz8L,p∈bS:=by decide+kernel
 exact g8 _<|getD_mem (gL _<|by decide).1
def aNE:List D->R->Prop:=λds r=>∃c,ds=[.int c]/\r=.val (dI<|aKF c)
theorem aOl{α:Type}{R:α->α->Prop}(irr:∀a,¬ R a a)(asy:∀a b,R a b->¬ R b a):∀ (A B:List α),A.Pairwise R->B.Pairwise R->(∀x,x∈A↔x∈B)->A=B
 |[],[],_,_,_=>rfl
 |[],b::B,_,_,h=>(nomatch (h b).mpr aG)
 |a::A,[],_,_,h=>(nomatch (h a).mp aG)
 |a::A,b::B,h1,h2,h=>by
  obtain⟨a1,a2⟩:=dO.mp h1;obtain⟨b1,b2⟩:=dO.mp h2
  have e:a=b:=by
   rcases aP.mp ((h a).mp aG) with e|ha
   ·exact e
   ·rcases aP.mp ((h b).mpr aG) with e|hb
    ·exact e.symm
    ·exact(asy _ _ (a1 b hb)<|b1 a ha).elim
  subst e;rw[aOl irr asy A B a2 b2 λx=>⟨λhx=>?_,λhx=>?_⟩]
  ·rcases aP.mp ((h x).mp<|aF _ hx) with rfl|hx2
   ·exact(irr _<|a1 _ hx).elim
   ·exact hx2
  ·rcases aP.mp ((h x).mpr<|aF _ hx) with rfl|hx2
   ·exact(irr _<|b1 _ hx).elim
   ·exact hx2
def aKn{a c:List Nat}(h:kle L a c)(h2:kle L c a):a=c:=by
 rcases h with h|h
 ·exact h
 ·rcases h2 with h2|h2
  ·exact h2.symm
  ·exact(wP L _<|aBG h h2).elim
theorem aBK{a c:List Nat}(h:kle L a c):S45.prQ (prK L) a<=S45.prQ (prK L) c:=by
 rcases h with rfl|h|⟨h,_⟩
 ·exact kJ _
 ·unfold rlt rkR at h;lia
 ·exact aGQ<|congrArg Prod.fst h
theorem aBS{α β:Type}{k:α->β}:∀ {l:List α}{x y:α},(l.map k).Nodup->x∈l->y∈l->k x=k y->x=y
 |[],_,_,_,h,_,_=>by cases h
 |z::l,x,y,nd,hx,hy,e=>by
  obtain⟨n1,n2⟩:=bE.mp<|nd
  rcases aP.mp hx with h1|h1<;>rcases aP.mp hy with h2|h2
  ·rw[h1,h2]
  ·exact(n1<|aJ.mpr ⟨y,h2,by rw[<-e,h1]⟩).elim
  ·exact(n1<|aJ.mpr ⟨x,h1,by rw[e,h2]⟩).elim
  ·exact aBS n2 h1 h2 e
variable {p:Int×Int}{L:List SK}{b b':Int}{B B':List Bk}
def BqOk.least(O:BqOk p L b B){e:Bk}(he:e∈B)(ho:fO L row)(hr:S45.prQ (prK L) row<=b)(ht:S45.tabQ (fG p L) (bU p) row=e.2.2):kle L e.2.1 row:=by obtain⟨x,hx,x1,x2⟩:=O.all row ho hr;have:=aBS O.nd hx he<|x1.trans ht;rw[<-this];exact x2
theorem aLD(O:BqOk p L b B)(O':BqOk p L b' B')(h:b'<=b):B'=B.filter λe=>decide (e.1<=b'):=by
 have ex:∀ {x y:Bk},x∈B->y∈B'->x.2.1=y.2.1->x=y:=λ{x y} hx hy e=>by obtain⟨_,h2,_,h4,_⟩:=O.ent x hx;obtain⟨_,g2,_,g4,_⟩:=O'.ent y hy;obtain⟨x1,x2,x3⟩:=x;obtain⟨y1,y2,y3⟩:=y;subst e;have h2:x1=_:=h2;have g2:y1=_:=g2;have h4:x3=_:=h4;have g4:y3=_:=g4;rw[h2,g2,h4,g4]
 refine aOl (R:=λx y:Bk=>klt L x.2.1 y.2.1) (λa=>wP L _) (λa c h1 h2=>wP L _<|aBG h1 h2) _ _ (cA.mp O'.srt) ((cA.mp O.srt).sublist rP) λx=>?_
 rw[dZ,decide_eq_true_iff]
 constructor
 ·intro hx;obtain⟨h1,h2,h3,h4,_⟩:=O'.ent x hx;obtain⟨y,hy,y1,y2⟩:=O.all x.2.1 h1 (by lia);obtain⟨g1,g2,g3,g4,_⟩:=O.ent y hy;have le:=aBK y2;have:=O'.least hx g1 (by lia) (by rw[<-g4,y1,h4]);have:=ex hy hx<|aKn y2 this;rw[<-this];exact⟨hy,by lia⟩
 ·rintro⟨hx,hb⟩;obtain⟨h1,h2,h3,h4,_⟩:=O.ent x hx;obtain⟨y,hy,y1,y2⟩:=O'.all x.2.1 h1 (by lia);obtain⟨g1,g2,g3,g4,_⟩:=O'.ent y hy;have:=O.least hx g1 (by lia) (by rw[<-g4,y1,h4]);rw[ex hx hy<|aKn this y2];exact hy
variable {α:Type}{hd:α->List D}{sn:α->D}
theorem aIx{p:Pos}{ps qs:List α}(hg:Gl X "sorted")(hm:X.mg "sorted"=none)(ha:PEd X sd e (.bor (ps.map<|srE hd sn)))(M:aPW X.A X.K hd sn ps rk)(hq:qs.Perm ps)(hs:(qs.map rk).Pairwise (·<·))(hst:AE [e] X.env=(false,eval e X.env)::AE [] X.env:=by rfl):PEd X sd (.Call (.Name "sorted" p) [e] [] pos) (.own (qs.map<|srE hd sn)):=
 lG (he:=hst) yB hg hm boot_sorted (aC ha aN trivial hst) λσ F H vs Q S q k=>by
  cases q with
  |cons q1 q2=>cases q2;obtain⟨p,xs,rfl,hp,rl,_⟩:=q1;refine⟨p,xs,ps,rk,rfl,hp,rl.mono S.sub,M,λl ys q2 hl h1 h2 h3=>?_⟩;have e:=List.Perm.eq_of_pairwise (λa b _ _ h1 h2=>by lia) (cA.mp h2) (cA.mp hs)<|h1.trans hq.symm;subst e;obtain⟨S2,fp,no⟩:=S.layO hl;exact k _ F _ S2 (Same.refl _) ⟨l,ys,rfl,fp,bX,h3 _ rl,no⟩
def tlt:List (List Int)->List (List Int)->Bool
 |[],[]=>false
 |[],_::_=>true
 |_::_,[]=>false
 |x::a,y::b=>if x=y then tlt a b else llt x y
theorem aNx:∀a b:List (List Int),mK (a.map bF) (b.map bF)=tlt a b
 |[],[]=>rfl
 |[],_::_=>rfl
 |_::_,[]=>rfl
 |x::a,y::b=>by
  have e:mK ((x::a).map bF) ((y::b).map bF)=if deq (bF x) (bF y)=true then mK (a.map bF) (b.map bF) else mK (x.map D.int) (y.map D.int):=rfl
  rw[e,aNx a b,sX,aHn];show _=if x=y then tlt a b else llt x y
  by_cases h:x=y
  ·rw[if_pos<|decide_eq_true h,if_pos h]
  ·rw[if_neg (by rw[decide_eq_false h];decide),if_neg h]
theorem aBl:∀a:List (List Int),tlt a a=false
 |[]=>rfl
 |x::a=>by show(if x=x then tlt a a else llt x x)=false;rw[if_pos rfl];exact aBl a
theorem rR:∀a b:List (List Int),a≠b->tlt a b=true\/tlt b a=true
 |[],[],h=>absurd rfl h
 |[],_::_,_=>.inl rfl
 |_::_,[],_=>.inr rfl
 |x::a,y::b,h=>by
  show(if x=y then tlt a b else llt x y)=true\/(if y=x then tlt b a else llt y x)=true
  by_cases e:x=y
  ·subst e;rw[if_pos rfl,if_pos rfl];exact rR a b λz=>h (by rw[z])
  ·rw[if_neg e,if_neg λz=>e z.symm];exact wF x y e
theorem aBH:∀a b c:List (List Int),tlt a b=true->tlt b c=true->tlt a c=true
 |[],[],_,h,_=>by cases h
 |[],_::_,[],_,h=>by cases h
 |[],_::_,_::_,_,_=>rfl
 |_::_,[],_,h,_=>by cases h
 |_::_,_::_,[],_,h=>by cases h
 |x::a,y::b,z::c,h1,h2=>by
  have h1:(if x=y then tlt a b else llt x y)=true:=h1;have h2:(if y=z then tlt b c else llt y z)=true:=h2;show(if x=z then tlt a c else llt x z)=true
  by_cases e1:x=y
  ·subst e1;rw[if_pos rfl] at h1
   by_cases e2:x=z
   ·subst e2;rw[if_pos rfl] at h2 ⊢;exact aBH a b c h1 h2
   ·rw[if_neg e2] at h2 ⊢;exact h2
  ·rw[if_neg e1] at h1
   by_cases e2:y=z
   ·subst e2;rw[if_neg e1];exact h1
   ·rw[if_neg e2] at h2;have h3:=uF _ _ _ h1 h2;rw[if_neg λe3=>by rw[e3,oM] at h3;cases h3];exact h3
abbrev Tp:=List (List Int)×Int
def hdT(x:Tp):List D:=x.1.map bF
def snT(x:Tp):D:=.int x.2
def aMU(ps:List Tp):List Tp:=ps.mergeSort λx y=> !tlt y.1 x.1
def rkT(ps:List Tp)(x:Tp):Nat:=(ps.filter λy=>tlt y.1 x.1).length
def xN(hx:x∈ps)(h:tlt x.1 y.1=true):rkT ps x<rkT ps y:=by
 unfold rkT
 have e:ps.filter (λz=>tlt z.1 x.1)=(ps.filter λz=>tlt z.1 y.1).filter λz=>tlt z.1 x.1:=by
  rw[aIV];refine nZ λz _=>?_
  cases q:tlt z.1 x.1 with
  |false=>rfl
  |true=>rw[aBH _ _ _ q h];rfl
 rw[e];refine qJ.mpr ⟨x,dZ.mpr ⟨hx,h⟩,?_⟩;rw[aBl];decide
def nT(ps:List Tp):(aMU ps).Perm ps:=List.mergeSort_perm ps _
def aJF{a b:List (List Int)}(h:tlt a b=true):tlt b a=false:=by
 cases q:tlt b a with
 |false=>rfl
 |true=>have:=aBH _ _ _ h q;rw[aBl] at this;cases this
def aBa(nd:(ps.map λx=>x.1).Nodup):(aMU ps).Pairwise λx y=>tlt x.1 y.1=true:=by
 have h:=List.pairwise_mergeSort (fun a b c h1 h2=>by
  show(!tlt c.1 a.1)=true;cases q:tlt c.1 a.1 with
  |false=>rfl
  |true=>
   by_cases e:a.1=b.1
   ·rw[<-e,q] at h2;cases h2
   ·rcases rR _ _ e with z|z
    ·rw[aBH _ _ _ q z] at h2;cases h2
    ·rw[z] at h1
     cases h1) (fun a b=>by
  cases q:tlt b.1 a.1 with
  |false=>rfl
  |true=>rw[aJF q];rfl) ps
 have nd2:=((nT ps).map _).nodup_iff.mpr nd;unfold List.Nodup at nd2;rw[cA] at nd2;refine(List.pairwise_and_iff.mpr ⟨h,nd2⟩).imp λ{x y} ⟨h1,h2⟩=>?_
 rcases rR _ _ h2 with z|z
 ·exact z
 ·rw[z] at h1;cases h1
def aLJ(nd:(ps.map λx=>x.1).Nodup)(h:qs.Perm ps):aMU qs=aMU ps:=by have nq:=(h.map _).nodup_iff.mpr nd;exact List.Perm.eq_of_pairwise (λx y _ _ h1 h2=>by rw[aJF h1] at h2;cases h2) (aBa nq) (aBa nd) ((nT qs).trans<|h.trans (nT ps).symm)
theorem aCo:∀a b:List (List Int),sZ (a.map bF) (b.map bF)=true
 |[],_=>rfl
 |_::_,[]=>rfl
 |x::a,y::b=>by show(sZ (x.map D.int) (y.map D.int)&&sZ (a.map bF) (b.map bF))=true;rw[tE,aCo a b];rfl
theorem aLP{K:aB}(nd:(ps.map λx=>x.1).Nodup)(hl:ps.length<=10000)(hu:A.units+8<AR):aPW A K hdT snT ps (rkT ps):=by
 have key:∀x∈ps,∀y∈ps,x.1≠y.1->rkT ps x≠rkT ps y:=λx hx y hy ne=>by
  rcases rR _ _ ne with h|h
  ·exact bC<|xN hx h
  ·exact eJ<|xN hy h
 refine⟨hl,λx hx y hy=>?_,?_,hu,λx _=>?_,λx _ y _=>?_,λx _=>?_,λF x y v h1 h2=>?_⟩
 ·have e:mK [.tup<|hdT x,snT x] [.tup<|hdT y,snT y]=if jV (x.1.map bF) (y.1.map bF)=true then mK [snT x] [snT y] else mK (x.1.map bF) (y.1.map bF):=rfl
  rw[e,wX,aNx]
  by_cases h:x.1=y.1
  ·obtain rfl:x=y:=aBS nd hx hy h;rw[if_pos<|decide_eq_true rfl,decide_eq_false<|by lia];show(if deq (snT x) (snT x)=true then false else dlt (snT x) (snT x))=false
   split
   ·rfl
   ·exact decide_eq_false<|by lia
  ·rw[if_neg<|by rw[decide_eq_false h];decide];cases q:tlt x.1 y.1 with
   |true=>exact(decide_eq_true<|xN hx q).symm
   |false=>
    refine(decide_eq_false λz=>?_).symm
    rcases rR _ _ h with w|w
    ·rw[q] at w;cases w
    ·have:=xN hy w;lia
 ·unfold List.Nodup at nd ⊢;rw[cA] at nd ⊢;exact List.Pairwise.imp_of_mem (λ{a b} ha hb h=>key a ha b hb h) nd
 ·show(plL (x.1.map bF)&&(true&&true))=true;rw[lI];rfl
 ·show(sZ (x.1.map bF) (y.1.map bF)&&(true&&true))=true;rw[aCo];rfl
 ·show max (jI (x.1.map bF)+1) (max 0 0)<=4;have:=kS x.1;lia
 ·have p1:∀z,plL [.tup<|hdT z,snT z]=true:=λz=>by show(plL (z.1.map bF)&&(true&&true))=true;rw[lI];rfl
  obtain⟨a,xs,rfl,e1,r1⟩:=h1;obtain⟨a',ys,e2,e3,r2⟩:=h2;cases e2;rw[e1] at e3;cases e3;have q:=pU (p1 x) r1 r2<|p1 y;have q:(jV (x.1.map bF) (y.1.map bF)&&(decide (x.2=y.2)&&true))=true:=q;rw[wX,bL,Bool.and_true,decide_eq_true_iff,decide_eq_true_iff] at q;exact Prod.ext q.1 q.2
noncomputable def atD(d:D)(k:Nat):D:=match d with
 |.tup l=>l.getD k .non
 |_=>.non
noncomputable def tpB(B:List Bk):List Tp:=B.map λe=>(e.2.2,e.1)
def mR(B:List Bk):List D:=(aMU<|tpB B).map<|srE hdT snT
def aJl:List D->R->Prop:=λds r=>∃B:List Bk,B.length<=700/\(B.map λe=>e.2.2).Nodup/\ds=[.lst<|B.map enD]/\r=.own (mR B)
def aBR(h:(B.map λe=>e.2.2).Nodup):((tpB B).map λx=>x.1).Nodup:=by unfold tpB;rw[aW];exact h
def aHX(h:(B.map λe=>e.2.2).Nodup)(hp:(tpB C).Perm (tpB B)):mR C=mR B:=by unfold mR;rw[aLJ (aBR h) hp]
theorem BqOk.bk(O:BqOk p L b B):BkOk p L b B:=⟨by have:=O.len; lia,fun e he=>by
 obtain⟨h1,h2,h3,h4,h5⟩:=O.ent e he
 exact⟨h2,h3,h1,by lia,h4⟩,O.nd⟩
variable {L':List SK}{C:List Bk}
def aJA(pr:Nat->Int)(row:List Nat)(k:Nat):S45.prQ pr (row++[k])=S45.prQ pr row+pr k:=by unfold S45.prQ;simp
theorem aDT(hpr:∀k,k<L.length->1<=prK L k)(O:BkOk p L b B)(h:S45.HoldsP L.length (prK L) (fG p L) b B):∀ (n:Nat) (row:List Nat),row.length=n->fO L row->S45.prQ (prK L) row<=b->∃e∈B,e.2.2=S45.tabQ (fG p L) (bU p) row/\e.1<=S45.prQ (prK L) row
 |0,row,hn,_,_=>by obtain⟨e,he,h0⟩:=h.1;obtain⟨h1,_,_,_,h5⟩:=O.ent e he;have:=aCG.mp hn;rw[this];rw[h0] at h1 h5;exact⟨e,he,h5,aGQ h1⟩
 |n+1,row,hn,ho,hb=>by
  obtain⟨r,k,rfl⟩:∃r k,row=r++[k]:=⟨row.dropLast,row.getLast (λz=>by rw[z] at hn;cases hn),(iQ _).symm⟩;have hk:=ho k (by simp);have hr:=λi hi=>ho i<|bP _ hi
  rw[aJA] at hb;have k1:=hpr k hk;obtain⟨e,he,e1,e2⟩:=aDT hpr O h n r (by simpa using hn) hr (by lia);obtain⟨e',he',g1,g2⟩:=h.2 e he k hk (by lia);refine⟨e',he',?_,?_⟩
  ·rw[g1,e1,S45.tab_snoc]
  ·rw[aJA];lia
def aNZ(h:(B.map λe=>e.2.2).Nodup):(tpB B).Nodup:=by have:=aBR h;unfold List.Nodup at this ⊢;rw[cA] at this;exact this.imp λh z=>h (by rw[z])
def aLt{A C:List α}(h1:A.Nodup)(h2:C.Nodup)(h:∀x,x∈A↔x∈C):A.Perm C:=(aAK h1 h2).mpr h
theorem aHJ(hpr:∀k,k<L.length->1<=prK L k)(O:BqOk p L b B)(OC:BkOk p L b C)(h:S45.HoldsP L.length (prK L) (fG p L) b C):(tpB C).Perm (tpB B):=by
 refine aLt (aNZ OC.nd) (aNZ O.nd) λx=>⟨λhx=>?_,λhx=>?_⟩
 ·obtain⟨e,he,rfl⟩:=aJ.mp hx;obtain⟨h1,h2,h3,_,h5⟩:=OC.ent e he;obtain⟨y,hy,y1,y2⟩:=O.all e.2.1 h3 (by lia);obtain⟨g1,g2,g3,g4,_⟩:=O.ent y hy;have:=aBK y2;obtain⟨z,hz,z1,z2⟩:=aDT hpr OC h _ y.2.1 rfl g1 (by lia);obtain rfl:z=e:=aBS OC.nd hz he (by rw[z1,<-g4,y1,h5]);refine aJ.mpr ⟨y,hy,?_⟩;have q:y.1=z.1:=by lia
  rw[q,y1,<-h5]
 ·obtain⟨y,hy,rfl⟩:=aJ.mp hx;obtain⟨g1,g2,g3,g4,_⟩:=O.ent y hy;obtain⟨z,hz,z1,z2⟩:=aDT hpr OC h _ y.2.1 rfl g1 (by lia);obtain⟨h1,h2,h3,_,h5⟩:=OC.ent z hz;have:=aBK (O.least hy h3 (by lia)<|by rw[<-h5,z1,g4]);refine aJ.mpr ⟨z,hz,?_⟩;have q:z.1=y.1:=by lia
  rw[q,z1,<-g4]
theorem FewR.less(F:FewR L b U)(h:b'<=b):FewR L b' U:=⟨F.len,F.rl,λrow ho hr=>F.all row ho<|by lia⟩
theorem aOO(B:List Bk):plL (mR B)=true/\jI (mR B)<=3:=by
 unfold mR;generalize aMU (tpB B)=T;refine⟨xD (srE hdT snT) (λx=>?_) T,uI (srE hdT snT) 3 (λx=>?_) T⟩
 ·show(plL (x.1.map bF)&&(true&&true))=true;rw[lI];rfl
 ·show max (jI (x.1.map bF)+1) (max 0 0)+1<=3;have:=kS x.1;lia
variable {M:List SK}{w:List (Option (List (List Int)))}
variable {e1 e2 b c tg iter o:Expr}{es:List Expr}{r ra rb:R}{d d':D}{ds ls:List D}{st:CD}{rest:List CD}{E:jJ}
theorem aLa(ha:PEd X sd a (.val<|.tup ds))(hb:PEd X sd b (.val<|.int i))(hd:atI ds i=some d)(hs:oK b):PEd X sd (.Subscript a b pos) (.val d):=.mk λσ F H S=>
 (aHe aKc fH fH hs).to ((ha σ F H S).imp fun v H1 ⟨F1,S1,s1,q1⟩=>(hb σ F1 H1 S1).imp fun u H2 ⟨F2,S2,s2,q2⟩=>by
  have q1:=Rep.mono s2 q1;obtain⟨p,xs,e1,hp,rl⟩:=q1;obtain⟨w,hw,rw'⟩:=rl.atI hd
  exact⟨p,xs,i,w,e1,q2,.of (S2.sub _ _ hp),hw,F2,S2,s1.trans s2,rw'⟩)
variable {b m:Int}{as bs:List Bk}{e:Bk}
def aPo(o:Option Bk):isN (oeD o)=o.isNone:=by cases o<;>rfl
def aKJ:List D->R->Prop:=λds r=>∃p L b B w,p∈bS/\StkOk p L/\BkOk p L b B/\rJ p w/\ds=[dI p,.lst<|B.map enD,.lst<|w.map wsD]/\r=.val (oeD<|ftQ p w B)
def qM(p:Int×Int)(L:List SK)(n:Nat)(c:Int):List Bk:=mW c (nD p L (decide<|c%2=1) n).1
def aKf:List D->R->Prop:=λds r=>∃p L c U,∃n:Nat,p∈bS/\StkOk p L/\n<=41/\FewR L ((n:Int)-1) U/\ds=[dI p,.lst<|L.map skD,.int<|(n:Int)-1,.int c]/\r=.own ((qM p L n c).map enD)
def aNN:List D->R->Prop:=λds r=>∃p L b B w,p∈bS/\StkOk p L/\(L.map λs=>sqD s.1).Nodup/\BkOk p L b B/\0<=b/\rJ p w/\ds=[dI p,.lst<|L.map skD,.int b,.lst<|w.map wsD,.lst<|B.map enD]/\r=.val (.bl<|aQm p L b B&&(ftQ p w B).isNone)
theorem aRd{n:Nat}{c:Int}(hp:p∈bS)(S:StkOk p L)(F:FewR L ((n:Int)-1) U)(h:∀row,fO L row->S45.prQ (prK L) row<=(n:Int)-1->doQ p w (S45.tabQ (fG p L) (bU p) row)=false):BkOk p L ((n:Int)-1) (qM p L n c)/\(∀e∈qM p L n c,doQ p w e.2.2=false)/\(tpB<|qM p L n c).Perm (tpB (bkQ p L<|(n:Int)-1))/\(n=0->qM p L n c=[])/\(0<n->S45.HoldsP L.length (prK L) (fG p L) ((n:Int)-1) (qM p L n c)):=by
 cases n with
 |zero=>
  have e:qM p L 0 c=[]:=rfl;have O:=uJ hp S F
  have eb:=List.eq_nil_iff_forall_not_mem.mpr λx hx=>by
   obtain⟨x1,x2,x3,_⟩:=O.ent x hx;have:=wO (pr:=prK L) x.2.1 λk hk=>(S.st _ (getD_mem<|x1 k hk)).2.1
   lia
  exact⟨⟨bM _,(λx hx=>nomatch hx),dS⟩,(λx hx=>nomatch hx),.refl _,λ_=>rfl,λz=>absurd z<|dH _⟩
 |succ b=>
  have eb:((b+1:Nat))-1=(b:Int):=by lia
  rw[eb] at F h ⊢;obtain⟨OC,HC,_⟩:=aHS hp S F;have e:qM p L (b+1) c=qY p L b c:=rfl;refine⟨OC,λx hx=>?_,aHJ S.pr (uJ hp S F) OC HC,λz=>by lia,λ_=>HC⟩;obtain⟨x1,x2,x3,_,x5⟩:=OC.ent x hx;rw[x5];exact h _ x3<|by lia
def aNr{us:List α}(h:us.length=n+1):∃a r,us=a::r/\r.length=n:=by
 cases us with
 |nil=>cases h
 |cons a r=>exact⟨a,r,rfl,aKr.inj h⟩
def aSh{us:List α}(h:us.length=1):∃a,us=[a]:=by obtain⟨a,r,rfl,h2⟩:=aNr h;exact⟨a,by rw[cI h2]⟩
def aRU{us:List α}(h:us.length=2):∃a b,us=[a,b]:=by obtain⟨a,r,rfl,h2⟩:=aNr h;obtain⟨b,rfl⟩:=aSh h2;exact⟨a,b,rfl⟩
def aRX{us:List α}(h:us.length=3):∃a b c,us=[a,b,c]:=by obtain⟨a,r,rfl,h2⟩:=aNr h;obtain⟨b,c,rfl⟩:=aRU h2;exact⟨a,b,c,rfl⟩
def aSj{us:List α}(h:us.length=4):∃a b c d,us=[a,b,c,d]:=by obtain⟨a,r,rfl,h2⟩:=aNr h;obtain⟨b,c,d,rfl⟩:=aRX h2;exact⟨a,b,c,d,rfl⟩
def len5{us:List α}(h:us.length=5):∃a b c d e,us=[a,b,c,d,e]:=by obtain⟨a,r,rfl,h2⟩:=aNr h;obtain⟨b,c,d,e,rfl⟩:=aSj h2;exact⟨a,b,c,d,e,rfl⟩
variable {e:Expr}{p:Pos}{E:jJ}{x:Str}
def pdv(i:Nat)(hs:sd[i]? =some (.val d):=by rfl)(h:PE X (.Name x pos) (kU i):=by exact pv _):PEd X sd (.Name x pos) (.val d):=oF i hs h
def gO(i:Nat)(h:PEd X sd e (.val d))(hE:E.nx (sd.set i<|.val d))(hN:X.N.Nodup:=by assumption)(hi:X.N[i]? =some x:=by rfl)(hx:Loc X.env.scope x:=by first|exact Or.inl rfl|exact Or.inr rfl)(hs:Af e (some<|.Name x p) pos.line X.env=pure false:=by rfl)(hf:X.fn x=true\/X.env.scope.names.lookup x=some .local:=by first|exact .inl rfl|exact .inr rfl|assumption):PSd1 X sd (.Assign [.Name x p] e pos) E:=jS i hN hi hx h hE hs hf
def pH(i:Nat)(h:PEd X sd e (.own ds))(hE:∀l,E.nx (sd.set i<|.own l ds))(hN:X.N.Nodup:=by assumption)(hi:X.N[i]? =some x:=by rfl)(hx:Loc X.env.scope x:=by first|exact Or.inl rfl|exact Or.inr rfl)(hs:Af e (some<|.Name x p) pos.line X.env=pure false:=by rfl)(hf:X.fn x=true\/X.env.scope.names.lookup x=some .local:=by first|exact .inl rfl|exact .inr rfl|assumption):PSd1 X sd (.Assign [.Name x p] e pos) E:=sK i hN hi hx h hE hs hf
def pgn(i:Nat)(hN:X.N.Nodup:=by assumption)(hi:X.N[i]? =some x:=by rfl)(hx:Loc X.env.scope x:=by first|exact Or.inl rfl|exact Or.inr rfl)(hf:X.fn x=true\/X.env.scope.names.lookup x=some .local:=by first|exact .inl rfl|exact .inr rfl|assumption):PG X (.Name x pos) (aDI i):=aEs hN hi hx hf
abbrev tN(l:List Nat):D:=.tup<|cS l
abbrev lK(L:List SK):D:=.lst<|L.map skD
abbrev tL(l:List (List Int)):D:=.lst<|l.map bF
abbrev rtE(r:R):jJ:={nx:=λ_=>r=.val .non,rt:=λr'=>r'=r}
theorem uN(r:Room k A)(n:Nat)(h:n<=8:=by decide):A.units+n<AR:=by have:=r.un;lia
def NB:R->Prop
 |.bor _=>False
 |_=>True
def iL(h:PEd X sd e r)(hE:E.rt r:=by rfl)(hr:NB r:=by trivial):PSd1 X sd (.Return (some e) pos) E:=cW h (by cases r<;>first|trivial|exact hr) hE
def aMZ{x:List CD}(h:PTd X sd c false)(k:PSd X sd rest E):PSd X sd (.If c x [] pos::rest) E:=aI (fM h rfl<|cM k)
def pdc{C:List D->R->Prop}(G:bA X.prog X.w X.K X.mg X.base x k n C)(hr:Room j X.A)(ha:PAd X sd (e::es) (ds.map R.val))(hc:C ds r)(hj:k<=j:=by decide)(hg:Gl X x:=by rfl)(hb:NB r:=by trivial)(hn:ds.length=n:=by rfl)(hdb:(x==("__debug__":Str))=false:=by decide) (he:AE (e::es) X.env=(false,eval e X.env)::AE es X.env:=by rfl) (hpl:(BH pos<|AE es X.env).any (·.1)=false:=by rfl):PEd X sd (.Call (.Name x p) (e::es) [] pos) r:=aMB G (hr.mono hj) hg ha hc (by cases r<;>first|trivial|exact hb) hn hdb he hpl
def pdx{n j:Nat}(ha:PEd X sd a (.val<|.tup ds))(hd:ds[n]? =some d:=by rfl):PEd X sd (.Subscript a (.Constant (.int (n:Int)) j p1) pos) (.val d):=rG ha bO hd λ_ _=>rfl
def pdT(h:PAd X sd es (ds.map R.val))(hl:ds.length<=1000:=by exact iX rfl):PEd X sd (.Tuple es x1 pos) (.val<|.tup ds):=aEe h hl
def pdL(h:PAd X sd es (ds.map R.val))(hl:ds.length<=1000:=by exact iX rfl):PEd X sd (.List es pos) (.own ds):=pO h hl
def pgN(i:Nat)(hN:X.N.Nodup:=by assumption)(hi:X.N[i]? =some x:=by rfl)(hx:Loc X.env.scope x:=by first|exact Or.inl rfl|exact Or.inr rfl)(hf:X.fn x=true\/X.env.scope.names.lookup x=some .local:=by first|exact .inl rfl|exact .inr rfl|assumption):PGd X sd (.Name x pos) d (sd.set i<|.val d):=aHI i<|aEs hN hi hx hf
def nxt{P:List Slot->Prop}{a b:List Slot}(h:P b)(l:Le a b:=by repeat' (first|exact trivial|refine⟨.inr rfl,?_⟩|refine⟨.inl rfl,?_⟩)):∃s,Le a s/\P s:=⟨b,l,h⟩
def pdC{N M:List Str}{sc:Scope}{Tb:D->List Slot}(p:D->Bool)(f:D->D)(hi:PId X (unO sd) PT0 tg iter ds) (hl:ds.length<=1000)(ht:∀cl C fp s H d,d∈ds->(ifs=[]/\p d=true)\/∃c,ifs=[c]/\PTd (cxB X N scope cl C fp s H) (Tb d) c (p d))(he:∀cl C fp s H d,d∈ds->p d=true->PEd (cxB X N scope cl C fp s H) (Tb d) elt (.val<|f d))(hg:∀cl C fp s H d,d∈ds->PGd (cxB X N scope cl C fp s H) (tH cap sd) tg d (Tb d):=by exact λ_ _ _ _ _ _ _=>pgN 0)(hle:∀d,d∈ds->Le (Tb d) (tH cap sd):=by intro _ _;repeat' (first|exact trivial|refine⟨.inr rfl,?_⟩|refine⟨.inl rfl,?_⟩))(hsc:X.env.scope=sc:=by rfl) (hcn:qG scope sc=true:=by decide+kernel) (hM:X.N=M:=by rfl) (hcap:nX N M scope sc cap=true:=by decide+kernel) (hk:scope.kind=.function:=by rfl)(hc:X.calm=true:=by rfl) (hs:∀x,BP iter X.env x=pure x:=by intro _;rfl):PEd X sd (.ListComp elt [⟨tg,iter,ifs,0⟩] scope pos) (.own<|(ds.filter p).map f):=iZ p f hi hl hsc hcn hM hcap hk hg hle ht he hc hs
def cG{w:AL}{K:aB}{N ps:List Str}{C:List D->R->Prop}(F:FI K mg x st)(body:∀ (f:BZ),N.Nodup→∀ (cdv:BX) (A:CA) (outer:List Env) (s:BY) (H:Hp) (E:XK),Room k (A.deeper (envOfC x (bN st) s.heap.objs.size f cdv))→∀ds r,ds.length=ps.length→C ds r→PSd (mJ CX0 P w K mg base N x (bN st) f cdv A outer s H E).nox (init N.length ds) (gU st) {nx:=λ_=>r=.val .non,rt:=λr'=>r'=r})
  (nd:N.Nodup:=by decide+kernel) (S:N.Nodup->oN N ps (bN st):=by exact λnd=>⟨rfl,rfl,rfl,nd,rfl,by decide+kernel,by decide+kernel⟩)
  (hb:∀ (kV doc pm:BX) (an:Option BZ) (cdv ct:BX) (us:List BX),us.length=ps.length→bindArgs (fV x x (lE st) (gU st) (bN st) .none kV doc pm an cdv ct) ⟨us,[]⟩=pure (ps.zip us):=by
   intro _ _ _ _ _ _ _ h
   first
   |(obtain⟨_,rfl⟩:=aSh h;rfl)
   |(obtain⟨_,_,rfl⟩:=aRU h;rfl)
   |(obtain⟨_,_,_,rfl⟩:=aRX h;rfl)
   |(obtain⟨_,_,_,_,rfl⟩:=aSj h;rfl)
   |(obtain⟨_,_,_,_,_,rfl⟩:=len5 h;rfl)
   |(obtain⟨_,_,_,_,_,_,rfl⟩:=len6 h;rfl)):bA P w K mg base x (k+1) ps.length C:=by
 obtain⟨f,fd,hm,F⟩:=F;exact aPl F (S nd) hm hb<|body f nd
end DL
set_option maxHeartbeats 400000
namespace K57
open PySem PySem.Spec PyProof.Rows L2 DL
noncomputable def top(i:Nat):CD:=PySem.Challenge.pw_leastrow_k57_whole_by_its_own_search.main.body.getD i<|.Pass ⟨0,0,0,0⟩
abbrev aJg:CD:=top 4
abbrev aJT:CD:=top 5
abbrev aDM:CD:=top 6
abbrev aNy:CD:=top 7
abbrev aSm:CD:=top 8
abbrev aFq:CD:=top 11
abbrev aCD:CD:=top 12
abbrev aCB:CD:=top 13
abbrev aBW:CD:=top 15
abbrev aEW:CD:=top 14
abbrev aQq:CD:=top 18
abbrev aEm:CD:=top 19
abbrev aKU:CD:=top 20
abbrev aSq:CD:=top 21
abbrev sFd:CD:=top 22
abbrev aDU:CD:=top 23
abbrev aKD:CD:=top 24
abbrev aNH:CD:=top 29
abbrev aBe:CD:=top 26
abbrev aEj:CD:=top 27
abbrev aNM:CD:=top 30
abbrev aRS:CD:=top 32
abbrev aEl:CD:=top 34
abbrev aRR:CD:=top 31
abbrev aRQ:CD:=top 33
abbrev aEa:CD:=top 35
abbrev aOp:CD:=top 37
abbrev aOf:CD:=top 38
abbrev sFt:CD:=top 40
abbrev sLr:CD:=top 41
abbrev aOh:CD:=top 42
abbrev aFb:CD:=top 44
abbrev aJM:CD:=top 45
abbrev aEg:CD:=top 46
abbrev aJj:CD:=top 47
abbrev aRT:CD:=top 48
abbrev aDW:CD:=top 50
abbrev aSi:CD:=top 53
abbrev aNs:CD:=top 49
abbrev aMX:CD:=top 51
abbrev aSu:CD:=top 52
abbrev aQG:CD:=top 55
abbrev aQt:CD:=top 54
abbrev aQp:CD:=top 57
abbrev aHj:CD:=top 58
abbrev aOo:CD:=top 59
abbrev aRZ:CD:=top 60
abbrev aKy:CD:=top 61
abbrev aQn:CD:=top 62
abbrev yY:CD:=top 63
variable {P:AF}{w:AL}{K:aB}{mg:Str->Option BX}{base:CB}{f:BZ}{fd:Al}
def aJR:List D->R->Prop:=λds r=>∃d,ds=[d]/\(Unit->∃i,d=.int i)/\r=.val (.bl true)
def aHv(F:FI K mg "is_whole" aJg)(zisinstance:mg "isinstance"=none)(zint:mg "int"=none)(zbool:mg "bool"=none):bA P w K mg base "is_whole" 1 1 aJR:=by
 refine cG (N:=["thing"]) (ps:=["thing"]) F λf nd cdv A outer s H E hr ds r hl c=>?_
 obtain⟨d,rfl,hd,rfl⟩:=c;obtain⟨i,rfl⟩:=hd ();exact aX<|cW (PEd.cast (rH (aEC rfl zisinstance rfl zint PyProof.Rows.boot_int (pdv 0) (λ_=>by simp) (aLi _<|.int i)) λ_=>rC (aPj<|aEC rfl zisinstance rfl zbool PyProof.Rows.boot_bool (pdv 0) (λ_=>by simp) (aHu _<|.int i))) rfl) trivial rfl
theorem aPZ(h:u+n<c)(hd:d+1<=n):u+d+1<c:=by lia
def aNJ(q:SQ):pl (sqD q)=true:=by
 show pl (jT _ _ _ _)=true;unfold jT
 split
 ·rfl
 ·split<;>rfl
def aOq(q:SQ):dep (sqD q)=1:=by
 show dep (jT _ _ _ _)=1;unfold jT
 split
 ·rfl
 ·split<;>rfl
theorem aFi{α:Type}(g:α->D)(h:∀a,pl (g a)=true):∀l:List α,plL (l.map g)=true
 |[]=>rfl
 |a::l=>by show(pl (g a)&&plL (l.map g))=true;rw[h a,aFi g h l];rfl
theorem aBX{α:Type}(g:α->D)(n:Nat)(h:∀a,dep (g a)<=n):∀l:List α,jI (l.map g)<=n
 |[]=>bM _
 |a::l=>Nat.max_le.mpr ⟨h a,aBX g n h l⟩
def aBJ:List D->R->Prop:=λds r=>∃p:Int×Int,ds=[dI p]/\0<=p.1/\p.1<=60/\r=.val (.int<|2^p.1.toNat)
theorem aHw(F:FI K mg "word_count" aJT)(zrange:mg "range"=none):bA P w K mg base "word_count" 1 1 aBJ:=by
 refine cG (N:=["size","count","bit"]) (ps:=["size"]) F λf nd cdv A outer s H E hr ds r hl c=>?_
 obtain⟨p,rfl,h0,h1,rfl⟩:=c;have ep:p.1=((p.1.toNat)):=by lia
 refine aI<|jS 1 nd rfl (Or.inl rfl) bO ?_;refine aI<|vX (λk=>[.val<|dI p,.val (.int<|2^k),.un]) (λk=>[.val<|dI p,.val (.int<|2^k),.val (.int<|0+(k))]) (jF rfl zrange (PEd.cast (pdx<|pdv 0)<|by rw[<-ep])<|by omega) ⟨.inr rfl,.inr rfl,.inr rfl,trivial⟩ (λi d hd=>?_) (λi d hd=>?_) ?_
 ·obtain⟨_,rfl⟩:=iU hd;exact pgN 2
 ·refine aX<|jS 1 nd rfl (Or.inl rfl) (cN jB (pdv 1) bO (aKM (by decide)<|by decide)) ?_;exact⟨.inr rfl,.inr rfl,.inl rfl,trivial⟩
 ·refine aX<|cW (pdv 1) trivial ?_;rw[gJ]
def aOk:List D->R->Prop:=λds r=>∃ (L:List (List Int)) (m:Nat),ds=[.lst<|L.map bF,.int (m:Int)]/\L.length*m<=900/\m<=64/\(∀s∈L,s.length<=100)/\r=.own ((L.flatMap λs=>(bI m).map λ(w:Nat)=>s++[(w:Int)]).map bF)
abbrev nl0:List Str:=["starts","count","longer","start"]
theorem aMF(F:FI K mg "with_each_word" aDM)(zrange:mg "range"=none):bA P w K mg base "with_each_word" 1 2 aOk:=by
 refine cG (N:=nl0) (ps:=["starts","count"]) F λf nd cdv A outer s H E hr ds r hl c=>?_
 obtain⟨L,m,rfl,hL,hm64,hs,rfl⟩:=c;have nd2:(["word","start"]:List Str).Nodup:=by decide+kernel
 refine aI<|sK 2 nd rfl (Or.inl rfl) (pO (ds:=[]) aN<|bM _) λl=>?_;refine aI<|vX (λk=>[.val<|tL L,.val (.int<|m),.own l<|((L.take k).flatMap λs=>(bI m).map λ(w:Nat)=>s++[(w:Int)]).map bF,.un]) (λk=>[.val<|tL L,.val (.int<|m),.own l<|((L.take k).flatMap λs=>(bI m).map λ(w:Nat)=>s++[(w:Int)]).map bF,.val (bF<|L.getD k [])]) (fK<|pdv 0) ⟨.inr rfl,.inr rfl,.inr rfl,.inr rfl,trivial⟩ (λk d hd=>?_) (λk d hd=>?_) ?_
 ·obtain⟨_,rfl⟩:=nJ hd;exact pgN 3
 ·obtain⟨hk,rfl⟩:=nJ hd;have hmem:L.getD k []∈L:=getD_mem hk
  have et:L.take (k+1)=L.take k++[L.getD k []]:=by simp[bV,hk]
  have lk:=by
   have h1:(L.take k).length+1<=L.length:=by rw[cT];lia
   have h2:=rN m h1;rw[aGN] at h2;omega
  have comp:∀ {pos:Pos},PEd (mJ CX0 P w K mg base nl0 "with_each_word" (bN aDM) f cdv A outer s H E).nox [.val<|tL L,.val (.int<|m),.own l<|((L.take k).flatMap λs=>(bI m).map λ(w:Nat)=>s++[(w:Int)]).map bF,.val (bF<|L.getD k [])] (match(gU aDM).getD 1 (.Pass ⟨0,0,0,0⟩) with | .For _ _ [.Expr (.Call _ [c] _ _) _] _ _=>c|_=> .Constant .none 0 ⟨0,0,0,0⟩) (.own (((kR 0 m).filter λ_=>true).map λd=>D.tup<|(L.getD k []).map D.int++[d])):=λ{pos}=>by
   refine pdC (M:=nl0) (cap:=[none,some 3]) (sc:=bN aDM) (λ_=>true) (λd=>D.tup<|(L.getD k []).map D.int++[d]) (jF rfl zrange (pdv 1)<|by lia) (by rw[gJ];lia) (λcl C fp s H d _=>.inl ⟨rfl,rfl⟩) λcl C fp s H d _ _=>?_
   refine mD (pdv 1) (pdT<|aC (pdv 0) aN) ?_;have:=hs _ hmem;simp only[aA,bZ,iP];lia
  have ec:((kR 0 m).filter λ_=>true).map (λd=>D.tup<|(L.getD k []).map D.int++[d])=((bI m).map λ(w:Nat)=>L.getD k []++[(w:Int)]).map bF:=by
   rw[cB.mpr λ_ _=>rfl];unfold kR;rw[aW,aW];refine bQ λw _=>?_
   simp[bF]
  refine aX<|xF 2 rfl (pv 2) (PEd.val<|comp (pos:=⟨0,0,0,0⟩)) ?_ ?_
  ·rw[aA,pF,ec,aA,aA,eG];lia
  ·refine⟨.inr rfl,.inr rfl,.inr ?_,.inl rfl,trivial⟩;rw[et,ec,aGW,aO];simp
 ·refine aX<|mH 2 rfl (pv 2) ?_;rw[aA,dA]
def aDK:List D->R->Prop:=λds r=>∃p,p∈bS/\ds=[dI p]/\r=.own ((iV (2^p.1.toNat) p.2.toNat).map bF)
theorem aLu(F:FI K mg "fillings" aNy)(zrange:mg "range"=none)(GC:bA P w K mg base "word_count" 1 1 aBJ)(GE:bA P w K mg base "with_each_word" 1 2 aOk):bA P w K mg base "fillings" 2 1 aDK:=by
 refine cG (N:=["size","count","told","box"]) (ps:=["size"]) F λf nd cdv A outer s H E hr ds r hl c=>?_
 obtain⟨p,hp,rfl,rfl⟩:=c;obtain⟨h1,h2,h3,h4,h5⟩:=yN p hp;have e2:p.2=((p.2.toNat)):=by lia
 have m64:2^p.1.toNat<=64:=by
  have:p.1.toNat<=6:=by lia
  exact cF (rM (by decide) this)<|by decide
 have ec:(2)^p.1.toNat=((2^p.1.toNat:Nat):Int):=by push_cast;rfl
 refine aI<|jS 1 nd rfl (Or.inl rfl) (pdc GC hr (aC (pdv 0) aN) ⟨p,rfl,by lia,by lia,rfl⟩) ?_;refine aI<|pH (ds:=[bF []]) 2 (pdL (ds:=[bF []])<|aC (aEe (ds:=[]) aN<|bM _) aN) λl=>?_;refine aI<|fE (ds:=kR 0 p.2.toNat) (λk sd=>∃l,sd=[.val<|dI p,.val (.int<|2^p.1.toNat),.own l<|(iV (2^p.1.toNat) k).map bF,.un]) (jF rfl zrange (PEd.cast (pdx<|pdv 0)<|by rw[<-e2])<|by omega) ⟨_,Le.refl _,l,rfl⟩ (λk d sdk hd hk=>?_) λsdn hn=>?_
 ·obtain⟨hk2,rfl⟩:=iU hd;obtain⟨l2,rfl⟩:=hk;refine⟨[.val<|dI p,.val (.int<|2^p.1.toNat),.own l2<|(iV (2^p.1.toNat) k).map bF,.val (.int<|0+(k))],pgN 3,?_⟩;refine iO 2 rfl ?_;refine aX (sK 2 nd rfl (Or.inl rfl) (pdc GE hr (aC (pdv 2)<|aC (PEd.cast (pdv 1)<|by rw[ec]) aN) ⟨iV (2^p.1.toNat) k,2^p.1.toNat,rfl,?_,m64,λs hs=>?_,rfl⟩) λl3=>?_)
  ·rw[rV];exact aAk p hp k hk2
  ·rw[yA _ _ s hs];lia
  ·exact⟨[.val<|dI p,.val (.int<|2^p.1.toNat),.own l3<|(iV (2^p.1.toNat)<|k+1).map bF,.un],⟨.inr rfl,.inr rfl,.inr rfl,.inl rfl,trivial⟩,l3,rfl⟩
 ·rw[gJ] at hn;obtain⟨l2,rfl⟩:=hn;exact aX<|mH 2 rfl (pv 2) rfl
def aRV:List D->R->Prop:=λds r=>∃ (p:Int×Int) (ws:List Int),ds=[dI p,bF ws]/\0<=p.1/\p.1<=60/\r=.val (.int<|vP (2^p.1.toNat) ws)
theorem aOB(F:FI K mg "number_of" aSm)(GC:bA P w K mg base "word_count" 1 1 aBJ):bA P w K mg base "number_of" 2 2 aRV:=by
 refine cG (N:=["size","filling","count","number","word"]) (ps:=["size","filling"]) F λf nd cdv A outer s H E hr ds r hl c=>?_
 obtain⟨p,ws,rfl,h0,h1,rfl⟩:=c
 have b1: -(2^64)<(2)^p.1.toNat/\(2:Int)^p.1.toNat<2^64:=by
  have h3:p.1.toNat<=60:=by lia
  have h4:2^p.1.toNat<=2^60:=rM (by decide) h3;have h5:(2)^p.1.toNat=((2^p.1.toNat:Nat):Int):=by push_cast;rfl
  rw[h5];have h6:(2)^60=1152921504606846976:=by decide
  generalize 2^p.1.toNat=q at h4 ⊢;lia
 refine aI<|jS 2 nd rfl (Or.inl rfl) (pdc GC hr (aC (pdv 0) aN) ⟨p,rfl,h0,h1,rfl⟩) ?_;refine aI<|jS 3 nd rfl (Or.inl rfl) bO ?_;refine aI<|vX (λk=>[.val<|dI p,.val<|bF ws,.val (.int<|2^p.1.toNat),.val<|.int (vP (2^p.1.toNat)<|ws.take k),.un]) (λk=>[.val<|dI p,.val<|bF ws,.val (.int<|2^p.1.toNat),.val<|.int (vP (2^p.1.toNat)<|ws.take k),.val (.int<|ws.getD k 0)]) (lD<|pdv 1) ⟨.inr rfl,.inr rfl,.inr rfl,.inr rfl,.inr rfl,trivial⟩ (λk d hd=>?_) (λk d hd=>?_) ?_
 ·obtain⟨_,rfl⟩:=aCg hd;exact pgN 4
 ·obtain⟨hk,rfl⟩:=aCg hd
  have et:ws.take (k+1)=ws.take k++[ws.getD k 0]:=by simp[bV,hk]
  refine aX<|jS 3 nd rfl (Or.inl rfl) (fP gK (cN jB (pdv 3) (pdv 2)<|aKM b1.1 b1.2)<|pdv 4) ?_;refine⟨.inr rfl,.inr rfl,.inr rfl,.inr ?_,.inl rfl,trivial⟩;rw[et];unfold vP;rw[iW];rfl
 ·refine aX<|cW (pdv 3) trivial ?_;rw[aA,dA]
def aEL:List D->R->Prop:=λds r=>∃ (k:Nat) (m a:Int),ds=[.str<|nm k,.int m,.int a]/\7<=k/\k<10/\0<m/\r=.val (.int<|aNA k m a)
theorem aGj(F:FI K mg "word_by_itself" aFq):bA P w K mg base "word_by_itself" 1 3 aEL:=by
 refine cG (N:=["name","count","word"]) (ps:=["name","count","word"]) F λf nd cdv A outer s H E hr ds r hl c=>?_
 obtain⟨k,m,a,rfl,h7,h10,hm0,rfl⟩:=c;refine aI<|fR (cQ (pdv 0) dG rfl rfl rfl<|aBT k h10) (λh=>?_) λh=>cM ?_
 ·have:=by simpa using h
  subst this;exact aX<|iL (fP pG (fP pG (pdv 1) bO)<|pdv 2)
 have n7:=by simpa using h
 refine aI<|fR (cQ (pdv 0) dG rfl rfl rfl<|aHf k h10) (λh=>?_) λh=>cM ?_
 ·have:=by simpa using h
  subst this;exact aX (iL<|cN fB (cN jB (pdv 2) bO (aKM (by decide)<|by decide)) (pdv 1) hm0)
 have n8:=by simpa using h
 have:k=9:=by lia
 subst this;exact aX (iL<|cN aMc (pdv 2) bO ⟨by decide,by decide⟩)
def aCC:List D->R->Prop:=λds r=>∃ (k:Nat) (m a c:Int),ds=[.str<|nm k,.int m,.int a,.int c]/\k<6/\0<m/\r=.val (.int<|aGZ k m a c)
theorem aCX(F:FI K mg "word_by_another" aCD):bA P w K mg base "word_by_another" 1 4 aCC:=by
 refine cG (N:=["name","count","word","other"]) (ps:=["name","count","word","other"]) F λf nd cdv A outer s H E hr ds r hl c=>?_
 obtain⟨k,m,a,c,rfl,h6,hm0,rfl⟩:=c;have h10:k<10:=by lia
 refine aI<|fR (cQ (pdv 0) dG rfl rfl rfl<|aDP k h10) (λh=>?_) λh=>cM ?_
 ·have:=by simpa using h
  subst this;exact aX<|iL (fP aJW (pdv 2)<|pdv 3)
 have n0:=by simpa using h
 refine aI<|fR (cQ (pdv 0) dG rfl rfl rfl<|aKW k h10) (λh=>?_) λh=>cM ?_
 ·have:=by simpa using h
  subst this;exact aX<|iL (fP aNv (pdv 2)<|pdv 3)
 have n1:=by simpa using h
 refine aI<|fR (cQ (pdv 0) dG rfl rfl rfl<|aEd k h10) (λh=>?_) λh=>cM ?_
 ·have:=by simpa using h
  subst this;exact aX<|iL (fP aJD (pdv 2)<|pdv 3)
 have n2:=by simpa using h
 refine aI<|fR (cQ (pdv 0) dG rfl rfl rfl<|aDR k h10) (λh=>?_) λh=>cM ?_
 ·have:=by simpa using h
  subst this;exact aX (iL<|cN fB (fP gK (pdv 2)<|pdv 3) (pdv 1) hm0)
 have n3:=by simpa using h
 refine aI<|fR (cQ (pdv 0) dG rfl rfl rfl<|aAZ k h10) (λh=>?_) λh=>cM ?_
 ·have:=by simpa using h
  subst this;exact aX (iL<|cN fB (fP pG (pdv 2)<|pdv 3) (pdv 1) hm0)
 have n4:=by simpa using h
 have:k=5:=by lia
 subst this;exact aX (iL<|pdv 3)
structure aQi(p:Int×Int)(k:Nat)(i j n:Int)(ws:List Int):Prop where
 sz:p∈bS
 k10:k<10
 i0:0<=i/\i<p.2
 j0:0<=j/\j<p.2
 n0:0<=n/\n<((2^p.1.toNat:Nat):Int)
 len:ws.length=p.2.toNat
 wd:∀w∈ws,0<=w/\w<((2^p.1.toNat:Nat):Int)
def aNp(p:Int×Int)(k:Nat)(i j n:Int)(ws:List Int):Int:=newW k ((2^p.1.toNat:Nat):Int) (ws.getD i.toNat 0) (ws.getD j.toNat 0) n
def aCk:List D->R->Prop:=λds r=>∃p k i j n ws,aQi p k i j n ws/\ds=[dI p,jT k i j n,bF ws]/\r=.val (.int<|aNp p k i j n ws)
theorem aPe(n:Nat):(0:Int)<((2^n:Nat):Int):=by have:0<2^n:=Nat.pow_pos (by decide);generalize 2^n=q at this ⊢;lia
theorem aJI{ws:List Int}(h:ws.length=n)(h1:i<(n:Int))(h0:0<=i):(ws.map D.int)[i.toNat]? =some (.int<|ws.getD i.toNat 0):=by
 have:i.toNat<ws.length:=by lia
 simp[bV,this]
theorem aDz(F:FI K mg "new_word" aCB)(byself:∃ad,mg "BY_ITSELF"=some (.ref ad)/\∀H:Hp,SqT K H ad [V.str "not",V.str "up",V.str "down"])(GC:bA P w K mg base "word_count" 1 1 aBJ)(GI:bA P w K mg base "word_by_itself" 1 3 aEL)(GA:bA P w K mg base "word_by_another" 1 4 aCC):bA P w K mg base "new_word" 2 3 aCk:=by
 refine cG (N:=["size","step","filling","name","word"]) (ps:=["size","step","filling"]) F λf nd cdv A outer s H E hr ds r hl c=>?_
 obtain⟨p,k,i,j,n,ws,O,rfl,rfl⟩:=c;obtain⟨h1,h2,h3,h4,h5⟩:=yN p O.sz;have hm0:=aPe p.1.toNat;have ec:(2)^p.1.toNat=((2^p.1.toNat:Nat):Int):=by push_cast;rfl
 obtain⟨ad,hB,hq⟩:=byself;have ai:=aJI O.len (by have:=O.i0.2;lia) O.i0.1;have aj:=aJI O.len (by have:=O.j0.2;lia) O.j0.1
 by_cases k6:k<6
 ·have es:jT k i j n=.tup [.str<|nm k,.int i,.int j]:=by unfold jT;rw[if_pos k6]
  rw[es];refine aI<|jS 3 nd rfl (Or.inl rfl) (pdx<|pdv 1) ?_;refine aI (fM (cQ (pdv 3) dG rfl rfl rfl<|uW k O.k10) (by simp;lia)<|cM ?_);refine aI<|jS 4 nd rfl (Or.inl rfl) (mS (pdv 2) (pdx<|pdv 1) O.i0.1 ai λ_ _=>rfl) ?_;refine aI (fM (aFg rfl hB (λH=>hq H) (pdv 3) rfl rfl rfl) (by rw[aFx k O.k10];simp;lia)<|cM ?_);refine aX<|cW (pdc GA hr (aC (pdv 3)<|aC (PEd.cast (pdc GC hr (aC (pdv 0) aN) ⟨p,rfl,by lia,by lia,rfl⟩)<|by rw[ec]) (aC (pdv 4)<|aC (mS (pdv 2) (pdx<|pdv 1) O.j0.1 aj λ_ _=>rfl) aN)) ⟨k,_,_,_,rfl,k6,hm0,rfl⟩) trivial ?_;unfold aNp newW;rw[if_neg<|by lia,if_neg<|by lia]
 ·by_cases k6':k=6
  ·subst k6';have es:jT 6 i j n=.tup [.str<|nm 6,.int i,.int n]:=rfl;refine aI<|jS 3 nd rfl (Or.inl rfl) (pdx<|pdv 1) ?_;refine aI<|iE (cQ (pdv 3) dG rfl rfl rfl<|uW 6 O.k10) rfl ?_;exact aX<|iL (pdx<|pdv 1)
  ·have es:jT k i j n=.tup [.str<|nm k,.int i]:=by unfold jT;rw[if_neg k6,if_neg k6']
   rw[es];refine aI<|jS 3 nd rfl (Or.inl rfl) (pdx<|pdv 1) ?_;refine aI (fM (cQ (pdv 3) dG rfl rfl rfl<|uW k O.k10) (by simp;omega)<|cM ?_);refine aI<|jS 4 nd rfl (Or.inl rfl) (mS (pdv 2) (pdx<|pdv 1) O.i0.1 ai λ_ _=>rfl) ?_;refine aI<|iE (aFg rfl hB (λH=>hq H) (pdv 3) rfl rfl rfl) (by rw[aFx k O.k10];simp;lia) ?_;refine aX<|cW (pdc GI hr (aC (pdv 3) (aC (PEd.cast (pdc GC hr (aC (pdv 0) aN) ⟨p,rfl,by lia,by lia,rfl⟩)<|by rw[ec])<|aC (pdv 4) aN)) ⟨k,_,_,rfl,by lia,O.k10,hm0,rfl⟩) trivial ?_;unfold aNp newW;rw[if_neg k6',if_pos<|by lia]
def aCs:List D->R->Prop:=λds r=>∃k i j n,ds=[jT k i j n]/\r=.val (.int i)
def aLI(k:Nat)(i j n:Int):∃es,jT k i j n=.tup (.str (nm k)::.int i::es):=by
 unfold jT
 split
 ·exact⟨_,rfl⟩
 ·split
  ·exact⟨_,rfl⟩
  ·exact⟨_,rfl⟩
def aDA(F:FI K mg "written_box" aBW):bA P w K mg base "written_box" 1 1 aCs:=by
 refine cG (N:=["step"]) (ps:=["step"]) F λf nd cdv A outer s H E hr ds r hl c=>?_
 obtain⟨k,i,j,n,rfl,rfl⟩:=c;obtain⟨es,e⟩:=aLI k i j n;rw[e];exact aX<|iL (pdx<|pdv 0)
def aSv(p:Int×Int)(k:Nat)(i j n:Int)(ws:List Int):List Int:=ws.set i.toNat<|aNp p k i j n ws
def aEX:List D->R->Prop:=λds r=>∃p k i j n ws,aQi p k i j n ws/\ds=[dI p,jT k i j n,bF ws]/\r=.val (bF<|aSv p k i j n ws)
theorem uS(ws:List Int)(h:i<ws.length):DL.cutD (ws.map D.int) none (some (i:Int))=(ws.take i).map D.int:=by
 unfold DL.cutD;have h1:HT.sIx (ws.map D.int).length 0 none=0:=rfl
 have h2:HT.sIx (ws.map D.int).length (ws.map D.int).length (some<|i)=i:=by rw[HT.sIx_nat,aA];lia
 rw[h1,h2];simp
theorem sT(ws:List Int)(h:i<ws.length):DL.cutD (ws.map D.int) (some<|(i:Int)+1) none=(ws.drop<|i+1).map D.int:=by
 unfold DL.cutD;have e:((i)+1)=((i+1:Nat):Int):=by push_cast;rfl
 have h1:HT.sIx (ws.map D.int).length 0 (some<|(i)+1)=i+1:=by rw[e,HT.sIx_nat,aA];lia
 have h2:HT.sIx (ws.map D.int).length (ws.map D.int).length none=ws.length:=by rw[HT.sIx_none,aA]
 rw[h1,h2,jZ,eZ<|by rw[gN,aA];omega]
theorem aFY(F:FI K mg "step_on" aEW)(GB:bA P w K mg base "written_box" 1 1 aCs)(GN:bA P w K mg base "new_word" 2 3 aCk):bA P w K mg base "step_on" 3 3 aEX:=by
 refine cG (N:=["size","step","filling","box"]) (ps:=["size","step","filling"]) F λf nd cdv A outer s H E hr ds r hl c=>?_
 obtain⟨p,k,i,j,n,ws,O,rfl,rfl⟩:=c;obtain⟨h1,h2,h3,h4,h5⟩:=yN p O.sz;have li:i.toNat<ws.length:=by have:=O.i0;rw[O.len];lia
 have ei:i=((i.toNat)):=by have:=O.i0;lia
 have l6:ws.length<=6:=by rw[O.len];lia
 refine aI<|gO (d:=.int<|(i.toNat)) 3 (PEd.cast (pdc GB hr (aC (pdv 1) aN) ⟨k,i,j,n,rfl,rfl⟩)<|by rw[<-ei]) ?_;refine aX<|cW (PEd.cast (mD (mD (aBF (ol:=none) (oh:=some<|(i.toNat)) (pdv 2) trivial (pdv 3) ?_) (pdT (ds:=[.int<|aNp p k i j n ws])<|aC (pdc GN hr (aC (pdv 0) (aC (pdv 1)<|aC (pdv 2) aN)) ⟨p,k,i,j,n,ws,O,rfl,rfl⟩) aN) ?_) (aBF (ol:=some<|((i.toNat))+1) (oh:=none) (pdv 2) (fP gK (pdv 3) bO) trivial ?_) ?_) ?_) trivial rfl
 ·rw[HT.sIx_nat,aA];lia
 ·rw[uS ws li];simp only[aA,cT,bZ,iP];lia
 ·have e:(((i.toNat))+1)=((i.toNat+1:Nat):Int):=by push_cast;rfl
  rw[e,HT.sIx_nat,aA];lia
 ·rw[uS ws li,sT ws li];simp only[aV,aA,cT,gN,bZ,iP];lia
 ·rw[uS ws li,sT ws li];unfold bF aSv;rw[uX,if_pos li];simp
def aOw(O:rA p q)(G:Fil p ws):aQi p q.1 q.2.1 q.2.2.1 q.2.2.2 ws:=⟨O.sz,O.k10,O.i0,O.j0,O.n0,G.len,G.wd⟩
theorem aHH(F:FI K mg "numbers_of_step" aQq)(ztuple:mg "tuple"=none)(GN:bA P w K mg base "number_of" 2 2 aRV)(GS:bA P w K mg base "step_on" 3 3 aEX)(GF:bA P w K mg base "fillings" 2 1 aDK):bA P w K mg base "numbers_of_step" 4 2 aRW:=by
 have nd2:(["filling","size","step"]:List Str).Nodup:=by decide+kernel
 refine cG (N:=["size","step"]) (ps:=["size","step"]) F λf nd cdv A outer s H E hr ds r hl c=>?_
 obtain⟨p,q,hp,O,rfl,rfl⟩:=c;have f9:(bU p).length<=64:=jR hp;obtain⟨h1,h2,h3,h4,h5⟩:=yN p hp
 have ec:(((bU p).map bF).filter λ_=>true).map (λd=>D.int<|(pD p (onQ p q<|kQ d)))=cS (jA p q):=by
  rw[cB.mpr λ_ _=>rfl];unfold cS jA;rw[aW,aW];refine bQ λg _=>?_
  show D.int ((pD p<|onQ p q (kQ<|bF g)))=_;rw[iT];rfl
 refine aX (iL<|kP rfl ztuple (PEd.bor<|PEd.val (PEd.cast (iZ (ds:=(bU p).map bF) (N:=["filling","size","step"]) (M:=["size","step"]) (cap:=[none,some 0,some 1]) (sc:=bN aQq) (λ_=>true) (λd=>D.int<|(pD p (onQ p q<|kQ d))) (fK (PEd.val<|pdc GF hr (aC (pdv 0) aN) ⟨p,hp,rfl,rfl⟩)) (by rw[aA];lia) rfl (by decide+kernel) rfl (by decide+kernel) rfl (λcl C fp s H d hd=>pgN 0) (λd hd=>⟨.inl rfl,.inr rfl,.inr rfl,trivial⟩) (λcl C fp s H d hd=>.inl ⟨rfl,rfl⟩) λcl C2 fp s H d hd _=>?_)<|by rw[ec])));obtain⟨g,hg,rfl⟩:=tR hd;rw[iT];have G:=lF hp hg;have e:=(xP hp<|aBb O G).1;exact pdc (ds:=[dI p,bF<|onQ p q g]) GN hr (aC (pdv 1)<|aC (pdc GS hr (aC (pdv 1) (aC (pdv 2)<|aC (pdv 0) aN)) ⟨p,_,_,_,_,g,aOw O G,rfl,rfl⟩) aN) ⟨p,_,rfl,by lia,by lia,by rw[e]⟩
theorem aDt(F:FI K mg "moves_of" aEm)(GN:bA P w K mg base "numbers_of_step" 4 2 aRW):bA P w K mg base "moves_of" 5 2 aEk:=by
 have nd2:(["step","price","size"]:List Str).Nodup:=by decide+kernel
 refine cG (N:=["size","stock"]) (ps:=["size","stock"]) F λf nd cdv A outer s H E hr ds r hl c=>?_
 obtain⟨p,L,hp,S,dn,rfl,rfl⟩:=c;have l8:=S.le
 have ec:((L.map skD).filter λ_=>true).map (λd=>mvD p<|xW L d)=L.map (mvD p):=by
  rw[cB.mpr λ_ _=>rfl,aW];refine bQ λs hs=>?_
  show mvD p (xW L<|skD s)=_;rw[yW dn hs]
 refine aX<|cW (PEd.cast (iZ (N:=["step","price","size"]) (M:=["size","stock"]) (cap:=[none,none,some 0]) (sc:=bN aEm) (Tb:=λd=>[.val<|sqD (xW L d).1,.val<|.int (xW L d).2,.val<|dI p]) (λ_=>true) (λd=>mvD p<|xW L d) (fK<|pdv 1) (by rw[aA];lia) rfl (by decide+kernel) rfl (by decide+kernel) rfl (λcl C fp s H d hd=>?_) (λd hd=>⟨.inl rfl,.inl rfl,.inr rfl,trivial⟩) (λcl C fp s H d hd=>.inl ⟨rfl,rfl⟩) λcl C2 fp s H d hd _=>?_)<|by rw[ec]) trivial rfl
 ·obtain⟨z,hz,rfl⟩:=aJ.mp hd;rw[yW dn hz];exact iD (js:=[0,1]) rfl (cR (pgn 0)<|cR (pgn 1) iC) rfl rfl
 ·obtain⟨z,hz,rfl⟩:=aJ.mp hd;rw[yW dn hz];exact pdT (aC (pdv 1)<|aC (pdc GN hr (aC (pdv 2)<|aC (pdv 0) aN) ⟨p,z.1,hp,(S.st z hz).1,rfl,rfl⟩) aN)
theorem aGm(F:FI K mg "numbers_behind" aKU)(ztuple:mg "tuple"=none):bA P w K mg base "numbers_behind" 1 2 aHg:=by
 have nd2:(["number","other"]:List Str).Nodup:=by decide+kernel
 refine cG (N:=["one","other"]) (ps:=["one","other"]) F λf nd cdv A outer s H E hr ds r hl c=>?_
 obtain⟨one,other,h1,h2,rfl,rfl⟩:=c
 have ec:((cS one).filter λ_=>true).map (λd=>match d with | .int i=>D.int ((other.getD i.toNat 0))|_=>.non)=cS (hX other one):=by rw[cB.mpr λ_ _=>rfl];unfold cS hX;rw[aW,aW];rfl
 refine aX (iL<|kP rfl ztuple (PEd.bor<|PEd.val (PEd.cast (iZ (N:=["number","other"]) (M:=["one","other"]) (cap:=[none,some 1]) (sc:=bN aKU) (λ_=>true) (λd=>match d with | .int i=>D.int ((other.getD i.toNat 0))|_=>.non) (lD<|pdv 0) (by rw[pP];lia) rfl (by decide+kernel) rfl (by decide+kernel) rfl (λcl C fp s H d hd=>pgN 0) (λd hd=>⟨.inl rfl,.inr rfl,trivial⟩) (λcl C fp s H d hd=>.inl ⟨rfl,rfl⟩) λcl C2 fp s H d hd _=>?_)<|by rw[ec])));obtain⟨i,hi,rfl⟩:=aJ.mp hd;exact rG (pdv 1) (pdv 0) (aOA<|h2 i hi) λ_ _=>rfl
abbrev nl1:List Str:=["waiting","moves","bound","rank","row","numbers","place","move","price","longer"]
theorem aIp(F:FI K mg "put_longer_rows" aSq)(zenumerate:mg "enumerate"=none)(GB:bA P w K mg base "numbers_behind" 1 2 aHg):wL P w K (wtL P w K) mg base "put_longer_rows" 2 6 aSt:=by
 obtain⟨f,fd,hm,F⟩:=F;have nd:nl1.Nodup:=by decide+kernel
 refine aMs (ps:=["waiting","moves","bound","rank","row","numbers"]) F ⟨rfl,rfl,rfl,nd,rfl,by decide+kernel,by decide+kernel⟩ hm (λ_ _ _ _ _ _ us hl=>match us,hl with | [_,_,_,_,_,_],_=>rfl) (λcdv A outer s H E B hB hr a ds post hl c=>?_)<|aHZ P w K;obtain⟨p,L,b,r,row,nb,hp,L9,hnb,r9,ndT,hT,rfl,rfl⟩:=c;have hu:=uN hr 4;have f9:(bU p).length<=64:=jR hp;refine aX<|fE (λt sd=>∃a':Wt,a'.l=a.l/\a'.T=lgQ p L b r row nb t a.T/\sd=[wtS P w K a',.val<|.lst (L.map<|mvD p),.val<|.int b,.val<|.tup [.int r.1,.int r.2],.val (.tup<|cS row),.val (.tup<|cS nb),.un,.un,.un,.un]) (aCq rfl zenumerate<|pdv 1) ⟨_,Le.refl _,a,rfl,rfl,rfl⟩ (λt d sdt hd ht=>?_) λsdn hn=>?_
 ·obtain⟨x,hx,rfl⟩:=uM hd;obtain⟨a',el,eT,rfl⟩:=ht
  have tl:=by have:=(aE.mp hx).1;simpa using this
  have ex:x=mvD p (L.getD t AN):=by rw[aY,dN tl] at hx;rw[<-bW.inj hx];simp[bV,tl]
  subst ex;have es:lgQ p L b r row nb (t+1) a.T=if r.1+(L.getD t AN).2<=b then kX (lgQ p L b r row nb t a.T) (r.1+(L.getD t AN).2,r.2+1) (nP (row++[t],hX (jA p (L.getD t AN).1) nb)) else lgQ p L b r row nb t a.T:=rfl
  have ndt:=aHr (p:=p) (L:=L) (b:=b) (r:=r) (row:=row) (nb:=nb) ndT t;have tt:=aJU (p:=p) (L:=L) (b:=b) (r:=r) (row:=row) (nb:=nb) (T:=a.T) t;rw[<-eT] at es ndt tt;obtain⟨pl0,pl1⟩:=hnb;generalize L.getD t AN=m at es;refine⟨[wtS P w K a',.val<|.lst (L.map<|mvD p),.val<|.int b,.val<|.tup [.int r.1,.int r.2],.val (.tup<|cS row),.val (.tup<|cS nb),.val (.int<|t),.val<|mvD p m,.un,.un],iD (js:=[6,7]) rfl (cR (pgn 6)<|cR (pgn 7) iC) rfl rfl,?_⟩;refine aI<|gO 8 (fP gK (pdx<|pdv 3) (pdx<|pdv 7)) ?_;refine aX<|fR (nC aDJ (pdv 8) (pdv 2)<|gR _) (λq=>?_) λq=>cM ?_
  ·rw[if_pos<|of_decide_eq_true q] at es;have e1:cS row++[.int<|t]=cS (row++[t]):=by unfold cS;rw[aO];rfl
   refine aI<|gO (d:=p2D<|nP (row++[t],hX (jA p m.1) nb)) 9 (PEd.cast (pdT (ds:=[.tup (cS<|row++[t]),.tup (cS<|hX (jA p m.1) nb)]) (aC (PEd.cast (mD (pdv 4) (pdT (ds:=[.int<|t])<|aC (pdv 6) aN)<|by unfold cS;rw[aA];show _+1<=1000;lia)<|by rw[e1])<|aC (pdc GB hr (aC (pdv 5)<|aC (pdx<|pdv 7) aN) ⟨nb,jA p m.1,by lia,λi hi=>by rw[aBm];exact pl1 i hi,rfl,rfl⟩) aN))<|by rw[aQK]) ?_;generalize nP (row++[t],hX (jA p m.1) nb)=y at es;refine aX<|aGi (k:=rkK (r.1+m.2,r.2+1)) 0 (by show(A.deeper _).units+1<AR;lia) rfl (pv 0) (PEd.cast (pdT (aC (pdv 8)<|aC (fP gK (pdx<|pdv 3) bO) aN)) rfl) (λz=>oF 9 rfl<|pv 9) (by have:=aLq a'.T;unfold wtD;rw[aA];lia) (λds hd=>by have:=aMb ds hd;lia) (λn ds hk hd=>?_) λhk a9=>?_
   ·obtain⟨k1,k2⟩:=xM y ndt hk hd;refine⟨[wtS P w K ⟨a'.l,a'.ls,kX a'.T (r.1+m.2,r.2+1) y⟩,.val<|.lst (L.map<|mvD p),.val<|.int b,.val<|.tup [.int r.1,.int r.2],.val (.tup<|cS row),.val (.tup<|cS nb),.un,.un,.un,.un],⟨.inr ?_,.inr rfl,.inr rfl,.inr rfl,.inr rfl,.inr rfl,.inl rfl,.inl rfl,.inl rfl,.inl rfl,trivial⟩,⟨a'.l,a'.ls,kX a'.T (r.1+m.2,r.2+1) y⟩,el,es.symm,rfl⟩;unfold wtS;rw[k1,k2];rfl
   ·have k1:=zH y hk;refine⟨[wtS P w K ⟨a'.l,a'.ls++[a9],kX a'.T (r.1+m.2,r.2+1) y⟩,.val<|.lst (L.map<|mvD p),.val<|.int b,.val<|.tup [.int r.1,.int r.2],.val (.tup<|cS row),.val (.tup<|cS nb),.un,.un,.un,.un],⟨.inr ?_,.inr rfl,.inr rfl,.inr rfl,.inr rfl,.inr rfl,.inl rfl,.inl rfl,.inl rfl,.inl rfl,trivial⟩,⟨a'.l,a'.ls++[a9],kX a'.T (r.1+m.2,r.2+1) y⟩,el,es.symm,rfl⟩;unfold wtS;rw[k1];unfold wtK wtD;rw[aO,aO];rfl
  ·rw[if_neg<|of_decide_eq_false q] at es;exact⟨[wtS P w K a',.val<|.lst (L.map<|mvD p),.val<|.int b,.val<|.tup [.int r.1,.int r.2],.val (.tup<|cS row),.val (.tup<|cS nb),.un,.un,.un,.un],⟨.inr rfl,.inr rfl,.inr rfl,.inr rfl,.inr rfl,.inr rfl,.inl rfl,.inl rfl,.inl rfl,.inr rfl,trivial⟩,a',el,es.symm,rfl⟩
 ·obtain⟨a',el,eT,rfl⟩:=hn;refine⟨a',⟨el,?_⟩,rfl⟩;rw[eT,pW,aA]
abbrev nl2:List Str:=["moves","bound","start","waiting","known","found","rank","ready","row","numbers"]
theorem aDa(F:FI K mg "found_rows" sFd)(zlen:mg "len"=none)(zmin:mg "min"=none)(zlist:mg "list"=none)(zsorted:mg "sorted"=none)(hmt:∃t,mg "MOST_TABLES"=some (.int 500 t))(GP:wL P w K (wtL P w K) mg base "put_longer_rows" 2 6 aSt):bA P w K mg base "found_rows" 3 3 aJv:=by
 obtain⟨tm,hmt⟩:=hmt;refine cG (N:=nl2) (ps:=["moves","bound","start"]) F λf nd cdv A outer s H E hr ds r hl c=>?_
 obtain⟨p,L,b,U,hp,S0,FU,rfl,rfl⟩:=c;have hu8:=uN hr 8;have hu4:=uN hr 4;have hu2:=uN hr 2;have hu1:=uN hr 1;have hpr:=S0.pr;have l8:=S0.le;have u4:=FU.len;refine aI<|aGg 3 nd rfl (Or.inl rfl) λl3=>?_;refine aHi (K:=∀ls T,(fd0 p b).T=T->PSd _ [.val<|.lst (L.map<|mvD p),.val<|.int b,.val (tN<|st0 p),wtS P w K ⟨l3,ls,T⟩,.un,.un,.un,.un,.un,.un] _ _) (λkey=>aI (fR (nC aNW (pdv 1) bO<|gR _) (λq=>?_) λq=>cM<|key [] [] (if_neg<|of_decide_eq_false q))) λls T e0=>?_
 ·refine aX<|aIN 3 hu1 rfl (pv 3) (pdL (ds:=[p2D<|nP ([],st0 p)])<|aC (PEd.cast (pdT (ds:=[tN [],tN<|st0 p]) (aC (pdT aN)<|aC (pdv 2) aN))<|by rw[aQK]) aN) (λz=>nomatch z) (iX rfl) λa=>?_;exact key [a] [((0,0),[nP ([],st0 p)])] (if_pos<|of_decide_eq_true q)
 subst e0;refine aI<|rS (hkT P w) 4 nd rfl (Or.inl rfl) λl4=>?_;refine aI<|pH 5 (pdL (ds:=[]) aN) λl5=>?_;refine aI<|aGd (λm sd=>∃S dn r ls,Wk p L b dn r [] S/\U.length<dn.length+m/\mE p L b m S=mE p L b 401 (fd0 p b)/\sd=[.val<|.lst (L.map<|mvD p),.val<|.int b,.val (tN<|st0 p),wtS P w K ⟨l3,ls,S.T⟩,oG (hkT P w) K l4 (S.kn.map jE)<|S.kn.map λ_=>.bl true,.own l5<|S.fd.map fdD,.un,.un,.un,.un]) ⟨401,_,Le.refl _,fd0 p b,[],(0,0),ls,wk0 p L b,by simp;lia,rfl,rfl⟩ λm sdm hw=>?_;obtain⟨S,dn,r,ls,W,hU,hR,rfl⟩:=hw;refine⟨decide<|(0)<((wtK S.T).length:Int),nC aKT (aLQ 3 rfl zlen rfl<|pv 3) bO<|gR _,λq=>?_,λq=>?_⟩
 ·have e:S.T=[]:=by have:=of_decide_eq_false q;unfold wtK at this;rw[aA] at this;exact cI (by lia)
  have e2:mE p L b m S=S:=by
   cases m with
   |zero=>rfl
   |succ m=>exact if_pos e
  have e3:bkF p L b=S.fd:=by unfold bkF;rw[<-hR,e2]
  rw[e3];exact aX<|mH 5 rfl (pv 5) rfl
 ·have hne:S.T≠[]:=λz=>by rw[z] at q;cases q
  obtain⟨t,ht,hm,tnd,tne,W1,eT,W2⟩:=W.turn hpr hne;obtain⟨M,t',g1,g2,g3,g4,_⟩:=aOS (X:=(mJ CX0 P w K mg base nl2 "found_rows" (bN sFd) f cdv A outer s H E).nox) hu4 hne;have et:=(bW.inj<|g1.symm.trans ht).symm;subst et
  have tl:t.2.length<=10000:=by have:=W.few FU;have h1:=(iI t.2).length_eq;have h2:=W1.few FU;lia
  refine aI<|gO 6 (aLM rfl zmin (PEd.bor<|PEd.val (aIa 3 rfl zlist rfl<|pv 3)) M g2) ?_;refine aI<|aIl 3 7 (fS S.T) hu1 rfl zsorted rfl (pv 3) (PEd.cast (pdv 6) rfl) g3 g4 (aOK tnd tl hu8) nd rfl (Or.inl rfl) λl7 qs qp qw=>iO 7 rfl ?_;have eq:=aLh tnd qp qw;subst eq;have ek:wtK (S.T.eraseIdx<|fS S.T)=(wtK S.T).eraseIdx (fS S.T):=by unfold wtK;rw[dP,dP,aO,oB,jZ]
  have ed:wtD (S.T.eraseIdx<|fS S.T)=(wtD S.T).eraseIdx (fS S.T):=by unfold wtD;rw[dP,dP,aO,oB,jZ]
  have e5:odG P w K l3 ((wtK S.T).eraseIdx<|fS S.T) (ls.eraseIdx<|fS S.T) ((wtD S.T).eraseIdx<|fS S.T)=wtS P w K ⟨l3,ls.eraseIdx<|fS S.T,S.T.eraseIdx<|fS S.T⟩:=by unfold wtS;rw[ek,ed]
  refine aBO (sd':=[.val<|.lst (L.map<|mvD p),.val<|.int b,.val (tN<|st0 p),wtS P w K ⟨l3,ls.eraseIdx<|fS S.T,({S with T:=S.T.eraseIdx (fS S.T)}:FdS).T⟩,oG (hkT P w) K l4 (({S with T:=S.T.eraseIdx (fS S.T)}).kn.map jE)<|({S with T:=S.T.eraseIdx (fS S.T)}).kn.map λ_=>.bl true,.own l5<|({S with T:=S.T.eraseIdx (fS S.T)}).fd.map fdD,.val<|rkD t.1,.val (.lst<|(kA t.2).map p2D),.un,.un]) ⟨.inr rfl,.inr rfl,.inr rfl,.inr e5,.inr rfl,.inr rfl,.inr rfl,.inr rfl,.inr rfl,.inr rfl,trivial⟩ ?_
  have hR2:∃m',m=m'+1/\mE p L b m' (fdT p L b S)=mE p L b 401 (fd0 p b):=by
   cases m with
   |zero=>have:=W.few FU;lia
   |succ m'=>have e6:mE p L b (m'+1) S=mE p L b m' (fdT p L b S):=if_neg hne;exact⟨m',rfl,by rw[<-e6];exact hR⟩
  obtain⟨m',rfl,hR2⟩:=hR2
  have tpos:0<(kA t.2).length:=by rw[(iI t.2).length_eq];exact fC.mpr tne
  rw[eT] at hR2 W2;clear hR e5 ek ed g1 g2 g3 g4 M qp qw eT;generalize ({S with T:=S.T.eraseIdx (fS S.T)})=S1 at W1 W2 hR2;generalize ls.eraseIdx (fS S.T)=ls1;refine aX<|fE (λj sd=>∃S' ls,S'=fdP p L b t.1 S1 ((kA t.2).take j)/\sd=[.val<|.lst (L.map<|mvD p),.val<|.int b,.val (tN<|st0 p),wtS P w K ⟨l3,ls,S'.T⟩,oG (hkT P w) K l4 (S'.kn.map jE)<|S'.kn.map λ_=>.bl true,.own l5<|S'.fd.map fdD,.val<|rkD t.1,.val (.lst<|(kA t.2).map p2D),.un,.un]) (fK<|pdv 7) ⟨_,Le.refl _,S1,ls1,rfl,rfl⟩ (λj d sdj hd hj=>?_) λsdn hn=>?_
  ·obtain⟨S',ls2,eS,rfl⟩:=hj;obtain⟨y,hy,rfl,ey⟩:=lM hd;have jl:=(aE.mp hy).1;have Wj:=W1.take hpr j (by lia);have Wj1:=W1.take hpr (j+1) (by omega);rw[ey,xY,<-eS] at Wj1;rw[<-eS] at Wj;have eS1:fdP p L b t.1 S1 ((kA t.2).take<|j+1)=fdI p L b t.1 S' (unP y):=by rw[ey,xY,<-eS]
   obtain⟨row,rfl,ro,er,rb⟩:=W1.rs y<|aQ hy;rw[eS1];rw[aOb] at Wj1 ⊢;have rU:=FU.rl _ (FU.all _ ro<|by rw[er] at rb;exact rb);have nbo:=(vG hp (λs hs=>(S0.st s hs).1) ro).1;have f1:=Wj.fdl FU;have f2:=Wj1.fdl FU;have tt:=Wj.tot FU;have okj:=Wj.ok
   have kl:S'.kn.length<=400:=by rw[okj.kn,aA];exact f1
   have dy:p2D (itP p L row)=.tup [tN row,tN<|nrQ p L row]:=aQK _;rw[dy];clear Wj Wj1 eS1 ey hy hd eS dy;refine⟨[.val<|.lst (L.map<|mvD p),.val<|.int b,.val (tN<|st0 p),wtS P w K ⟨l3,ls2,S'.T⟩,oG (hkT P w) K l4 (S'.kn.map jE)<|S'.kn.map λ_=>.bl true,.own l5<|S'.fd.map fdD,.val<|rkD t.1,.val (.lst<|(kA t.2).map p2D),.val<|tN row,.val (tN<|nrQ p L row)],iD (js:=[8,9]) rfl (cR (pgn 8)<|cR (pgn 9) iC) rfl rfl,?_⟩
   have inj:decide (nrQ p L row∈S'.kn)=true↔jE (nrQ p L row)∈S'.kn.map jE:=by
    rw[decide_eq_true_iff]
    constructor
    ·exact λh=>aJ.mpr ⟨_,h,rfl⟩
    ·intro h;obtain⟨e,e1,e2⟩:=aJ.mp h;rw[<-sI e2];exact e1
   refine aHi (K:=∀S2 ls3,S2=fdI p L b t.1 S' (row,nrQ p L row)->PSd _ [.val<|.lst (L.map<|mvD p),.val<|.int b,.val (tN<|st0 p),wtS P w K ⟨l3,ls3,S2.T⟩,oG (hkT P w) K l4 (S2.kn.map jE)<|S2.kn.map λ_=>.bl true,.own l5<|S2.fd.map fdD,.val<|rkD t.1,.val (.lst<|(kA t.2).map p2D),.val<|tN row,.val (tN<|nrQ p L row)] _ _) (λkey=>aI (fR (aCt inj hu2 (PEd.cast (pdv 9)<|by rw[show(hkT P w).dat (jE<|nrQ p L row)=tD (jE<|nrQ p L row) from rfl,oE]) (aBg 4 rfl<|pv 4)) (λq=>?_) λq=>cM<|key S' ls2 (if_pos<|by simpa using q).symm)) λS2 ls3 e2=>?_
   ·have nk:nrQ p L row∉S'.kn:=by simpa using q
    refine aI<|sJ 4 hu2 rfl (pv 4) yX (PEd.cast (pdv 9)<|by rw[show(hkT P w).dat (jE<|nrQ p L row)=tD (jE<|nrQ p L row) from rfl,oE]) (λz=>nk (of_decide_eq_true<|inj.mpr z)) (by rw[aA];lia) ?_;refine aI<|oR (d:=fdD (t.1.1,row,nrQ p L row)) 5 rfl (pv 5) (pdT<|aC (pdx<|pdv 6) (aC (pdv 8)<|aC (pdv 9) aN)) (by rw[aA];lia) ?_;refine aX<|aGc 3 rfl (pv 3) GP hr rfl (aC (pdv 0) (aC (pdv 1)<|aC (pdv 6) (aC (pdv 8)<|aC (pdv 9) aN))) ⟨p,L,b,t.1,row,nrQ p L row,hp,by lia,nbo,by lia,okj.nk,by show tot S'.T+_<=_;lia,rfl,rfl⟩ (λa' h=>h.1) rfl λa' h=>?_;obtain⟨al,als,aT⟩:=a';obtain⟨h1,h2⟩:=h;have h1:al=l3:=h1;have h2:aT=lgQ p L b t.1 row (nrQ p L row) L.length S'.T:=h2;subst h1 h2;have k:=key ⟨lgQ p L b t.1 row (nrQ p L row) L.length S'.T,S'.kn++[nrQ p L row],S'.fd++[(t.1.1,row,nrQ p L row)]⟩ als (if_neg nk).symm;simp only[aO,bG,gH] at k;exact k
   ·rw[<-e2] at f2;refine aX (fM (nC aKT (mU rfl zlen (aEH 5 rfl<|pv 5)) (aIs rfl hmt ⟨tm,rfl⟩)<|gR _) (decide_eq_false<|by rw[aA];lia)<|cM ?_);exact⟨[.val<|.lst (L.map<|mvD p),.val<|.int b,.val (tN<|st0 p),wtS P w K ⟨l3,ls3,S2.T⟩,oG (hkT P w) K l4 (S2.kn.map jE)<|S2.kn.map λ_=>.bl true,.own l5<|S2.fd.map fdD,.val<|rkD t.1,.val (.lst<|(kA t.2).map p2D),.un,.un],⟨.inr rfl,.inr rfl,.inr rfl,.inr rfl,.inr rfl,.inr rfl,.inr rfl,.inr rfl,.inl rfl,.inl rfl,trivial⟩,S2,ls3,e2,rfl⟩
  ·obtain⟨S',ls3,eS,rfl⟩:=hn;rw[aA,dA] at eS;subst eS;exact⟨m',[.val<|.lst (L.map<|mvD p),.val<|.int b,.val (tN<|st0 p),wtS P w K ⟨l3,ls3,(fdP p L b t.1 S1<|kA t.2).T⟩,oG (hkT P w) K l4 ((fdP p L b t.1 S1<|kA t.2).kn.map jE)<|(fdP p L b t.1 S1<|kA t.2).kn.map λ_=>.bl true,.own l5<|(fdP p L b t.1 S1<|kA t.2).fd.map fdD,.un,.un,.un,.un],jQ _,⟨.inr rfl,.inr rfl,.inr rfl,.inr rfl,.inr rfl,.inr rfl,.inl rfl,.inl rfl,.inr rfl,.inr rfl,trivial⟩,fdP p L b t.1 S1<|kA t.2,dn++(kA t.2).map rwP,t.1,ls3,W2,by rw[aV,aA];lia,hR2,rfl⟩
theorem aDg(F:FI K mg "table_from" aDU)(ztuple:mg "tuple"=none):bA P w K mg base "table_from" 1 2 aEn:=by
 have nd2:(["number","every"]:List Str).Nodup:=by decide+kernel
 refine cG (N:=["every","numbers"]) (ps:=["every","numbers"]) F λf nd cdv A outer s H E hr ds r hl c=>?_
 obtain⟨B,nb,h1,h2,rfl,rfl⟩:=c
 have ec:((cS nb).filter λ_=>true).map (λd=>match d with | .int i=>bF (B.getD i.toNat [])|_=>.non)=(nb.map λi=>B.getD i []).map bF:=by rw[cB.mpr λ_ _=>rfl];unfold cS;rw[aW,aW];rfl
 refine aX (iL<|kP rfl ztuple (PEd.bor<|PEd.val (PEd.cast (iZ (N:=["number","every"]) (M:=["every","numbers"]) (cap:=[none,some 0]) (sc:=bN aDU) (λ_=>true) (λd=>match d with | .int i=>bF (B.getD i.toNat [])|_=>.non) (lD<|pdv 1) (by rw[pP];lia) rfl (by decide+kernel) rfl (by decide+kernel) rfl (λcl C fp s H d hd=>pgN 0) (λd hd=>⟨.inl rfl,.inr rfl,trivial⟩) (λcl C fp s H d hd=>.inl ⟨rfl,rfl⟩) λcl C2 fp s H d hd _=>?_)<|by rw[ec])));obtain⟨i,hi,rfl⟩:=aJ.mp hd;exact mI (PEd.bor<|pdv 1) (pdv 0) (sA<|h2 i hi) λ_ _=>rfl
abbrev nl3:List Str:=["size","stock","bound","every","found"]
theorem aFC(F:FI K mg "book_of" aKD)(zlen:mg "len"=none)(zrange:mg "range"=none)(ztuple:mg "tuple"=none)(GF:bA P w K mg base "fillings" 2 1 aDK)(GM:bA P w K mg base "moves_of" 5 2 aEk)(GR:bA P w K mg base "found_rows" 3 3 aJv)(GT:bA P w K mg base "table_from" 1 2 aEn):bA P w K mg base "book_of" 6 3 aOm:=by
 have nd2:(["price","row","numbers","every"]:List Str).Nodup:=by decide+kernel
 refine cG (N:=nl3) (ps:=["size","stock","bound"]) F λf nd cdv A outer s H E hr ds r hl c=>?_
 obtain⟨p,L,b,U,hp,S,dn,FU,rfl,rfl⟩:=c;have f9:(bU p).length<=64:=jR hp;have O:=aJz (p:=p) S.pr FU;have l4:=O.len;refine aI<|pH (ds:=(bU p).map bF) 3 (pdc GF hr (aC (pdv 0) aN) ⟨p,hp,rfl,rfl⟩) λl5=>iO 3 rfl ?_;refine aI<|pH 4 (pdc (ds:=[.lst (L.map<|mvD p),.int b,tN<|st0 p]) GR hr (aC (PEd.val<|pdc GM hr (aC (pdv 0)<|aC (pdv 1) aN) ⟨p,L,hp,S,dn,rfl,rfl⟩) (aC (pdv 2)<|aC (vE rfl ztuple rfl zrange (PEd.ic (mU rfl zlen (PEd.bor<|pdv 3))<|by rw[aA])<|by lia) aN)) ⟨p,L,b,U,hp,S,FU,rfl,rfl⟩) λl4=>iO 4 rfl ?_
 have ec:(((bkF p L b).map fdD).filter λ_=>true).map (λd=>enD ((unE d).1,(unE d).2.1,lJ p (unE d).2.2))=(bkQ p L b).map enD:=by
  rw[cB.mpr λ_ _=>rfl,aW];unfold bkQ;rw[aW];refine bQ λe _=>?_
  show enD ((unE<|fdD e).1,(unE<|fdD e).2.1,lJ p (unE<|fdD e).2.2)=_;rw[aKI];rfl
 refine aX<|cW (PEd.cast (iZ (N:=["price","row","numbers","every"]) (M:=nl3) (cap:=[none,none,none,some 3]) (sc:=bN aKD) (Tb:=λd=>[.val<|.int (unE d).1,.val (.tup<|cS (unE d).2.1),.val (.tup<|cS (unE d).2.2),.val (tL<|bU p)]) (λ_=>true) (λd=>enD ((unE d).1,(unE d).2.1,lJ p (unE d).2.2)) (fK<|pdv 4) (by rw[aA];lia) rfl (by decide+kernel) rfl (by decide+kernel) rfl (λcl C fp s H d hd=>?_) (λd hd=>⟨.inl rfl,.inl rfl,.inl rfl,.inr rfl,trivial⟩) (λcl C fp s H d hd=>.inl ⟨rfl,rfl⟩) λcl C2 fp s H d hd _=>?_)<|by rw[ec]) trivial rfl
 ·obtain⟨e,he,rfl⟩:=aJ.mp hd;rw[aKI];exact iD (js:=[0,1,2]) rfl (cR (pgn 0) (cR (pgn 1)<|cR (pgn 2) iC)) rfl rfl
 ·obtain⟨e,he,rfl⟩:=aJ.mp hd;rw[aKI];obtain⟨h1,h2,h3,h4,h5⟩:=O.ent e he;have nbo:=(vG hp (λs hs=>(S.st s hs).1) h1).1;rw[<-h4] at nbo;exact pdT<|aC (pdv 0) (aC (pdv 1)<|aC (pdc GT hr (aC (pdv 3)<|aC (pdv 2) aN) ⟨bU p,e.2.2,by rw[nbo.1];lia,nbo.2,rfl,rfl⟩) aN)
theorem aGs(F:FI K mg "numbers_of_row" aNH)(GB:bA P w K mg base "numbers_behind" 1 2 aHg):bA P w K mg base "numbers_of_row" 2 3 aNt:=by
 refine cG (N:=["moves","row","start","numbers","place"]) (ps:=["moves","row","start"]) F λf nd cdv A outer s H E hr ds r hl c=>?_
 obtain⟨p,L,row,hp,S,R,rfl,rfl⟩:=c;have f9:(bU p).length<=64:=jR hp;have S':=λs hs=>(S.st s hs).1
 refine aI<|gO 3 (pdv 2) ?_;refine aI<|fE (λt sd=>sd=[.val<|.lst (L.map<|mvD p),.val<|tN row,.val (tN<|st0 p),.val<|tN (nrQ p L<|row.take t),.un]) (lD<|pdv 1) ⟨_,Le.refl _,rfl⟩ (λt d sdt hd ht=>?_) λsdn hn=>?_
 ·obtain⟨t2,rfl⟩:=aMA hd;subst ht;have km:row.getD t 0∈row:=getD_mem t2;have kl:=R _ km;have N0:=(vG hp S' (row:=row.take t) λj hj=>R j<|jG hj).1;refine⟨[.val<|.lst (L.map<|mvD p),.val<|tN row,.val (tN<|st0 p),.val<|tN (nrQ p L<|row.take t),.val (.int<|(row.getD t 0))],pgN 4,?_⟩
  have et:nrQ p L (row.take<|t+1)=hX (jA p (L.getD (row.getD t 0) AN).1) (nrQ p L<|row.take t):=by rw[aAs 0 t2,wQ]
  have em:∀k,k<L.length->(L.map<|mvD p)[k]? =some (mvD p<|L.getD k AN):=λk hk=>by
   have e:L[k]? =some (L.getD k AN):=by simp[bV,hk]
   rw[aY,e];rfl
  have em:=em _ kl;rw[et];generalize row.getD t 0=k at kl em;generalize nrQ p L (row.take t)=nb at N0;exact aX (gO 3 (pdc GB hr (aC (pdv 3)<|aC (pdx<|mI (PEd.bor<|pdv 0) (pdv 4) em λ_ _=>rfl) aN) ⟨nb,_,by rw[N0.1];lia,λi hi=>by rw[aBm];exact N0.2 i hi,rfl,rfl⟩)<|nxt rfl)
 ·subst hn;rw[pP,dA];exact aX (iL<|pdv 3)
abbrev nl4:List Str:=["number","stock"]
theorem aHE(F:FI K mg "is_row" aBe)(zall:mg "all"=none)(zlen:mg "len"=none)(GW:bA P w K mg base "is_whole" 1 1 aJR):bA P w K mg base "is_row" 2 2 aJo:=by
 refine cG (N:=["stock","numbers"]) (ps:=["stock","numbers"]) F λf nd cdv A outer s H E hr ds r hl c=>?_
 obtain⟨L,row,hrow,hl9,rfl,rfl⟩:=c;have nd2:nl4.Nodup:=by decide+kernel
 refine aX<|cW (PEd.cast (aLU (bs:=row.map λ_=>true) rfl zall<|PEd.bor (PEd.val<|PEd.cast (pdC (M:=["stock","numbers"]) (cap:=[none,some 0]) (sc:=bN aBe) (λ_=>true) (λ_=>.bl true) (lD<|pdv 1) (by unfold cS;rw[aA];lia) (λcl C fp s H d hd=>.inl ⟨rfl,rfl⟩) λcl C fp s H d hd _=>?_) ?_)) ?_) trivial rfl
 ·obtain⟨t,ht,rfl⟩:=aJ.mp hd;have hn:=hrow t ht;refine PEd.cast (rH (pdc GW hr (aC (pdv 0) aN) ⟨_,rfl,(λ_=>by simp),rfl⟩) λ_=>rC<|PEd.cast (aGk aDJ aDL bO (pdv 0) (PEd.ic (mU rfl zlen (PEd.bor<|pdv 1))<|by rw[aA])) ?_) rfl;have h1:decide ((0)<=(t:Int))=true:=decide_eq_true (by lia);have h2:decide ((t)<(L.length:Int))=true:=decide_eq_true (by lia);rw[h2];rfl
 ·rw[cB.mpr λ_ _=>rfl];unfold cS;rw[aW,aW];rfl
 ·congr 2;rw[cZ];intro x hx;obtain⟨_,_,rfl⟩:=aJ.mp hx;rfl
theorem aIr(F:FI K mg "price_of" aEj)(zsum:mg "sum"=none):bA P w K mg base "price_of" 1 2 aJZ:=by
 refine cG (N:=["stock","row"]) (ps:=["stock","row"]) F λf nd cdv A outer s H E hr ds r hl c=>?_
 obtain⟨L,row,hrow,hl2,rfl,rfl⟩:=c;have nd2:nl4.Nodup:=by decide+kernel
 have ec:((cS row).filter λ_=>true).map (λd=>match d with | .int t=>D.int (L.getD t.toNat AN).2|_=>.non)=(aKz L row).map D.int:=by
  rw[cB.mpr λ_ _=>rfl];unfold cS aKz;rw[aW,aW];refine bQ λt _=>?_
  simp
 refine aX (iL<|aED rfl zsum (PEd.bor<|PEd.val (PEd.cast (pdC (M:=["stock","row"]) (cap:=[none,some 0]) (sc:=bN aEj) (λ_=>true) (λd=>match d with | .int t=>D.int (L.getD t.toNat AN).2|_=>.non) (lD<|pdv 1) (by rw[show(cS row).length=row.length from aA _];lia) (λcl C fp s H d hd=>.inl ⟨rfl,rfl⟩) λcl C fp s H d hd _=>?_)<|by rw[ec])));obtain⟨t,ht,rfl⟩:=aJ.mp hd;have hn:=hrow t ht;exact pdx<|mI (PEd.bor<|pdv 1) (pdv 0) (aEp hn) λ_ _=>rfl
theorem aGb(F:FI K mg "is_priced_row" aNM)(GR:bA P w K mg base "is_row" 2 2 aJo)(GP:bA P w K mg base "price_of" 1 2 aJZ):bA P w K mg base "is_priced_row" 3 4 aNU:=by
 refine cG (N:=["stock","bound","price","row"]) (ps:=["stock","bound","price","row"]) F λf nd cdv A outer s H E hr ds r hl c=>?_
 obtain⟨p,L,b,B,e,S,O,he,rfl,rfl⟩:=c;obtain⟨h1,h2,h3,h4,h5⟩:=O.ent e he;exact aX<|cW (PEd.cast (rH (pdc GR hr (aC (pdv 0)<|aC (pdv 3) aN) ⟨L,e.2.1,h3,by lia,rfl,rfl⟩) λ_=>PEd.cast (rH (PEd.cast (aEq (pdv 2) (PEd.ic (pdc GP hr (aC (pdv 0)<|aC (pdv 3) aN) ⟨L,e.2.1,h3,by lia,rfl,rfl⟩)<|by rw[aKa,<-h1]))<|by rw[decide_eq_true rfl]) λ_=>rC (PEd.cast (aKN aDJ (pdv 2) (pdv 1)<|gR _)<|by rw[decide_eq_true h2])) rfl) rfl) trivial rfl
def aBx(F:FI K mg "stands_there" aRS):bA P w K mg base "stands_there" 1 3 (aFk P w K):=by
 refine cG (N:=["prices","numbers","most"]) (ps:=["prices","numbers","most"]) F λf nd cdv A outer s H E hr ds r hl c=>?_
 obtain⟨p,L,b,B,nb,m,hp,S,O,rfl,rfl⟩:=c;have hu:=uN hr 2
 by_cases q:jE nb∈ksB p L B
 ·obtain⟨e,he,en⟩:=aJ.mp q;have en:=sI en;obtain⟨i,hi⟩:=cY he
  have sq:aJb p L B nb m=decide (e.1<=m):=by
   by_cases z:e.1<=m
   ·rw[decide_eq_true z];exact fW.mpr ⟨e,he,by rw[decide_eq_true en,decide_eq_true z];rfl⟩
   ·rw[decide_eq_false z];refine iY.mpr λh=>?_
    obtain⟨x,x1,x2⟩:=fW.mp h;rw[bL] at x2;have:=O.inj hp S x1 he<|(of_decide_eq_true x2.1).trans en.symm;subst this;exact z<|of_decide_eq_true x2.2
  rw[sq];exact aX<|cW (PEd.cast (rH (aKl (hk:=hkT P w) ⟨λ_=>q,λ_=>rfl⟩ hu (PEd.cast (pdv 1)<|by rw[show(hkT P w).dat (jE nb)=tD (jE nb) from rfl,oE]) (pZ<|pdv 0)) λ_=>rC (aKN aDJ (wB hu (pZ<|pdv 0) (PEd.cast (pdv 1)<|by rw[show(hkT P w).dat (jE nb)=tD (jE nb) from rfl,oE]) (by unfold ksB;rw[aY,hi,<-en];rfl) (by rw[aY,hi];rfl) λ_ _=>rfl) (pdv 2)<|gR _))<|by rw[aQf]) trivial rfl
 ·have sq:aJb p L B nb m=false:=by
   refine iY.mpr λh=>?_
   obtain⟨x,x1,x2⟩:=fW.mp h;rw[bL] at x2;exact q<|aJ.mpr ⟨x,x1,by rw[of_decide_eq_true x2.1]⟩
  rw[sq];exact aX<|cW (PEd.cast (rH (j:=false) (aKl (kk:=false) (hk:=hkT P w) ⟨λz=>(by cases z),λz=>absurd z q⟩ hu (PEd.cast (pdv 1)<|by rw[show(hkT P w).dat (jE nb)=tD (jE nb) from rfl,oE]) (pZ<|pdv 0)) λh=>by cases h) rfl) trivial rfl
theorem aDo(F:FI K mg "has_start" aEl)(zany:mg "any"=none):bA P w K mg base "has_start" 1 2 aJs:=by
 have nd2:(["price","row","table"]:List Str).Nodup:=by decide+kernel
 refine cG (N:=["bound","book"]) (ps:=["bound","book"]) F λf nd cdv A outer s H E hr ds r hl c=>?_
 obtain⟨p,L,b,B,O,hb,rfl,rfl⟩:=c;have hu:=uN hr 4
 have ec:((B.map enD).filter λ_=>true).map (λd=>match d with | .tup [_,.tup rs,_]=>D.bl rs.isEmpty|_=>.bl false)=(B.map λe=>decide<|e.2.1=[]).map D.bl:=by
  rw[cB.mpr λ_ _=>rfl,aW,aW];refine bQ λe _=>?_
  show D.bl (cS e.2.1).isEmpty=D.bl (decide<|e.2.1=[]);cases e.2.1<;>rfl
 have ea:((B.map λe=>decide<|e.2.1=[]).any id)=B.any λe=>decide (e.2.1=[]):=by rw[List.any_map];rfl
 refine aX<|cW (PEd.cast (aKH (aKN aDL (pdv 0) bO<|gR _) λ_=>rC<|aMd rfl zany (PEd.bor<|PEd.val (PEd.cast (iZ (N:=["price","row","table"]) (M:=["bound","book"]) (cap:=[none,none,none]) (sc:=bN aEl) (Tb:=λd=>match d with | .tup [a,r,t]=>[.val a,.val r,.val t] | _=>[.un,.un,.un]) (λ_=>true) (λd=>match d with | .tup [_,.tup rs,_]=>D.bl rs.isEmpty|_=>.bl false) (fK<|pdv 1) (by rw[aA];have:=O.len;lia) rfl (by decide+kernel) rfl (by decide+kernel) rfl (λcl C fp s H d hd=>?_) (λd hd=>?_) (λcl C fp s H d hd=>.inl ⟨rfl,rfl⟩) λcl C2 fp s H d hd _=>?_)<|by rw[ec])))<|by rw[decide_eq_false<|by lia,Bool.false_or,ea]) trivial rfl
 ·obtain⟨e,_,rfl⟩:=aJ.mp hd;exact iD (js:=[0,1,2]) rfl (cR (pgn 0) (cR (pgn 1)<|cR (pgn 2) iC)) rfl rfl
 ·obtain⟨e,_,rfl⟩:=aJ.mp hd;exact⟨.inl rfl,.inl rfl,.inl rfl,trivial⟩
 ·obtain⟨e,_,rfl⟩:=aJ.mp hd;refine PEd.cast (aDO (pdv 1) (pdT (ds:=[]) aN) trivial trivial (.inl ⟨rfl,rfl⟩) ?_ rfl ?_) ?_
  ·exact(pN e.2.1).1
  ·exact aNV hu (by show jI (cS e.2.1)+1+1<=4;rw[(pN e.2.1).2];decide)
  ·show DL.R.val (.bl<|jV (cS e.2.1) [])=DL.R.val (.bl (cS e.2.1).isEmpty);cases e.2.1<;>rfl
theorem aIz(F:FI K mg "prices_by_numbers" aRR)(zlen:mg "len"=none)(zrange:mg "range"=none)(ztuple:mg "tuple"=none)(GF:bA P w K mg base "fillings" 2 1 aDK)(GI:bA P w K mg base "is_priced_row" 3 4 aNU)(GR:bA P w K mg base "numbers_of_row" 2 3 aNt)(GT:bA P w K mg base "table_from" 1 2 aEn):bA P w K mg base "prices_by_numbers" 4 5 (aSd P w K):=by
 refine cG (N:=["size","stock","moves","bound","book","every","prices","price","row","table","numbers"]) (ps:=["size","stock","moves","bound","book"]) F λf nd cdv A outer s H E hr ds r hl c=>?_
 obtain⟨p,L,b,B,hp,S,O,rfl,rfl⟩:=c;have hu:=uN hr 5;have f9:(bU p).length<=64:=jR hp;have l7:=O.len;refine aI<|pH 5 (pdc GF hr (aC (pdv 0) aN) ⟨p,hp,rfl,rfl⟩) λl5=>iO 5 rfl ?_;refine aI<|rS (hkT P w) 6 nd rfl (Or.inl rfl) λl6=>?_;refine aI<|fE (λt sd=>sd=[.val<|dI p,.val<|lK L,.val<|.lst (L.map<|mvD p),.val<|.int b,.val (.lst<|B.map enD),.val (tL<|bU p),oG (hkT P w) K l6 (ksB p L<|B.take t)<|(B.take t).map λe=>.int e.1,.un,.un,.un,.un]) (fK<|pdv 4) ⟨_,Le.refl _,rfl⟩ (λt d sdt hd ht=>?_) λsdn hn=>?_
 ·have tl:=by have:=(aE.mp hd).1;rw[aA] at this;exact this
  obtain⟨e,he⟩:∃e,B[t]? =some e:=⟨B[t],by simp[tl]⟩
  have ed:=by rw[aY,he] at hd;exact(bW.inj hd).symm
  subst ed ht;have em:=aQ he;obtain⟨h1,h2,h3,h4,h5⟩:=O.ent e em;obtain⟨n1,n2⟩:=O.nr hp S em
  have et:B.take (t+1)=B.take t++[e]:=by rw[gB,he];rfl
  have nk:jE (nrQ p L e.2.1)∉ksB p L (B.take t):=λz=>by
   obtain⟨x,x1,x2⟩:=aJ.mp z;have:=O.inj hp S (jG x1) em<|sI x2;subst this;obtain⟨i,hi,ex⟩:=cP x1;have il:i<t:=by rw[cT] at hi;lia
   rw[vJ] at ex;obtain⟨t1,et2⟩:=aE.mp he;have:i=t:=(fI (h₀:=by rw[aA];grind) (h₁:=by rw[aA];exact t1) O.nd).mp (by rw[fA,fA,ex,et2]);grind
  have tk:((B.take t).map λe=>D.int e.1).length<=1000:=by rw[aA,cT];grind
  have e1:ksB p L (B.take<|t+1)=ksB p L (B.take t)++[jE<|nrQ p L e.2.1]:=by rw[et];unfold ksB;rw[aO];rfl
  have e2:((B.take<|t+1).map λe=>D.int e.1)=((B.take t).map λe=>D.int e.1)++[.int e.1]:=by rw[et,aO];rfl
  rw[e1,e2];generalize ksB p L (B.take t)=ks at nk;generalize (B.take t).map (λe=>D.int e.1)=vs at tk;refine⟨[.val<|dI p,.val<|lK L,.val<|.lst (L.map<|mvD p),.val<|.int b,.val (.lst<|B.map enD),.val (tL<|bU p),oG (hkT P w) K l6 ks vs,.val<|.int e.1,.val<|tN e.2.1,.val (.tup<|e.2.2.map bF),.un],iD (js:=[7,8,9]) rfl (cR (pgn 7) (cR (pgn 8)<|cR (pgn 9) iC)) rfl rfl,?_⟩;refine aMZ (tS (mC<|pdc (r:=.val<|.bl true) GI hr (aC (pdv 1)<|aC (pdv 3) (aC (pdv 7)<|aC (pdv 8) aN)) ⟨p,L,b,B,e,S,O,em,rfl,rfl⟩)) ?_;refine aI<|gO 10 (pdc (ds:=[.lst (L.map<|mvD p),tN e.2.1,tN<|st0 p]) GR hr (aC (pdv 2) (aC (pdv 8)<|aC (vE rfl ztuple rfl zrange (PEd.ic (mU rfl zlen (PEd.bor<|pdv 5))<|by rw[aA])<|by grind) aN)) ⟨p,L,e.2.1,hp,S,h3,rfl,rfl⟩) ?_;have etab:(nrQ p L e.2.1).map (λi=>(bU p).getD i [])=e.2.2:=n2;have pT:=lI e.2.2;have dT:=kS e.2.2;have pT2:pl (.tup<|e.2.2.map bF)=true:=pT;refine aMZ (PWd.pt<|oU (aLw (kk:=false) ⟨λz=>(by cases z),λz=>absurd z nk⟩ (by show(A.deeper _).units+2<AR;grind) (PEd.cast (pdv 10)<|by rw[show(hkT P w).dat (jE<|nrQ p L e.2.1)=tD (jE<|nrQ p L e.2.1) from rfl,oE]) (aBg 6 rfl<|pv 6)) λ_=>oI (PTd.cast (aBc (rb:=.val (.tup<|e.2.2.map bF)) (pdv 9) (PEd.cast (pdc GT hr (aC (pdv 5)<|aC (pdv 10) aN) ⟨bU p,nrQ p L e.2.1,by rw[n1.1];grind,n1.2,rfl,rfl⟩)<|by rw[etab]) trivial trivial (.inl ⟨rfl,rfl⟩) pT2 pT2 (aNV hu<|by show jI _+1+1<=5;grind))<|by show(!deq (.tup _) (.tup _))=false;rw[xU _ pT2];rfl)) ?_;exact aX (sJ 6 (by show(A.deeper _).units+2<AR;grind) rfl (pv 6) (pdv 7) (PEd.cast (pdv 10)<|by rw[show(hkT P w).dat (jE<|nrQ p L e.2.1)=tD (jE<|nrQ p L e.2.1) from rfl,oE]) nk tk<|nxt rfl)
 ·subst hn;rw[aA,dA];refine wV 6 rfl ?_;exact aX (iL<|pdv 6)
theorem aBt(F:FI K mg "is_closed" aRQ)(GB:bA P w K mg base "numbers_behind" 1 2 aHg)(GS:bA P w K mg base "stands_there" 1 3 (aFk P w K)):bA P w K mg base "is_closed" 2 3 (aFh P w K):=by
 refine cG (N:=["moves","bound","prices","numbers","more","move","price"]) (ps:=["moves","bound","prices"]) F λf nd cdv A outer s H E hr ds r hl c=>?_
 obtain⟨p,L,b,B,hp,S,O,rfl,rfl⟩:=c;have hu:=uN hr 2;have f9:(bU p).length<=64:=jR hp;obtain⟨good,hgood⟩:∃good:Bk->Nat->Bool,good=λe k=> !decide (e.1+prK L k<=b)||aJb p L B (hX (jA p (L.getD k AN).1)<|nrQ p L e.2.1) (e.1+prK L k):=⟨_,rfl⟩
 have ecl:aJd p L b B=B.all λe=>(bI L.length).all λk=>good e k:=by rw[hgood];rfl
 have kl:((ksB p L B).map (hkT P w).dat).length=B.length:=by unfold ksB;rw[aA,aA]
 refine aI<|fE (λt sd=>(∀i e,i<t->B[i]? =some e->∀k,k<L.length->good e k=true)/\sd=[.val<|.lst (L.map<|mvD p),.val<|.int b,.val<|pcD P w K p L B,.un,.un,.un,.un]) (aGz<|pdv 2) ⟨_,Le.refl _,λi e hi=>by grind,rfl⟩ (λt d sdt hd ht=>?_) λsdn hn=>?_
 ·obtain⟨hn,rfl⟩:=ht
  have tl:=by have:=(aE.mp hd).1;exact this
  obtain⟨e,he⟩:∃e,B[t]? =some e:=⟨B[t],by simp[tl]⟩;have em:=aQ he
  have ek:(ksB p L B)[t]? =some (jE<|nrQ p L e.2.1):=by unfold ksB;rw[aY,he];rfl
  have ed:d=tN (nrQ p L e.2.1):=by rw[aY,ek] at hd;show d=D.tup (cS _);rw[<-oE];exact(bW.inj hd).symm
  subst ed;obtain⟨n1,n2⟩:=O.nr hp S em;refine⟨[.val<|.lst (L.map<|mvD p),.val<|.int b,.val<|pcD P w K p L B,.val (tN<|nrQ p L e.2.1),.un,.un,.un],pgN 3,?_⟩;refine aX<|fE (λj sd=>(∀k,k<j->good e k=true)/\sd=[.val<|.lst (L.map<|mvD p),.val<|.int b,.val<|pcD P w K p L B,.val (tN<|nrQ p L e.2.1),.un,.un,.un]) (fK<|pdv 0) ⟨_,Le.refl _,λk hk=>by grind,rfl⟩ (λj d sdj hd hj=>?_) λsdn hn2=>?_
  ·obtain⟨hn2,rfl⟩:=hj
   have jl:j<L.length:=by have:=(aE.mp hd).1;rw[aA] at this;exact this
   have ej:L[j]? =some (L.getD j AN):=by simp[bV,jl]
   have ed:d=mvD p (L.getD j AN):=by rw[aY,ej] at hd;exact(bW.inj hd).symm
   subst ed;have gj:good e j=(!decide (e.1+(L.getD j AN).2<=b)||aJb p L B (hX (jA p (L.getD j AN).1)<|nrQ p L e.2.1) (e.1+(L.getD j AN).2)):=by rw[hgood];rfl
   generalize L.getD j AN=sk at gj;refine⟨[.val<|.lst (L.map<|mvD p),.val<|.int b,.val<|pcD P w K p L B,.val (tN<|nrQ p L e.2.1),.val<|.int sk.2,.val (tN<|jA p sk.1),.un],iD (js:=[4,5]) rfl (cR (pgn 4)<|cR (pgn 5) iC) rfl rfl,?_⟩;refine aI<|gO 6 (fP gK (wB hu (pZ<|pdv 2) (PEd.cast (pdv 3)<|by rw[show(hkT P w).dat (jE<|nrQ p L e.2.1)=tD (jE<|nrQ p L e.2.1) from rfl,oE]) ek (by rw[aY,he];rfl) λ_ _=>rfl)<|pdv 4) ?_;refine aX<|fR (PWd.pt (tV (nC aDJ (pdv 6) (pdv 1)<|gR _) λ_=>yC<|tS (mC<|pdc GS hr (aC (pdv 2) (aC (pdc GB hr (aC (pdv 3)<|aC (pdv 5) aN) ⟨nrQ p L e.2.1,jA p sk.1,by rw[n1.1];grind,λi hi=>by rw[aBm];exact n1.2 i hi,rfl,rfl⟩)<|aC (pdv 6) aN)) ⟨p,L,b,B,_,_,hp,S,O,rfl,rfl⟩))) (λh=>?_) λh=>cM ?_
   ·refine aX (cW yX trivial ?_)
    have:aJd p L b B=false:=by
     rw[ecl];refine iY.mpr λz=>?_
     have:=cZ.mp (cZ.mp z e em) j<|bR.mpr jl;rw[gj] at this;rw[bL] at h;rw[h.1] at this;have h2:=h.2;simp at this h2;rw[this] at h2;cases h2
    rw[this]
   ·refine⟨[.val<|.lst (L.map<|mvD p),.val<|.int b,.val<|pcD P w K p L B,.val (tN<|nrQ p L e.2.1),.un,.un,.un],⟨.inr rfl,.inr rfl,.inr rfl,.inr rfl,.inl rfl,.inl rfl,.inl rfl,trivial⟩,λk hk=>?_,rfl⟩
    by_cases q:k<j
    ·exact hn2 k q
    ·have:k=j:=by grind
     subst this;rw[gj];cases z1:decide (e.1+sk.2<=b) with
     |false=>rfl
     |true=>
      rw[z1] at h;cases z2:aJb p L B (hX (jA p sk.1)<|nrQ p L e.2.1) (e.1+sk.2) with
      |true=>rfl
      |false=>rw[z2] at h;cases h
  ·obtain⟨hn2,rfl⟩:=hn2;rw[aA] at hn2;refine⟨[.val<|.lst (L.map<|mvD p),.val<|.int b,.val<|pcD P w K p L B,.un,.un,.un,.un],⟨.inr rfl,.inr rfl,.inr rfl,.inl rfl,.inr rfl,.inr rfl,.inr rfl,trivial⟩,λi x hi hx k hk=>?_,rfl⟩
   by_cases q:i<t
   ·exact hn i x q hx k hk
   ·have:i=t:=by grind
    subst this;rw[he] at hx;cases hx;exact hn2 k hk
 ·obtain⟨hn,rfl⟩:=hn;rw[kl] at hn;refine aX (cW yX trivial ?_)
  have:aJd p L b B=true:=by
   rw[ecl];refine cZ.mpr λe he=>cZ.mpr λk hk=>?_
   obtain⟨i,hi⟩:=cY he;exact hn i e (aE.mp hi).1 hi k<|bR.mp hk
  show DL.R.val _=DL.R.val _;rw[this]
abbrev nl5:List Str:=["size","stock","bound","book","moves","prices"]
def aDu(F:FI K mg "holds" aEa)(GM:bA P w K mg base "moves_of" 5 2 aEk)(GP:bA P w K mg base "prices_by_numbers" 4 5 (aSd P w K))(GS:bA P w K mg base "has_start" 1 2 aJs)(GC:bA P w K mg base "is_closed" 2 3 (aFh P w K)):bA P w K mg base "holds" 6 4 aJh:=by
 refine cG (N:=nl5) (ps:=["size","stock","bound","book"]) F λf nd cdv A outer s H E hr ds r hl c=>?_
 obtain⟨p,L,b,B,hp,S,dn,O,h0,rfl,rfl⟩:=c;refine aI<|pH 4 (pdc GM hr (aC (pdv 0)<|aC (pdv 1) aN) ⟨p,L,hp,S,dn,rfl,rfl⟩) λl4=>iO 4 rfl ?_;refine aI<|gO 5 (pdc GP hr (aC (pdv 0) (aC (pdv 1)<|aC (pdv 4) (aC (pdv 2)<|aC (pdv 3) aN))) ⟨p,L,b,B,hp,S,O,rfl,rfl⟩) ?_;have st:∀ {sd:List Slot}{p1 p2 p3 p4:Pos},sd[2]? =some (.val<|.int b)->sd[3]? =some (.val (.lst<|B.map enD))->PEd (mJ CX0 P w K mg base nl5 "holds" (bN aEa) f cdv A outer s H E).nox sd (.Call (.Name "has_start" p1) [.Name "bound" p2, .Name "book" p3] [] p4) (.val<|.bl (B.any λe=>decide<|e.2.1=[])):=λq2 q3=>pdc GS hr (aC (oF 2 q2<|pv 2)<|aC (oF 3 q3<|pv 3) aN) ⟨p,L,b,B,O,h0,rfl,rfl⟩
 cases q:B.any λe=>decide (e.2.1=[]) with
 |false=>rw[q] at st;refine aI (fR (PWd.pt (oU (PTd.cast (vY (pdv 5) kO) rfl) λ_=>oI<|tS (mC<|st rfl rfl))) (λ_=>?_) λh=>by cases h);exact aX<|iL yX
 |true=>rw[q] at st;refine aMZ (PWd.pt (oU (PTd.cast (vY (d:=pcD P w K p L B) (pdv 5) kO) rfl) λ_=>oI<|tS (mC<|st rfl rfl))) ?_;exact aX (iL<|pdc GC hr (aC (pdv 4) (aC (pdv 2)<|aC (pdv 5) aN)) ⟨p,L,b,B,hp,S,O,rfl,rfl⟩)
abbrev nl6:List Str:=["size","wish","table"]
theorem aGa(F:FI K mg "misses_at" aOp)(zenumerate:mg "enumerate"=none)(GF:bA P w K mg base "fillings" 2 1 aDK):bA P w K mg base "misses_at" 3 3 aNC:=by
 refine cG (N:=["size","wish","table","number","filling"]) (ps:=nl6) F λf nd cdv A outer s H E hr ds r hl c=>?_
 obtain⟨p,w,T,hp,W,OT,rfl,rfl⟩:=c;have hu:=uN hr 4;refine aI<|fE (λk sd=>(∀j,j<k->aKw w T j=false)/\sd=[.val<|dI p,.val (.lst<|w.map wsD),.val (.tup<|T.map bF),.un,.un]) (aCq rfl zenumerate (PEd.val<|pdc GF hr (aC (pdv 0) aN) ⟨p,hp,rfl,rfl⟩)) ⟨_,Le.refl _,λj hj=>by grind,rfl⟩ (λk d sdk hd hk=>?_) λsdn hn=>?_
 ·obtain⟨x,hx,rfl⟩:=uM hd;obtain⟨hk2,rfl⟩:=nJ hx;obtain⟨hn,rfl⟩:=hk;have kT:k<T.length:=by rw[OT.len];exact hk2
  have kW:k<w.length:=by rw[W.len];exact hk2
  refine⟨[.val<|dI p,.val (.lst<|w.map wsD),.val (.tup<|T.map bF),.val (.int<|k),.val (bF<|(bU p).getD k [])],iD (js:=[3,4]) rfl (cR (pgn 3)<|cR (pgn 4) iC) rfl rfl,?_⟩;refine aX<|fR (k:=aKw w T k) ?_ (λh=>?_) λh=>cM ?_
  ·have ka:=aNQ kW;unfold aKw;cases hq:w.getD k none with
   |none=>rw[hq] at ka;exact PWd.pt<|tV (j:=false) (tI (mI (PEd.bor<|pdv 1) (pdv 3) ka λ_ _=>rfl) kO) λh=>by cases h
   |some L=>rw[hq] at ka;exact PWd.pt<|tV (j:= !decide (T.getD k []∈L)) (tI (mI (PEd.bor<|pdv 1) (pdv 3) ka λ_ _=>rfl) kO) λ_=>yC (PTd.cast (zI (rG (pdv 2) (pdv 3) (sA kT) λ_ _=>rfl) (mI (PEd.bor<|pdv 1) (pdv 3) ka λ_ _=>rfl) (sD _) (lI L)<|by have:=kS L;show(A.deeper _).units+1+_<AR;grind)<|by rw[aCd])
  ·refine aX<|cW (pdv 4) trivial ?_;rw[show vC w (bU p) T=some ((bU p).getD k []) from xI hk2 h hn];rfl
  ·refine⟨[.val<|dI p,.val (.lst<|w.map wsD),.val (.tup<|T.map bF),.un,.un],⟨.inr rfl,.inr rfl,.inr rfl,.inl rfl,.inl rfl,trivial⟩,λj hj=>?_,rfl⟩
   by_cases q:j<k
   ·exact hn j q
   ·have:j=k:=by grind
    subst this;exact h
 ·obtain⟨hn,rfl⟩:=hn;rw[pW,aA] at hn;refine aX<|cW kO trivial ?_;rw[show vC w (bU p) T=none from xR hn];rfl
def aMm(F:FI K mg "does_wish" aOf)(GM:bA P w K mg base "misses_at" 3 3 aNC):bA P w K mg base "does_wish" 4 3 aNT:=by
 refine cG (N:=nl6) (ps:=nl6) F λf nd cdv A outer s H E hr ds r hl c=>?_
 obtain⟨p,w,T,hp,W,OT,rfl,rfl⟩:=c;exact aX<|cW (PEd.cast (aJy (pdc GM hr (aC (pdv 0) (aC (pdv 1)<|aC (pdv 2) aN)) ⟨p,w,T,hp,W,OT,rfl,rfl⟩) kO)<|by rw[aKY]) trivial rfl
def aLC(F:FI K mg "first_that_does" sFt)(GD:bA P w K mg base "does_wish" 4 3 aNT):bA P w K mg base "first_that_does" 5 3 aKJ:=by
 refine cG (N:=["size","book","wish","entry"]) (ps:=["size","book","wish"]) F λf nd cdv A outer s H E hr ds r hl c=>?_
 obtain⟨p,L,b,B,w,hp,S,O,W,rfl,rfl⟩:=c;refine aI<|fE (λt sd=>ftQ p w B=ftQ p w (B.drop t)/\sd=[.val<|dI p,.val (.lst<|B.map enD),.val (.lst<|w.map wsD),.un]) (fK<|pdv 1) ⟨_,Le.refl _,rfl,rfl⟩ (λt d sdt hd ht=>?_) λsdn hn=>?_
 ·obtain⟨q,rfl⟩:=ht;obtain⟨e,he,rfl,_⟩:=lM hd;obtain⟨tl,ee⟩:=aE.mp he;obtain⟨_,_,x1,_,x4⟩:=O.ent e<|aQ he;have tk:aCK p e.2.2:=by rw[x4];exact vZ hp S x1
  rw[dX tl,ee] at q;refine⟨[.val<|dI p,.val (.lst<|B.map enD),.val (.lst<|w.map wsD),.val<|enD e],pgN 3,?_⟩;refine aX<|fR (k:=doQ p w e.2.2) (mC<|pdc GD hr (aC (pdv 0) (aC (pdv 2)<|aC (pdx<|pdv 3) aN)) ⟨p,w,e.2.2,hp,W,tk,rfl,rfl⟩) (λh=>?_) λh=>cM ?_
  ·have e3:ftQ p w B=some e:=by rw[q];exact List.find?_cons_of_pos h
   rw[e3];exact aX (iL<|pdv 3)
  ·refine⟨[.val<|dI p,.val (.lst<|B.map enD),.val (.lst<|w.map wsD),.un],⟨.inr rfl,.inr rfl,.inr rfl,.inl rfl,trivial⟩,?_,rfl⟩;rw[q];exact List.find?_cons_of_neg (by rw[h];decide)
 ·obtain⟨q,rfl⟩:=hn;rw[aA,wU] at q;rw[q];exact aX<|iL kO
noncomputable def aSs(m:Int):D->Bool
 |.tup (.int a::_)=>decide<|a<m
 |_=>false
abbrev nl7:List Str:=["size","stock","bound","wish","book","found"]
theorem aKZ(F:FI K mg "least_row" sLr)(GO:bA P w K mg base "book_of" 6 3 aOm)(GT:bA P w K mg base "first_that_does" 5 3 aKJ):bA P w K mg base "least_row" 7 4 aNB:=by
 have nd2:(["entry","found"]:List Str).Nodup:=by decide+kernel
 refine cG (N:=nl7) (ps:=["size","stock","bound","wish"]) F λf nd cdv A outer s H E hr ds r hl c=>?_
 obtain⟨p,L,b,U,w,hp,S,dn,FU,W,rfl,rfl⟩:=c;have O:=uJ hp S FU;refine aI<|pH 4 (pdc GO hr (aC (pdv 0) (aC (pdv 1)<|aC (pdv 2) aN)) ⟨p,L,b,U,hp,S,dn,FU,rfl,rfl⟩) λl4=>iO 4 rfl ?_;generalize bkQ p L b=B at O;have bl:=O.len;refine aI<|gO 5 (pdc GT hr (aC (pdv 0) (aC (pdv 4)<|aC (pdv 3) aN)) ⟨p,L,b,B,w,hp,S,O.bk,W,rfl,rfl⟩) ?_;unfold lrD;cases hq:ftQ p w B with
 |none=>refine aI<|iE (PTd.cast (vY (pdv 5) kO) rfl) rfl ?_;exact aX (iL<|pdT (ds:=[.str "none",.lst<|B.map enD]) (aC dG<|aC (pdv 4) aN))
 |some e=>
  have ec:((B.map enD).filter<|aSs e.1).map id=(B.filter λx=>decide<|x.1<e.1).map enD:=by rw[kH,aNh];rfl
  refine aMZ (PTd.cast (vY (pdv 5) kO) rfl) ?_;refine aX<|iL (pdT (ds:=[.str "row",tN e.2.1,.lst<|(B.filter λx=>decide<|x.1<e.1).map enD])<|aC dG (aC (pdx<|pdv 5)<|aC (PEd.val (PEd.cast (iZ (N:=["entry","found"]) (M:=nl7) (cap:=[none,some 5]) (sc:=bN sLr) (aSs e.1) id (fK<|pdv 4) (by rw[aA];grind) rfl (by decide+kernel) rfl (by decide+kernel) rfl (λcl C fp s H d hd=>pgN 0) (λd hd=>⟨.inl rfl,.inr rfl,trivial⟩) (λcl C fp s H d hd=>.inr ⟨_,rfl,?_⟩) λcl C2 fp s H d hd _=>(pdv 0))<|by rw[ec])) aN));obtain⟨x,_,rfl⟩:=aJ.mp hd;exact nC aDL (pdx<|pdv 0) (pdx<|pdv 1)<|gR _
abbrev nl8:List Str:=["size","stock","bound","wish","book"]
def aGp(F:FI K mg "shows_none" aOh)(GH:bA P w K mg base "holds" 6 4 aJh)(GT:bA P w K mg base "first_that_does" 5 3 aKJ):bA P w K mg base "shows_none" 7 5 aNN:=by
 refine cG (N:=nl8) (ps:=nl8) F λf nd cdv A outer s H E hr ds r hl c=>?_
 obtain⟨p,L,b,B,ws,hp,S,dn,O,h0,W,rfl,rfl⟩:=c;exact aX (iL<|rH (pdc GH hr (aC (pdv 0)<|aC (pdv 1) (aC (pdv 2)<|aC (pdv 4) aN)) ⟨p,L,b,B,hp,S,dn,O,h0,rfl,rfl⟩) λh=>rC (PEd.cast (aJy (pdc GT hr (aC (pdv 0) (aC (pdv 4)<|aC (pdv 3) aN)) ⟨p,L,b,B,ws,hp,S,O,W,rfl,rfl⟩) kO)<|by rw[aPo]))
def aGu(F:FI K mg "_law_cell_at" aFb)(zlen:mg "len"=none):bA P w K mg base "_law_cell_at" 1 2 aHq:=by
 refine cG (N:=["_law_script","_law_k"]) (ps:=["_law_script","_law_k"]) F λf nd cdv A outer s H E hr ds r hl c=>?_
 obtain⟨ns,k,rfl,hk,rfl⟩:=c;refine aI<|fR (nC aDL (pdv 1) (aMp rfl zlen<|pdv 0)<|gR _) (λh=>?_) λh=>cM ?_
 ·have h':=by simpa using h
  exact aX (iL<|aOV (z:=ns.getD k 0) (pdv 0) (pdv 1) (by simp[h']) λ_ _=>rfl)
 ·have h':=by simpa using h
  refine aX<|cW bO trivial ?_;simp[bV,h']
theorem aHy(F:FI K mg "_law_mixed" aJM):bA P w K mg base "_law_mixed" 1 2 CMx:=by
 refine cG (N:=["_law_cell","_law_k","_law_number"]) (ps:=["_law_cell","_law_k"]) F λf nd cdv A outer s H E hr ds r hl c=>?_
 obtain⟨c,k,rfl,hk,rfl⟩:=c;have kb:((k):Int).natAbs<2^250:=bY (by grind:_<=1000) (by decide);refine aI<|fR (rY (cN fB (pdv 0) bO<|by decide) bO) (λh=>?_) λh=>cM ?_
 ·have h':=by simpa using h
  have e2:(2)*2^((8)*(k:Int)).toNat=((2^(8*k+1):Nat):Int):=by
   have:((8)*(k:Int)).toNat=8*k:=by grind
   rw[this,pR]
   push_cast
   exact aSz _ _
  have lg:(2^(8*k+1)).log2<9000:=by rw[Nat.log2_two_pow];grind
  refine aX<|cW (cN nL (pdv 0) (PEd.ic (cN aKo bO (cN jB bO (pdv 1)<|jC (by decide) kb) ⟨by grind,by grind,by decide⟩) e2) ⟨pw0 _,lg⟩) trivial ?_;unfold mxS;rw[if_pos h']
 have h':=by simpa using h
 have big:∀z:Int,0<=z/\z<2147483647+69621*400+7919->z.natAbs<2^250:=λz hz=>bY (by grind:z.natAbs<=3000000000)<|by decide
 refine aI<|gO 2 (cN fB (cN jB (fP gK (fP gK (cN fB (pdv 0) bO<|by decide) (cN jB bO (pdv 1)<|jC (by decide) kb)) bO) bO (jC (big _ ⟨by grind,by grind⟩)<|by decide)) bO<|by decide) ?_;have r1:0<=mx1 c k/\mx1 c k<2147483647:=⟨dU _<|by decide,dE _<|by decide⟩;refine aI<|gO (d:=.int<|mx2 c k) 2 (cN fB (cN jB (pdv 2) (pdv 2) (jC (big _ ⟨by grind,by grind⟩)<|big _ ⟨by grind,by grind⟩)) bO<|by decide) ?_;have r2:0<=mx2 c k/\mx2 c k<2147483629:=⟨dU _<|by decide,dE _<|by decide⟩;refine aX<|cW (cN fB (fP gK (cN jB (pdv 2) (pdv 2) (jC (big _ ⟨by grind,by grind⟩)<|big _ ⟨by grind,by grind⟩)) (cN jB bO (pdv 1)<|jC (by decide) kb)) bO<|by decide) trivial ?_;unfold mxS;rw[if_neg h']
def yO:List D->R->Prop:=λds r=>∃p,p∈bS/\ds=[dI p]/\r=.own ((iV (2^p.1.toNat) p.2.toNat).map bF)
abbrev nl9:List Str:=["_law_size_here","_law_found_here","_law_box","_law_longer","_law_one"]
theorem aCT(F:FI K mg "_law_fillings" aEg)(zrange:mg "range"=none):bA P w K mg base "_law_fillings" 1 1 yO:=by
 refine cG (N:=nl9) (ps:=["_law_size_here"]) F λf nd cdv A outer s H E hr ds r hl c=>?_
 obtain⟨p,hp,rfl,rfl⟩:=c;obtain⟨h1,h2,h3,h4,h5⟩:=yN p hp;have e2:p.2=((p.2.toNat)):=by grind
 have e1:p.1=((p.1.toNat)):=by grind
 have nd2:(["_law_word_here","_law_one"]:List Str).Nodup:=by decide+kernel
 refine aI<|pH 1 (pdL (ds:=[bF []])<|aC (aEe aN<|bM _) aN) λl=>?_;refine aI<|fE (λk sd=>∃l,sd=[.val<|dI p,.own l<|(iV (2^p.1.toNat) k).map bF,.un,.un,.un]) (jF rfl zrange (PEd.cast (pdx<|pdv 0)<|by rw[<-e2])<|by omega) ⟨_,Le.refl _,l,rfl⟩ (λk d sdk hd hk=>?_) λsdn hn=>?_
 ·obtain⟨hk2,rfl⟩:=iU hd;obtain⟨l2,rfl⟩:=hk
  have hsm:(iV (2^p.1.toNat) k).length*2^p.1.toNat<=900:=by rw[rV];exact aAk p hp k hk2
  have lens:=yA (2^p.1.toNat) k;have eL:iV (2^p.1.toNat) (k+1)=(iV (2^p.1.toNat) k).flatMap λs=>(bI<|2^p.1.toNat).map λ(w:Nat)=>s++[(w:Int)]:=rfl
  rw[eL];generalize iV (2^p.1.toNat) k=L at *;refine⟨_,pgN 2,iO 1 rfl ?_⟩;refine aI<|sK 3 nd rfl (Or.inl rfl) (pO (ds:=[]) aN<|bM _) λl3=>?_;refine aI<|vX (λt=>[.val<|dI p,.val<|tL L,.un,.own l3<|((L.take t).flatMap λs=>(bI<|2^p.1.toNat).map λ(w:Nat)=>s++[(w:Int)]).map bF,.un]) (λt=>[.val<|dI p,.val<|tL L,.un,.own l3<|((L.take t).flatMap λs=>(bI<|2^p.1.toNat).map λ(w:Nat)=>s++[(w:Int)]).map bF,.val (bF<|L.getD t [])]) (fK<|pdv 1) ⟨.inr rfl,.inr rfl,.inl rfl,.inr rfl,.inr rfl,trivial⟩ (λt d hd=>?_) (λt d hd=>?_) ?_
  ·obtain⟨_,rfl⟩:=nJ hd;exact pgN 4
  ·obtain⟨ht,rfl⟩:=nJ hd;have hmem:L.getD t []∈L:=DL.getD_mem ht
   have et:L.take (t+1)=L.take t++[L.getD t []]:=by rw[gB];simp[bV,ht]
   have lk:=by
    have h1:(L.take t).length+1<=L.length:=by rw[cT];grind
    have h2:=rN (2^p.1.toNat) h1;rw[aGN] at h2;omega
   have ec:((kR 0<|2^p.1.toNat).filter λ_=>true).map (λd=>D.tup<|(L.getD t []).map D.int++[d])=((bI<|2^p.1.toNat).map λ(w:Nat)=>L.getD t []++[(w:Int)]).map bF:=by
    rw[cB.mpr λ_ _=>rfl];unfold kR;rw[aW,aW];refine bQ λw _=>?_
    simp[bF]
   have lt:=lens _ hmem;refine aX<|xF 3 rfl (pv 3) (PEd.val (PEd.cast (pdC (N:=["_law_word_here","_law_one"]) (M:=nl9) (cap:=[none,some 4]) (sc:=bN aEg) (Tb:=λd=>[.val d,.val (bF<|L.getD t [])]) (λ_=>true) (λd=>D.tup<|(L.getD t []).map D.int++[d]) (jF rfl zrange (wD (PEd.ic (pdx<|pdv 0) e1)<|by grind)<|by omega) (by rw[gJ];grind) (λcl C fp s H d _=>.inl ⟨rfl,rfl⟩) λcl C fp s H d _ _=>mD (pdv 1) (pdT<|aC (pdv 0) aN) ?_)<|by rw[ec])) ?_ ?_
   ·simp only[aA,bZ,iP];grind
   ·rw[aA,pF,aA,aA,eG];grind
   ·refine⟨.inr rfl,.inr rfl,.inr rfl,.inr ?_,.inl rfl,trivial⟩;rw[et,aGW,aO];simp
  ·rw[aA,dA];refine aX<|aHs 1 3 rfl nd rfl (Or.inl rfl) (pv 3) ?_;exact⟨_,Le.refl _,l3,rfl⟩
 ·obtain⟨l2,rfl⟩:=hn;refine aX<|mH 1 rfl (pv 1) ?_;show R.own _=R.own _;rw[gJ]
def aBi:∀k,k<10->decide (V.str (nm k)=V.str "down")=decide (k=9):=by decide+kernel
def aJt{ws:List Int}(h:i<ws.length):(ws.map D.int)[i]? =some (.int<|ws.getD i 0):=by simp[bV,h]
abbrev aQz:List Str:=["_law_size_here","_law_step","_law_filling"]
theorem aLF(F:FI K mg "_law_word" aJj):bA P w K mg base "_law_word" 1 3 aNP:=by
 refine cG (N:=["_law_size_here","_law_step","_law_filling","_law_most","_law_name","_law_a","_law_b"]) (ps:=aQz) F λf nd cdv A outer s H E hr ds r hl c=>?_
 obtain⟨p,⟨k,i,j,n⟩,ws,O,G,rfl,rfl⟩:=c;obtain⟨h1,h2,h3,h4,h5⟩:=yN p O.sz;have e1:p.1=((p.1.toNat)):=by grind
 have m0:=pw0 p.1.toNat;have wl:=G.len;obtain⟨_,k10,i0,j0,n0⟩:=O;simp only at i0 j0 k10;have ai:(ws.map D.int)[i.toNat]? =some (.int<|ws.getD i.toNat 0):=aJt (by grind);have aj:(ws.map D.int)[j.toNat]? =some (.int<|ws.getD j.toNat 0):=aJt (by grind);show PSd _ (init _ [dI p,jT k i j n,bF ws]) _ {nx:=λ_=>R.val (.int<|newW k ((2^p.1.toNat)) (ws.getD i.toNat 0) (ws.getD j.toNat 0) n)=.val .non,rt:=λr'=>r'=.val (.int<|newW k ((2^p.1.toNat:Nat)) (ws.getD i.toNat 0) (ws.getD j.toNat 0) n)};have t_put:=uW k k10;have t_not:=aBT k k10;have t_up:=aHf k k10;have t_dn:=aBi k k10;refine aI<|gO 3 (wD (PEd.ic (pdx<|pdv 0) e1)<|by grind) ?_
 by_cases k6:k<6
 ·have es:jT k i j n=.tup [.str<|nm k,.int i,.int j]:=by unfold jT;rw[if_pos k6]
  have en:newW k ((2^p.1.toNat:Nat)) (ws.getD i.toNat 0) (ws.getD j.toNat 0) n=aGZ k ((2^p.1.toNat:Nat)) (ws.getD i.toNat 0) (ws.getD j.toNat 0):=by unfold newW;rw[if_neg<|by grind,if_neg<|by grind]
  rw[es,en];refine aI<|gO 4 (pdx<|pdv 1) ?_;refine aI<|gO 5 (mS (pdv 2) (pdx<|pdv 1) i0.1 ai λ_ _=>rfl) ?_;refine aI (fM (cQ (pdv 4) dG rfl rfl rfl t_put) (decide_eq_false<|by grind)<|cM ?_);refine aI (fM (cQ (pdv 4) dG rfl rfl rfl t_not) (decide_eq_false<|by grind)<|cM ?_);refine aI (fM (cQ (pdv 4) dG rfl rfl rfl t_up) (decide_eq_false<|by grind)<|cM ?_);refine aI (fM (cQ (pdv 4) dG rfl rfl rfl t_dn) (decide_eq_false<|by grind)<|cM ?_);refine aI<|gO 6 (mS (pdv 2) (pdx<|pdv 1) j0.1 aj λ_ _=>rfl) ?_
  by_cases k0':k=0
  ·refine aI<|iE (cQ (pdv 4) dG rfl rfl rfl<|aDP k k10) (decide_eq_true k0') (aX<|cW (fP aJW (pdv 5)<|pdv 6) trivial ?_);rw[k0'];rfl
  refine aI (fM (cQ (pdv 4) dG rfl rfl rfl<|aDP k k10) (decide_eq_false k0')<|cM ?_)
  by_cases k1':k=1
  ·refine aI<|iE (cQ (pdv 4) dG rfl rfl rfl<|aKW k k10) (decide_eq_true k1') (aX<|cW (fP aNv (pdv 5)<|pdv 6) trivial ?_);rw[k1'];rfl
  refine aI (fM (cQ (pdv 4) dG rfl rfl rfl<|aKW k k10) (decide_eq_false k1')<|cM ?_)
  by_cases k2':k=2
  ·refine aI<|iE (cQ (pdv 4) dG rfl rfl rfl<|aEd k k10) (decide_eq_true k2') (aX<|cW (fP aJD (pdv 5)<|pdv 6) trivial ?_);rw[k2'];rfl
  refine aI (fM (cQ (pdv 4) dG rfl rfl rfl<|aEd k k10) (decide_eq_false k2')<|cM ?_)
  by_cases k3':k=3
  ·refine aI<|iE (cQ (pdv 4) dG rfl rfl rfl<|aDR k k10) (decide_eq_true k3') (aX<|cW (cN fB (fP gK (pdv 5)<|pdv 6) (pdv 3) m0) trivial ?_);rw[k3'];rfl
  refine aI (fM (cQ (pdv 4) dG rfl rfl rfl<|aDR k k10) (decide_eq_false k3')<|cM ?_)
  by_cases k4':k=4
  ·refine aI<|iE (cQ (pdv 4) dG rfl rfl rfl<|aAZ k k10) (decide_eq_true k4') (aX<|cW (cN fB (fP pG (pdv 5)<|pdv 6) (pdv 3) m0) trivial ?_);rw[k4'];rfl
  refine aI (fM (cQ (pdv 4) dG rfl rfl rfl<|aAZ k k10) (decide_eq_false k4')<|cM ?_);have k5:k=5:=by grind
  refine aX<|cW (pdv 6) trivial ?_;rw[k5];rfl
 by_cases k6':k=6
 ·have es:jT k i j n=.tup [.str<|nm k,.int i,.int n]:=by unfold jT;rw[if_neg k6,if_pos k6']
  rw[es];refine aI<|gO 4 (pdx<|pdv 1) ?_;refine aI<|gO 5 (mS (pdv 2) (pdx<|pdv 1) i0.1 ai λ_ _=>rfl) ?_;refine aI<|iE (cQ (pdv 4) dG rfl rfl rfl t_put) (decide_eq_true k6') (aX<|cW (pdx<|pdv 1) trivial ?_);rw[k6'];rfl
 have es:jT k i j n=.tup [.str<|nm k,.int i]:=by unfold jT;rw[if_neg k6,if_neg k6']
 rw[es];refine aI<|gO 4 (pdx<|pdv 1) ?_;refine aI<|gO 5 (mS (pdv 2) (pdx<|pdv 1) i0.1 ai λ_ _=>rfl) ?_;refine aI (fM (cQ (pdv 4) dG rfl rfl rfl t_put) (decide_eq_false<|by omega)<|cM ?_)
 by_cases k7:k=7
 ·refine aI<|iE (cQ (pdv 4) dG rfl rfl rfl t_not) (decide_eq_true k7) (aX<|cW (fP pG (fP pG (pdv 3) bO)<|pdv 5) trivial ?_);rw[k7];rfl
 refine aI (fM (cQ (pdv 4) dG rfl rfl rfl t_not) (decide_eq_false k7)<|cM ?_)
 by_cases k8:k=8
 ·refine aI<|iE (cQ (pdv 4) dG rfl rfl rfl t_up) (decide_eq_true k8) (aX<|cW (PEd.ic (cN fB (cN aPt bO (pdv 5)<|.inl ⟨by decide,by decide⟩) (pdv 3) m0)<|by rw[aSz]) trivial ?_);rw[k8];rfl
 refine aI (fM (cQ (pdv 4) dG rfl rfl rfl t_up) (decide_eq_false k8)<|cM ?_);have k9:k=9:=by grind
 refine aI<|iE (cQ (pdv 4) dG rfl rfl rfl t_dn) (decide_eq_true k9) (aX<|cW (cN nL (pdv 5) bO ⟨by decide,by decide⟩) trivial ?_);rw[k9];rfl
def aIB(q:SQ):∃es,sqD q=.tup (.str (nm q.1)::.int q.2.1::es):=by
 show ∃es,jT _ _ _ _=_;unfold jT
 split
 ·exact⟨_,rfl⟩
 ·split
  ·exact⟨_,rfl⟩
  ·exact⟨_,rfl⟩
theorem aIn(F:FI K mg "_law_after" aRT)(GW:bA P w K mg base "_law_word" 1 3 aNP):bA P w K mg base "_law_after" 2 3 aJw:=by
 refine cG (N:=aQz) (ps:=aQz) F λf nd cdv A outer s H E hr ds r hl c=>?_
 obtain⟨p,q,ws,O,G,rfl,rfl⟩:=c;obtain⟨h1,h2,h3,h4,h5⟩:=yN p O.sz;have wl:=G.len;have i0:=O.i0;have li:q.2.1.toNat<ws.length:=by grind
 have ei:q.2.1=((q.2.1.toNat)):=by grind
 obtain⟨es0,es1⟩:=aIB q;have bx:∀ {X:Cx}{sd:List Slot}{a:Expr}{n0:Nat}{p1 p2:Pos},PEd X sd a (.val<|sqD q)->PEd X sd (.Subscript a (.Constant (.int 1) n0 p1) p2) (.val (.int<|(q.2.1.toNat))):=λha=>PEd.ic (pdx (PEd.cast ha<|by rw[es1])) ei
 refine aX<|cW (PEd.cast (mD (mD (aBF (ol:=none) (oh:=some<|(q.2.1.toNat)) (pdv 2) trivial (bx<|pdv 1) ?_) (pdT (ds:=[.int<|nwQ p q ws])<|aC (pdc GW hr (aC (pdv 0) (aC (pdv 1)<|aC (pdv 2) aN)) ⟨p,q,ws,O,G,rfl,rfl⟩) aN) ?_) (aBF (ol:=some<|((q.2.1.toNat))+1) (oh:=none) (pdv 2) (fP gK (bx<|pdv 1) bO) trivial ?_) ?_) ?_) trivial rfl
 ·rw[HT.sIx_nat,aA];grind
 ·rw[uS ws li];simp ;grind
 ·have e:(((q.2.1.toNat))+1)=((q.2.1.toNat+1:Nat):Int):=by push_cast;rfl
  rw[e,HT.sIx_nat,aA];grind
 ·rw[uS ws li,sT ws li];simp ;grind
 ·rw[uS ws li,sT ws li];unfold bF onQ;rw[uX,if_pos li];simp
def aLN:∀k:Nat,k<10->([.str "and",.str "or",.str "xor",.str "add",.str "take",.str "copy",.str "put",.str "not",.str "up",.str "down"]:List D)[k]? =some (.str<|nm k):=by
 intro k hk
 match k,hk with
 |0,_=>rfl
 |1,_=>rfl
 |2,_=>rfl
 |3,_=>rfl
 |4,_=>rfl
 |5,_=>rfl
 |6,_=>rfl
 |7,_=>rfl
 |8,_=>rfl
 |9,_=>rfl
abbrev aSl:List Str:=["_law_size_here","_law_cell","_law_name","_law_i"]
theorem aLx(F:FI K mg "_law_drawn" aDW)(GM:bA P w K mg base "_law_mixed" 1 2 CMx):bA P w K mg base "_law_drawn" 2 2 aNX:=by
 refine cG (N:=aSl) (ps:=["_law_size_here","_law_cell"]) F λf nd cdv A outer s H E hr ds r hl c=>?_
 obtain⟨p,c,hp,rfl,rfl⟩:=c;obtain⟨h1,h2,h3,h4,h5⟩:=yN p hp;have m0:=pw0 p.1.toNat;have e1:p.1=((p.1.toNat)):=by grind
 have p20:(0)<p.2:=by omega
 have d0:=dU (mxS c 1) (show(10)≠0 by decide);have mx:∀ {sd:List Slot}{j0:Nat}{p1 p2 p3 p4:Pos} (k:Nat),k<=400->sd[1]? =some (.val<|.int c)->PEd (mJ CX0 P w K mg base aSl "_law_drawn" (bN aDW) f cdv A outer s H E).nox sd (.Call (.Name "_law_mixed" p1) [.Name "_law_cell" p2, .Constant (.int<|k) j0 p4] [] p3) (.val (.int<|mxS c k)):=λk hk hs=>pdc GM hr (aC (oF 1 hs<|pv 1)<|aC bO aN) ⟨c,k,rfl,hk,rfl⟩
 refine aI<|gO 2 (pY (PEd.bor (PEd.val<|pdL ?_)) (cN fB (mx 1 (by decide) rfl) bO<|by decide) d0 (aLN _<|by grind) λ_ _=>rfl) ?_
 ·show PAd _ _ _ [.val<|.str "and",.val<|.str "or",.val<|.str "xor",.val<|.str "add",.val<|.str "take",.val<|.str "copy",.val<|.str "put",.val<|.str "not",.val<|.str "up",.val<|.str "down"]
  repeat' (first|exact aN|refine aC dG ?_)
 refine aI<|gO 3 (cN fB (mx 2 (by decide) rfl) (pdx<|pdv 0) p20) ?_;have k10:(mxS c 1%10).toNat<10:=by grind
 show PSd _ _ _ {nx:=λ_=>R.val (jT (mxS c 1%10).toNat (mxS c 2%p.2) (mxS c 4%p.2)<|mxS c 3%((2^p.1.toNat)))=.val .non,rt:=λr'=>r'=.val (jT (mxS c 1%10).toNat (mxS c 2%p.2) (mxS c 4%p.2)<|mxS c 3%((2^p.1.toNat:Nat)))};generalize (mxS c 1%10).toNat=k at *
 by_cases k6:k=6
 ·refine aI<|iE (cQ (pdv 2) dG rfl rfl rfl<|uW k k10) (decide_eq_true k6) (aX<|cW (pdT (ds:=[.str<|nm k,.int<|mxS c 2%p.2,.int<|mxS c 3%((2^p.1.toNat:Nat))])<|aC (pdv 2) (aC (pdv 3)<|aC (cN fB (mx 3 (by decide) rfl) (wD (PEd.ic (pdx<|pdv 0) e1)<|by grind) m0) aN)) trivial ?_);show R.val _=R.val _;unfold jT;rw[if_neg<|by grind,if_pos k6]
 refine aI (fM (cQ (pdv 2) dG rfl rfl rfl<|uW k k10) (decide_eq_false k6)<|cM ?_)
 by_cases k7:7<=k
 ·refine aI (iE (PWd.pt<|oU (cQ (pdv 2) dG rfl rfl rfl<|aBT k k10) λ_=>oU (cQ (pdv 2) dG rfl rfl rfl<|aHf k k10) λ_=>oI (cQ (pdv 2) dG rfl rfl rfl<|aBi k k10)) (by rcases(by grind:k=7\/k=8\/k=9) with h|h|h<;>simp[h]) (aX<|cW (pdT (ds:=[.str<|nm k,.int<|mxS c 2%p.2]) (aC (pdv 2)<|aC (pdv 3) aN)) trivial ?_))
  show R.val _=R.val _;unfold jT;rw[if_neg<|by grind,if_neg k6]
 refine aI (fM (PWd.pt (oU (cQ (pdv 2) dG rfl rfl rfl (aBT k k10)) fun _=>oU (cQ (pdv 2) dG rfl rfl rfl (aHf k k10)) fun _=>oI (cQ (pdv 2) dG rfl rfl rfl (aBi k k10)))) (by
  have a1:¬ k=7:=by grind
  have a2:¬ k=8:=by grind
  have a3:¬ k=9:=by grind
  simp[a1,a2,a3]) (cM ?_))
 refine aX<|cW (pdT (ds:=[.str<|nm k,.int<|mxS c 2%p.2,.int<|mxS c 4%p.2])<|aC (pdv 2) (aC (pdv 3)<|aC (cN fB (mx 4 (by decide) rfl) (pdx<|pdv 0) p20) aN)) trivial ?_;show R.val _=R.val _;unfold jT;rw[if_pos<|by grind]
theorem aIH(F:FI K mg "_law_moves" aSi)(GF:bA P w K mg base "_law_fillings" 1 1 yO)(GA:bA P w K mg base "_law_after" 2 3 aJw):bA P w K mg base "_law_moves" 3 2 (aQA P w K):=by
 refine cG (N:=["_law_size_here","_law_kit_here","_law_moves_here","_law_step","_law_price_here","_law_made","_law_filling"]) (ps:=["_law_size_here","_law_kit_here"]) F λf nd cdv A outer s H E hr ds r hl c=>?_
 obtain⟨p,L,hp,S,rfl,rfl⟩:=c;have hu:=uN hr 2;have f9:(bU p).length<=64:=jR hp;have l8:=S.le;refine aI<|pH 2 (pO (ds:=[]) aN<|bM _) λl2=>?_;refine aI<|fE (λt sd=>sd=[.val<|dI p,.val<|lK L,.own l2 ((L.take t).map<|mgD P w K p),.un,.un,.un,.un]) (fK<|pdv 1) ⟨_,Le.refl _,rfl⟩ (λt d sdt hd ht=>?_) λsdn hn=>?_
 ·obtain⟨sk,hsk,rfl,et⟩:=lM hd;have O:=(S.st sk<|aQ hsk).1;have tk:((L.take t).map<|mgD P w K p).length<=1000:=by rw[aA,cT];grind
  rw[et,aO];subst ht;generalize (L.take t).map (mgD P w K p)=vs at tk;refine⟨[.val<|dI p,.val<|lK L,.own l2 vs,.val<|sqD sk.1,.val<|.int sk.2,.un,.un],iD (js:=[3,4]) rfl (cR (pgn 3)<|cR (pgn 4) iC) rfl rfl,?_⟩;refine aI<|rS (hkT P w) 5 nd rfl (Or.inl rfl) λl5=>?_;refine aI<|fE (ds:=(bU p).map bF) (λm sd=>sd=[.val<|dI p,.val<|lK L,.own l2 vs,.val<|sqD sk.1,.val<|.int sk.2,oG (hkT P w) K l5 (((bU p).take m).map inK) (((bU p).take m).map λws=>bF<|onQ p sk.1 ws),.un]) (fK (PEd.val<|pdc GF hr (aC (pdv 0) aN) ⟨p,hp,rfl,rfl⟩)) ⟨_,Le.refl _,rfl⟩ (λm d sdm hd hm=>?_) λsdn hn=>?_
  ·obtain⟨ws,hws,rfl,em⟩:=lM hd;have G:=lF hp (aQ hws)
   have nk:inK ws∉((bU p).take m).map inK:=λz=>by obtain⟨y,y1,y2⟩:=aJ.mp z;rw[aBj y2] at y1;exact aMl (aGA hp) hws y1
   have tk2:(((bU p).take m).map λws=>bF<|onQ p sk.1 ws).length<=1000:=by rw[aA,cT];grind
   rw[em,aO,aO];subst hm;generalize ((bU p).take m).map inK=ks at nk;generalize ((bU p).take m).map (λws=>bF<|onQ p sk.1 ws)=us at tk2;refine⟨[.val<|dI p,.val<|lK L,.own l2 vs,.val<|sqD sk.1,.val<|.int sk.2,oG (hkT P w) K l5 ks us,.val<|bF ws],pgN 6,?_⟩;exact aX (sJ 5 hu rfl (pv 5) (pdc GA hr (aC (pdv 0) (aC (pdv 3)<|aC (pdv 6) aN)) ⟨p,sk.1,ws,O,G,rfl,rfl⟩) (PEd.cast (pdv 6)<|by rw[show(hkT P w).dat (inK ws)=tD (inK ws) from rfl,aHo]) nk tk2<|nxt rfl)
  ·subst hn;rw[aA,dA];refine wV 5 rfl ?_;refine aX<|oR 2 rfl (pv 2) (pdv 5) tk ?_;exact(nxt rfl)
 ·subst hn;rw[aA,dA];exact aX<|mH 2 rfl (pv 2) rfl
def aFX(F:FI K mg "_law_size" aNs)(GM:bA P w K mg base "_law_mixed" 1 2 CMx):bA P w K mg base "_law_size" 2 1 aNE:=by
 refine cG (N:=["_law_cell"]) (ps:=["_law_cell"]) F λf nd cdv A outer s H E hr ds r hl c=>?_
 obtain⟨c,rfl,rfl⟩:=c;obtain⟨h1,h0⟩:=gL (mxS c 30) (n:=8)<|by decide
 have g:(sz8L.map dI)[(mxS c 30%8).toNat]? =some (dI<|sz8L.getD (mxS c 30%8).toNat (1,1)):=by have hl:(mxS c 30%8).toNat<sz8L.length:=h1;simp[bV,hl]
 refine aX (iL<|pY (PEd.bor (PEd.val<|pdL ?_)) (cN fB (pdc GM hr (aC (pdv 0)<|aC bO aN) ⟨c,30,rfl,by decide,rfl⟩) bO<|by decide) h0 g λ_ _=>rfl)
 repeat' (first|exact aN|refine aC (pdT (aC bO<|aC bO aN)) ?_)
noncomputable def vI:D->D
 |.tup [a,_]=>a
 |d=>d
noncomputable def aRE:D->List Slot
 |.tup [a,b]=>[.val a,.val b]
 |_=>[.un,.un]
abbrev aPX:List Str:=["_law_script","_law_start","_law_size_here","_law_head","_law_factor","_law_many","_law_kit_here","_law_k","_law_cell","_law_step"]
theorem aIk(F:FI K mg "_law_kit" aMX)(zrange:mg "range"=none)(zint:mg "int"=none)(GC:bA P w K mg base "_law_cell_at" 1 2 aHq)(GM:bA P w K mg base "_law_mixed" 1 2 CMx)(GD:bA P w K mg base "_law_drawn" 2 2 aNX):bA P w K mg base "_law_kit" 3 3 aKg:=by
 have nd3:(["_law_one","_law_price_here"]:List Str).Nodup:=by decide+kernel
 refine cG (N:=aPX) (ps:=["_law_script","_law_start","_law_size_here"]) F λf nd cdv A outer s H E hr ds r hl c=>?_
 obtain⟨p,ns,st,hp,hst,rfl,rfl⟩:=c;have hu:=uN hr 4;have mx:∀ {sd:List Slot}{x:Str}{p1 p2 p3 p4:Pos}{j1:Nat} (i:Nat) (c:Int) (k:Nat),k<=400->sd[i]? =some (.val<|.int c)->PE (mJ CX0 P w K mg base aPX "_law_kit" (bN aMX) f cdv A outer s H E).nox (.Name x p2) (kU i)->PEd (mJ CX0 P w K mg base aPX "_law_kit" (bN aMX) f cdv A outer s H E).nox sd (.Call (.Name "_law_mixed" p1) [.Name x p2, .Constant (.int<|k) j1 p3] [] p4) (.val (.int<|mxS c k)):=λi c k hk hs hx=>pdc GM hr (aC (oF i hs hx)<|aC bO aN) ⟨c,k,rfl,hk,rfl⟩
 refine aI<|gO 3 (pdc GC hr (aC (pdv 0)<|aC (pdv 1) aN) ⟨ns,st,rfl,by grind,rfl⟩) ?_;have eK:aHp p ns st=gC p ns st (tJ<|ns.getD st 0) (oS<|ns.getD st 0):=rfl;rw[eK];generalize ns.getD st 0=c;have hf:=xH c;obtain⟨m1,m2⟩:=aAw c;have eF:(([1,1,3]).map D.int)[(mxS c 10%3).toNat]? =some (.int<|tJ c):=xE<|(gL (mxS c 10)<|by decide).1;refine aI<|gO 4 (pY (PEd.bor<|PEd.val (pdL<|aC bO (aC bO<|aC bO aN))) (cN fB (mx 3 c 10 (by decide) rfl<|pv 3) bO<|by decide) (gL (mxS c 10)<|by decide).2 eF λ_ _=>rfl) ?_;refine aI<|gO (d:=.int<|(oS c)) 5 (PEd.ic (fP gK (fP gK bO (cN fB (mx 3 c 11 (by decide) rfl<|pv 3) bO<|by decide)) (aMo rfl zint<|aEq (cN fB (mx 3 c 12 (by decide) rfl<|pv 3) bO<|by decide) bO)) ?_) ?_
 ·have h0:=(gL (mxS c 11) (n:=4)<|by decide).2;have h0:=h0;unfold oS
  by_cases h:mxS c 12%8=1
  ·rw[if_pos h,if_pos<|decide_eq_true h];omega
  ·rw[if_neg h,if_neg<|by simpa using h];omega
 generalize tJ c=fc at hf;generalize oS c=mn at m1 m2;refine aI<|pH 6 (pO (ds:=[]) aN<|bM _) λl3=>?_;refine aI<|fE (λt sd=>sd=[.val<|.scr ns,.val (.int<|st),.val<|dI p,.un,.val<|.int fc,.un,.own l3<|(gC p ns st fc t).map skD,.un,.un,.un]) (jF rfl zrange (pdv 5)<|by omega) (nxt rfl) (λt d sdt hd ht=>?_) λsdn hn=>?_
 ·subst ht;obtain⟨ht,rfl⟩:=iU hd;rw[vS];refine⟨[.val<|.scr ns,.val (.int<|st),.val<|dI p,.un,.val<|.int fc,.un,.own l3<|(gC p ns st fc t).map skD,.val (.int<|t),.un,.un],pgN 7,?_⟩;have ll:(gC p ns st fc t).length<=5:=cF (uG hp ns st hf t).1 (by omega);have eN:gC p ns st fc (t+1)=if aHb (gC p ns st fc t) (drQ p<|ns.getD (st+1+t) 0) then gC p ns st fc t else gC p ns st fc t++[(drQ p<|ns.getD (st+1+t) 0,fc*aJc (ns.getD (st+1+t) 0))]:=rfl
  rw[eN];refine aI<|gO 8 (pdc GC hr (aC (pdv 0)<|aC (PEd.ic (fP gK (fP gK (pdv 1) bO)<|pdv 7)<|by omega) aN) ⟨ns,st+1+t,rfl,by omega,rfl⟩) ?_;generalize ns.getD (st+1+t) 0=x;generalize gC p ns st fc t=L at *;refine aI<|gO 9 (pdc GD hr (aC (pdv 2)<|aC (pdv 8) aN) ⟨p,x,hp,rfl,rfl⟩) ?_;generalize drQ p x=q
  have plc:plL ((L.map skD).map vI)=true/\jI ((L.map skD).map vI)<=1:=by rw[aW];exact⟨aFi (λs=>vI<|skD s) (λs=>aNJ s.1) _,aBX (λs=>vI<|skD s) 1 (λs=>aGM<|aOq s.1) _⟩
  have ef:((L.map skD).filter λ_=>true).map vI=(L.map skD).map vI:=by rw[cB.mpr λ_ _=>rfl]
  have es:((L.map skD).map vI).any (λz=>deq z<|sqD q)=aHb L q:=by unfold aHb;rw[aW];rfl
  have pb:=aER x;have eP:(([1,1,2,3]:List Int).map D.int)[(mxS x 5%4).toNat]? =some (.int<|aJc x):=xE (show(mxS x 5%4).toNat<([1,1,2,3]:List Int).length from(gL (mxS x 5)<|by decide).1);refine aX<|fR (PTd.lend 6 rfl (aOj rfl) (PTd.cast (zI (pdv 9) (PEd.val (PEd.cast (iZ (N:=["_law_one","_law_price_here"]) (M:=aPX) (cap:=[none,none]) (sc:=bN aMX) (Tb:=aRE) (λ_=>true) vI (fK<|pdv 6) (by rw[aA];omega) rfl (by decide+kernel) rfl (by decide+kernel) rfl (λcl C fp s H d hd=>?_) (λd hd=>?_) (λcl C fp s H d hd=>.inl ⟨rfl,rfl⟩) λcl C fp s H d hd _=>?_)<|by rw[ef])) (aNJ q) plc.1<|by have:=plc.2;show(A.deeper<|envOfC "_law_kit" (bN aMX) s.heap.objs.size f cdv).units+1+_<AR;omega)<|by rw[es])) (λh=>?_) λh=>?_
  ·obtain⟨s,_,rfl⟩:=aJ.mp hd;exact iD (js:=[0,1]) rfl (cR (pgn 0)<|cR (pgn 1) iC) rfl rfl
  ·obtain⟨s,_,rfl⟩:=aJ.mp hd;exact⟨.inl rfl,.inl rfl,trivial⟩
  ·obtain⟨s,_,rfl⟩:=aJ.mp hd;exact(pdv 0)
  ·have h':aHb L q=false:=by simpa using h
   rw[h'];refine aX<|oR 6 rfl (pv 6) (pdT (ds:=[sqD q,.int<|fc*aJc x]) (aC (pdv 9)<|aC (cN jB (pdv 4) (pY (PEd.bor (PEd.val<|pdL (aC bO<|aC bO (aC bO<|aC bO aN)))) (cN fB (mx 8 x 5 (by decide) rfl<|pv 8) bO<|by decide) (gL (mxS x 5)<|by decide).2 eP λ_ _=>rfl)<|jC (bY (by omega:_<=3)<|by decide) (bY (by omega:_<=3)<|by decide)) aN)) (by rw[aA];omega) ⟨[.val<|.scr ns,.val<|.int (st:Int),.val<|dI p,.un,.val<|.int fc,.un,.own l3<|(L++[(q,fc*aJc x)]).map skD,.un,.un,.un],⟨.inr rfl,.inr rfl,.inr rfl,.inr rfl,.inr rfl,.inr rfl,.inr ?_,.inl rfl,.inl rfl,.inl rfl,trivial⟩,rfl⟩;rw[aO];rfl
  ·have h':aHb L q=true:=by simpa using h
   rw[h'];exact cM<|nxt rfl
 ·subst hn;rw[gJ];refine iO 6 rfl ?_;exact aX (iL<|pdT (ds:=[lK<|gC p ns st fc mn,.int fc]) (aC (pdv 6)<|aC (pdv 4) aN))
abbrev aSe:List Str:=["_law_cell","_law_kit_here","_law_factor"]
theorem aHK(F:FI K mg "_law_bound" aSu)(zlen:mg "len"=none):bA P w K mg base "_law_bound" 1 3 aKb:=by
 refine cG (N:=aSe) (ps:=aSe) F λf nd cdv A outer s H E hr ds r hl c=>?_
 obtain⟨c,L,fc,l1,l2,hf,rfl,rfl⟩:=c;have g0:∀n,n<5->([12,5,4,3,2]).getD n 0=((([12,5,4,3,2]:List Nat).getD n 0):Int):=by decide+kernel
 have g:∀n,n<5->(([12,5,4,3,2]).map D.int)[n]? =some (.int ((([12,5,4,3,2]:List Nat).getD n 0:Nat):Int)):=λn hn=>by rw[<-g0 n hn];exact xE hn
 have g2:∀n:Nat,n<5->([12,5,4,3,2]:List Nat).getD n 0<=12:=by decide+kernel
 have gm:nR L.length<=12:=g2 _ (by grind);have h0:=dU c (show(nR L.length:Int)+1≠0 by grind);have h1:=dE c (show(0:Int)<(nR L.length)+1 by grind);refine aX (iL<|PEd.ic (fP gK (cN jB (pdv 2) (cN fB (pdv 0) (fP gK (pY (d:=.int<|(nR L.length)) (PEd.bor<|PEd.val (pdL (ds:=[.int 12,.int 5,.int 4,.int 3,.int 2])<|aC bO (aC bO<|aC bO (aC bO<|aC bO aN)))) (fP pG (PEd.ic (mU rfl zlen (PEd.bor<|pdv 1))<|by rw[aA]) bO) (by grind) ?_ λ_ _=>rfl) bO)<|by grind)<|jC (bY (by grind:_<=3)<|by decide) (bY (by grind:_<=13)<|by decide)) (cN fB (cN nL (pdv 0) bO ⟨by decide,by decide⟩) (pdv 2)<|by grind)) rfl);have e:((L.length:Int)-1).toNat=L.length-1:=by grind
 rw[e];exact g _<|by grind
abbrev aQC:List Str:=["_law_kit_here","_law_row_here"]
theorem aIi(F:FI K mg "_law_price" aQG)(zsum:mg "sum"=none):bA P w K mg base "_law_price" 1 2 aKG:=by
 refine cG (N:=aQC) (ps:=aQC) F λf nd cdv A outer s H E hr ds r hl c=>?_
 obtain⟨L,row,hrow,hl2,rfl,rfl⟩:=c;have nd2:(["_law_number","_law_kit_here"]:List Str).Nodup:=by decide+kernel
 have ec:((cS row).filter λ_=>true).map (λd=>match d with | .int t=>D.int (L.getD t.toNat AN).2|_=>.non)=(aKz L row).map D.int:=by
  rw[cB.mpr λ_ _=>rfl];unfold cS aKz;rw[aW,aW];refine bQ λt _=>?_
  simp
 refine aX<|iL (PEd.ic (aED rfl zsum (PEd.bor<|PEd.val (PEd.cast (pdC (M:=aQC) (cap:=[none,some 0]) (sc:=bN aQG) (λ_=>true) (λd=>match d with | .int t=>D.int (L.getD t.toNat AN).2|_=>.non) (lD<|pdv 1) (by rw[show(cS row).length=row.length from aA _];grind) (λcl C fp s H d hd=>.inl ⟨rfl,rfl⟩) λcl C fp s H d hd _=>?_)<|by rw[ec])))<|aKa L row);obtain⟨t,ht,rfl⟩:=aJ.mp hd;have hn:=hrow t ht;exact pdx<|mI (PEd.bor<|pdv 1) (pdv 0) (aEp hn) λ_ _=>rfl
abbrev nl15:List Str:=["_law_filling","_law_moves_here","_law_number"]
abbrev aSw:List Str:=["_law_size_here","_law_moves_here","_law_row_here","_law_table_here","_law_number"]
theorem aIw(F:FI K mg "_law_table" aQt)(ztuple:mg "tuple"=none)(GF:bA P w K mg base "_law_fillings" 1 1 yO):bA P w K mg base "_law_table" 2 3 (aJn P w K):=by
 have nd2:nl15.Nodup:=by decide+kernel
 refine cG (N:=aSw) (ps:=["_law_size_here","_law_moves_here","_law_row_here"]) F λf nd cdv A outer s H E hr ds r hl c=>?_
 obtain⟨p,L,row,hp,S,ho,rl,rfl,rfl⟩:=c;have hu:=uN hr 2;refine aI<|gO 3 (kP rfl ztuple<|PEd.bor (PEd.val<|pdc GF hr (aC (pdv 0) aN) ⟨p,hp,rfl,rfl⟩)) ?_;refine aI<|fE (λt sd=>sd=[.val<|dI p,.val<|.lst (L.map<|mgD P w K p),.val<|tN row,.val (.tup<|(S45.tabQ (fG p L) (bU p)<|row.take t).map bF),.un]) (lD<|pdv 2) ⟨_,Le.refl _,rfl⟩ (λt d sdt hd ht=>?_) λsdn hn=>?_
 ·subst ht;obtain⟨k,hk,rfl,et⟩:=lM hd;have kl:=ho k<|aQ hk;have hot:fO L (row.take t):=λi hi=>ho i (jG hi)
  have tl:=aAb hp S hot;have ti:=sG hp S hot;rw[et,S45.tab_snoc];have eB:∀T,fG p L k T=T.map (onQ p (L.getD k AN).1):=λ_=>rfl
  rw[eB]
  have mv1:(L.map<|mgD P w K p)[k]? =some (mgD P w K p<|L.getD k AN):=by rw[aY];simp[bV,kl]
  generalize S45.tabQ (fG p L) (bU p) (row.take t)=tab at tl ti;generalize L.getD k AN=sk at mv1;refine⟨[.val<|dI p,.val<|.lst (L.map<|mgD P w K p),.val<|tN row,.val (.tup<|tab.map bF),.val (.int<|k)],pgN 4,?_⟩
  have ec:((tab.map bF).filter λ_=>true).map (λd=>bF (onQ p sk.1<|kQ d))=(tab.map<|onQ p sk.1).map bF:=by
   rw[cB.mpr λ_ _=>rfl,aW,aW];refine bQ λws _=>?_
   show bF (onQ p sk.1 (kQ<|bF ws))=_;rw[iT];rfl
  refine aX (gO 3 (kP rfl ztuple (PEd.bor<|PEd.val (PEd.cast (iZ (N:=nl15) (M:=aSw) (cap:=[none,some 1,some 4]) (sc:=bN aQt) (λ_=>true) (λd=>bF (onQ p sk.1<|kQ d)) (lD<|pdv 3) (by rw[aA];grind) rfl (by decide+kernel) rfl (by decide+kernel) rfl (λcl C fp s H d hd=>pgN 0) (λd hd=>⟨.inl rfl,.inr rfl,.inr rfl,trivial⟩) (λcl C fp s H d hd=>.inl ⟨rfl,rfl⟩) λcl C2 fp s H d hd _=>?_)<|by rw[ec])))<|nxt rfl);obtain⟨ws,hw,rfl⟩:=tR hd;obtain⟨i,hi⟩:=cY<|ti ws hw;rw[iT];exact wB hu (pZ<|mI (PEd.bor<|pdv 1) (pdv 2) mv1 λ_ _=>rfl) (PEd.cast (pdv 0)<|by rw[show(hkT P w).dat (inK ws)=tD (inK ws) from rfl,aHo]) (by rw[aY,hi];rfl) (by rw[aY,hi];rfl) λ_ _=>rfl
 ·subst hn;rw[pP,dA];exact aX (iL<|pdv 3)
abbrev aSg:List Str:=["_law_script","_law_start","_law_kit_here","_law_bound_here","_law_row_here","_law_cell","_law_number"]
theorem aIo(F:FI K mg "_law_row" aQp)(zlen:mg "len"=none)(GP:bA P w K mg base "_law_price" 1 2 aKG):bA P w K mg base "_law_row" 2 4 aKp:=by
 refine cG (N:=aSg) (ps:=["_law_script","_law_start","_law_kit_here","_law_bound_here"]) F λf nd cdv A outer s H E hr ds r hl c=>?_
 obtain⟨ns,st,p,L,b,S,hb,hst,n63,hbit,rfl,rfl⟩:=c;have hL:=S.pos;have e0:aCJ L b ns st=uP L b [] (ns.drop st):=rfl;have cbit:∀c∈ns.drop st,aKC c:=λc hc=>hbit c<|lZ hc
 have cl:(ns.drop st).length<=63:=by rw[gN];grind
 have ec:DL.cutD (ns.map D.int) (some<|st) none=(ns.drop st).map D.int:=by rw[aFD,jZ]
 rw[e0];generalize ns.drop st=cs at cbit cl ec;refine aI<|gO 4 (pdT (ds:=[]) aN) ?_;refine aI<|fE (λt sd=>∃q,fO L q/\q.length<=t/\uP L b q (cs.drop t)=uP L b [] cs/\sd=[.val<|.scr ns,.val (.int<|st),.val<|lK L,.val<|.int b,.val (.tup<|cS q),.un,.un]) (fK<|PEd.val (PEd.cast (aPp (ol:=some<|st) (oh:=none) (pdv 0) (pdv 1) trivial)<|by rw[ec])) ⟨_,Le.refl _,[],λi hi=>(nomatch hi),aK _,rfl,rfl⟩ (λt d sdt hd ht=>?_) λsdn hn=>?_
 ·obtain⟨q,q1,q2,q3,rfl⟩:=ht;obtain⟨c,hc,rfl,_⟩:=lM hd;obtain⟨tl,etc⟩:=aE.mp hc;have cb:=cbit c<|aQ hc;have ed:cs.drop t=c::cs.drop (t+1):=by rw[dX tl,etc]
  rw[ed] at q3;have q3:(if b<S45.prQ (prK L) (q++[rE L c]) then q else uP L b (q++[rE L c]) (cs.drop<|t+1))=uP L b [] cs:=q3;have hn:=aES hL c
  have en:((rE L c))=c*16807%2147483647%(L.length):=by unfold rE;have:=(gL (c*16807%2147483647) hL).2;omega
  generalize rE L c=m at q3 hn en;refine⟨[.val<|.scr ns,.val (.int<|st),.val<|lK L,.val<|.int b,.val (.tup<|cS q),.val<|.int c,.un],pgN 5,?_⟩;refine aI<|gO (d:=.int<|m) 6 (PEd.ic (cN fB (cN fB (cN jB (pdv 5) bO (aLK cb<|by decide+kernel)) bO<|by decide) (PEd.ic (mU rfl zlen (PEd.bor<|pdv 2))<|by rw[aA])<|by grind) en.symm) ?_;have es:cS q++[.int<|m]=cS (q++[m]):=by unfold cS;rw[aO];rfl
  have ho1:fO L (q++[m]):=λi hi=>by
   rcases aS.mp hi with hi|hi
   ·exact q1 i hi
   ·rw[aH.mp hi];exact hn
  have ql:(q++[m]).length<=t+1:=by rw[aV];show _+1<=_;grind
  have longer:∀ {sd:List Slot}{p1 p2 p3 p4:Pos}{x1:Nat},sd[4]? =some (.val (.tup<|cS q))->sd[6]? =some (.val (.int<|m))->PEd (mJ CX0 P w K mg base aSg "_law_row" (bN aQp) f cdv A outer s H E).nox sd (.BinOp (.Name "_law_row_here" p1) .Add (.Tuple [.Name "_law_number" p2] x1 p3) p4) (.val<|.tup (cS<|q++[m])):=λh1 h2=>PEd.cast (mD (oF 4 h1<|pv 4) (pdT (ds:=[.int<|m])<|aC (oF 6 h2<|pv 6) aN)<|by rw[pP];show _+1<=1000;grind) (by rw[es])
  refine aI<|fR (nC aKT (pdc GP hr (aC (pdv 2)<|aC (longer rfl rfl) aN) ⟨L,q++[m],ho1,by grind,rfl,rfl⟩) (pdv 3)<|gR _) (λh=>?_) λh=>cM ?_
  ·rw[if_pos<|of_decide_eq_true h] at q3;rw[<-q3];exact aX (iL<|pdv 4)
  ·rw[if_neg<|of_decide_eq_false h] at q3;exact aX<|gO 4 (longer rfl rfl) ⟨[.val<|.scr ns,.val (.int<|st),.val<|lK L,.val<|.int b,.val<|.tup (cS<|q++[m]),.un,.un],⟨.inr rfl,.inr rfl,.inr rfl,.inr rfl,.inr rfl,.inl rfl,.inl rfl,trivial⟩,q++[m],ho1,ql,q3,rfl⟩
 ·obtain⟨q,q1,q2,q3,rfl⟩:=hn;rw[aA,wU] at q3;have q3:=q3;rw[<-q3];exact aX (iL<|pdv 4)
abbrev nl18:List Str:=["_law_one","_law_box","_law_filling"]
abbrev aRY:List Str:=["_law_size_here","_law_filling","_law_number","_law_box","_law_other"]
theorem aFN(F:FI K mg "_law_some" aHj)(zsorted:mg "sorted"=none)(zset:mg "set"=none)(GF:bA P w K mg base "_law_fillings" 1 1 yO):bA P w K mg base "_law_some" 2 3 aNG:=by
 have nd2:nl18.Nodup:=by decide+kernel
 refine cG (N:=aRY) (ps:=["_law_size_here","_law_filling","_law_number"]) F λf nd cdv A outer s H E hr ds r hl c=>?_
 obtain⟨p,g,n,hp,hg,rfl,rfl⟩:=c;have hu:(A.deeper<|envOfC "_law_some" (bN aHj) s.heap.objs.size f cdv).units+10<AR:=by have:=hr.un;grind
 have f9:(bU p).length<=64:=jR hp;have fpos:0<(bU p).length:=fC.mpr λz=>by rw[z] at hg;cases hg
 obtain⟨s1,s2,s3,s4,s5⟩:=yN p hp;have p20:(0)<p.2:=by omega
 have q0:=dU (n / 5)<|lA p20;have q1:=dE (n / 5) p20;have gl:=(lF hp hg).len;have e0:yR p g n=if n%5=0 then none else if n%5<3 then some [g] else if n%5=3 then some ((bU p).filter λh=>decide<|h.getD (n / 5%p.2).toNat 0=g.getD (n / 5%p.2).toNat 0) else some ((bU p).filter λh=>decide<|h∈[g,(bU p).getD (n / 40%((bU p).length)).toNat []]):=rfl
 rw[e0];refine aI<|gO (d:=.int<|((n / 5%p.2).toNat)) 3 (PEd.ic (cN fB (cN nL (pdv 2) bO ⟨by decide,by decide⟩) (pdx<|pdv 0) p20)<|by grind) ?_;have bl:(n / 5%p.2).toNat<p.2.toNat:=by grind
 generalize (n / 5%p.2).toNat=bx at bl;refine aI<|fR (rY (cN fB (pdv 2) bO<|by decide) bO) (λh=>?_) λh=>cM ?_
 ·rw[if_pos<|of_decide_eq_true h];exact aX<|iL kO
 rw[if_neg<|of_decide_eq_false h];refine aI<|fR (nC aDL (cN fB (pdv 2) bO<|by decide) bO<|gR _) (λh=>?_) λh=>cM ?_
 ·rw[if_pos<|of_decide_eq_true h];exact aX (iL<|PEd.val (pdL (ds:=[bF g])<|aC (pdv 1) aN))
 rw[if_neg<|of_decide_eq_false h];refine aI<|fR (rY (cN fB (pdv 2) bO<|by decide) bO) (λh=>?_) λh=>cM ?_
 ·rw[if_pos<|of_decide_eq_true h]
  have ec:(((bU p).map bF).filter λd=>decide<|(kQ d).getD bx 0=g.getD bx 0).map id=((bU p).filter λh=>decide<|h.getD bx 0=g.getD bx 0).map bF:=by
   rw[kH,aNh];congr 1;refine nZ λh _=>?_
   show decide ((kQ<|bF h).getD bx 0=_)=_;rw[iT]
  refine aX (iL<|PEd.val (PEd.cast (iZ (ds:=(bU p).map bF) (N:=nl18) (M:=aRY) (cap:=[none,some 3,some 1]) (sc:=bN aHj) (λd=>decide<|(kQ d).getD bx 0=g.getD bx 0) id (fK (PEd.val<|pdc GF hr (aC (pdv 0) aN) ⟨p,hp,rfl,rfl⟩)) (by rw[aA];grind) rfl (by decide+kernel) rfl (by decide+kernel) rfl (λcl C fp s H d hd=>pgN 0) (λd hd=>⟨.inl rfl,.inr rfl,.inr rfl,trivial⟩) (λcl C fp s H d hd=>.inr ⟨_,rfl,?_⟩) λcl C2 fp s H d hd _=>(pdv 0))<|by rw[ec]));obtain⟨h,hh,rfl⟩:=tR hd;have hl:=(lF hp hh).len;rw[iT];exact rY (rG (pdv 0) (pdv 1) (xE<|by grind) λ_ _=>rfl)<|rG (pdv 2) (pdv 1) (xE<|by grind) λ_ _=>rfl
 rw[if_neg<|of_decide_eq_false h]
 have em:p.1*p.2=((p.1.toNat*p.2.toNat:Nat)):=by rw[Int.natCast_mul];congr 1<;>grind
 have m6:p.1.toNat*p.2.toNat<=1000:=by
  have:((p.1.toNat*p.2.toNat:Nat):Int)<=6:=by rw[<-em];exact s5
  grind
 have e2:((2^(p.1.toNat*p.2.toNat):Nat))=((bU p).length:Int):=by unfold bU;rw[rV,<-Nat.pow_mul]
 obtain⟨o1,o0⟩:=gL (n / 40) fpos;have om:(bU p).getD (n / 40%((bU p).length)).toNat []∈bU p:=getD_mem o1;refine aI<|gO 4 (pY (ds:=(bU p).map bF) (PEd.bor (PEd.val<|pdc GF hr (aC (pdv 0) aN) ⟨p,hp,rfl,rfl⟩)) (cN fB (cN nL (pdv 2) bO ⟨by decide,by decide⟩) (PEd.ic (wD (PEd.ic (cN jB (pdx<|pdv 0) (pdx<|pdv 0)<|jC (bY (by grind:_<=6)<|by decide) (bY (by grind:_<=6)<|by decide)) em) m6) e2)<|by grind) o0 (sA o1) λ_ _=>rfl) ?_;generalize (bU p).getD (n / 40%((bU p).length:Int)).toNat []=o at om
 have inA:∀x∈[g,o],x∈bU p:=λx hx=>by
  rcases aP.mp hx with rfl|hx
  ·exact hg
  ·rw[aH.mp hx];exact om
 exact aX (iL (PEd.val (aBu hu rfl zsorted rfl zset (PEd.val (pdL (aC (pdv 1) (aC (pdv 4) aN)))) (fun x hx z=>by
  have:=(lF hp<|inA x hx).len;rw[z] at this;simp at this
  grind) (by show 2<=3;decide) (λx hx y hy=>aMf p hp x (inA x hx) y (inA y hy)) (λx hx y hy=>aIv hp (inA x hx) (inA y hy)) (λx=>⟨λh=>of_decide_eq_true (dZ.mp h).2,λh=>dZ.mpr ⟨inA x h,decide_eq_true h⟩⟩) ((aFv hp).filter _))))
theorem aFH(F:FI K mg "_law_wish" aOo)(zlen:mg "len"=none)(zrange:mg "range"=none)(GC:bA P w K mg base "_law_cell_at" 1 2 aHq)(GM:bA P w K mg base "_law_mixed" 1 2 CMx)(GS:bA P w K mg base "_law_some" 2 3 aNG):bA P w K mg base "_law_wish" 3 4 aNu:=by
 refine cG (N:=["_law_script","_law_start","_law_size_here","_law_table_here","_law_wish_here","_law_away","_law_k","_law_number","_law_filling"]) (ps:=["_law_script","_law_start","_law_size_here","_law_table_here"]) F λf nd cdv A outer s H E hr ds r hl c=>?_
 obtain⟨p,T,ns,st,hp,tl,tin,hst,rfl,rfl⟩:=c;have f9:(bU p).length<=64:=jR hp;refine aI<|pH 4 (pdL (ds:=[]) aN) λl4=>?_;refine aI<|gO 5 (aEq (cN fB (pdc GC hr (aC (pdv 0)<|aC (pdv 1) aN) ⟨ns,st,rfl,by grind,rfl⟩) bO<|by decide) bO) ?_;refine aI<|fE (λt sd=>sd=[.val<|.scr ns,.val (.int<|st),.val<|dI p,.val (.tup<|T.map bF),.own l4<|(rZ p T ns st t).map wsD,.val<|.bl (decide<|ns.getD st 0%6=1),.un,.un,.un]) (jF rfl zrange (PEd.ic (aET rfl zlen<|pdv 3)<|by rw[aA])<|by grind) ⟨_,Le.refl _,rfl⟩ (λt d sdt hd ht=>?_) λsdn hn=>?_
 ·subst ht;obtain⟨tT,rfl⟩:=iU hd;rw[vS,aCW];have wl:((rZ p T ns st t).map wsD).length<=1000:=by unfold rZ;rw[aA,aA,eG];grind
  generalize rZ p T ns st t=W at wl;refine⟨[.val<|.scr ns,.val (.int<|st),.val<|dI p,.val (.tup<|T.map bF),.own l4<|W.map wsD,.val<|.bl (decide<|ns.getD st 0%6=1),.val (.int<|t),.un,.un],pgN 6,?_⟩;refine aI<|gO 7 (pdc GM hr (aC (pdc GC hr (aC (pdv 0)<|aC (PEd.ic (fP gK (fP gK (pdv 1) bO)<|pdv 6)<|by grind) aN) ⟨ns,st+1+t,rfl,by grind,rfl⟩)<|aC (PEd.ic (fP gK bO<|pdv 6)<|by grind) aN) ⟨_,70+t,rfl,by grind,rfl⟩) ?_;generalize mxS (ns.getD (st+1+t) 0) (70+t)=n;have wi:=aEV tin (ns.getD st 0) n tT;have e0:aCL T (ns.getD st 0) n t=if ns.getD st 0%6=1 then T.getD (n / 7%(T.length)).toNat [] else T.getD t []:=rfl
  obtain⟨o1,o0⟩:=gL (n / 7) (show 0<T.length by grind);refine aI<|gO 8 (rG (pdv 3) (pdv 6) (sA tT) λ_ _=>rfl) ?_;generalize ns.getD st 0=a at wi e0;refine aHi (K:=∀g,aCL T a n t=g->PSd _ [.val<|.scr ns,.val (.int<|st),.val<|dI p,.val (.tup<|T.map bF),.own l4<|W.map wsD,.val<|.bl (decide<|a%6=1),.val (.int<|t),.val<|.int n,.val<|bF g] _ _) (λkey=>aI<|fR (mC<|pdv 5) (λh=>?_) λh=>cM (key _<|e0.trans (if_neg<|of_decide_eq_false h))) λg hg=>?_
  ·exact aX<|gO 8 (mS (pdv 3) (cN fB (cN nL (pdv 7) bO ⟨by decide,by decide⟩) (PEd.ic (aET rfl zlen<|pdv 3)<|by rw[aA])<|by grind) o0 (sA o1) λ_ _=>rfl) (key _<|e0.trans (if_pos<|of_decide_eq_true h))
  ·rw[hg] at wi ⊢;refine aX<|oR 4 rfl (pv 4) (pdc GS hr (aC (pdv 2) (aC (pdv 8)<|aC (pdv 7) aN)) ⟨p,g,n,hp,wi,rfl,rfl⟩) wl ⟨[.val<|.scr ns,.val (.int<|st),.val<|dI p,.val (.tup<|T.map bF),.own l4<|(W++[yR p g n]).map wsD,.val<|.bl (decide<|a%6=1),.un,.un,.un],⟨.inr rfl,.inr rfl,.inr rfl,.inr rfl,.inr ?_,.inr rfl,.inl rfl,.inl rfl,.inl rfl,trivial⟩,rfl⟩;rw[aO];rfl
 ·subst hn;rw[gJ];exact aX<|mH 4 rfl (pv 4) rfl
theorem aIg(F:FI K mg "_law_does" aRZ)(zzip:mg "zip"=none):bA P w K mg base "_law_does" 1 2 aNR:=by
 refine cG (N:=["_law_wish_here","_law_table_here","_law_some_here","_law_filling"]) (ps:=["_law_wish_here","_law_table_here"]) F λf nd cdv A outer s H E hr ds r hl c=>?_
 obtain⟨p,w,T,hp,W,OT,rfl,rfl⟩:=c;have hu:=uN hr 4;refine aI<|fE (λk sd=>(∀j,j<k->aKw w T j=false)/\sd=[.val (.lst<|w.map wsD),.val (.tup<|T.map bF),.un,.un]) (aLG false true rfl zzip (pdv 0)<|pdv 1) ⟨_,Le.refl _,λj hj=>by grind,rfl⟩ (λk d sdk hd hk=>?_) λsdn hn=>?_
 ·obtain⟨x,y,hx,hy,rfl⟩:=aCh hd;obtain⟨kW,rfl⟩:=aOY hx;obtain⟨kT,rfl⟩:=nJ hy;obtain⟨hn,rfl⟩:=hk;refine⟨[.val (.lst<|w.map wsD),.val (.tup<|T.map bF),.val (wsD<|w.getD k none),.val (bF<|T.getD k [])],iD (js:=[2,3]) rfl (cR (pgn 2)<|cR (pgn 3) iC) rfl rfl,?_⟩;refine aX (fR (k:=aKw w T k) ?_ (λh=>?_) λh=>cM ?_)
  ·unfold aKw;cases hq:w.getD k none with
   |none=>exact PWd.pt<|tV (j:=false) (tI (d:=.non) (pdv 2) kO) λh=>by cases h
   |some L=>exact PWd.pt (tV (j:= !decide (T.getD k []∈L)) (tI (d:=tL L) (pdv 2) kO) λ_=>yC (PTd.cast (zI (pdv 3) (pdv 2) (sD _) (lI L)<|by have:=kS L;show(A.deeper _).units+1+_<AR;grind)<|by rw[aCd]))
  ·refine aX<|cW yX trivial ?_;rw[show vC w (bU p) T=some ((bU p).getD k []) from xI (by rw[<-W.len];exact kW) h hn];rfl
  ·refine⟨[.val (.lst<|w.map wsD),.val (.tup<|T.map bF),.un,.un],⟨.inr rfl,.inr rfl,.inl rfl,.inl rfl,trivial⟩,λj hj=>?_,rfl⟩
   by_cases q:j<k
   ·exact hn j q
   ·have:j=k:=by grind
    subst this;exact h
 ·obtain⟨hn,rfl⟩:=hn;rw[yD,aA,aA,W.len,OT.len,kZ] at hn;refine aX<|cW yX trivial ?_;rw[show vC w (bU p) T=none from xR hn];rfl
def aKQ(e:Bk):D:=.tup [.tup<|e.2.2.map bF,enD e]
def aBv(row:List Nat)(k:Nat):cS (row++[k])=cS row++[.int (k:Int)]:=by unfold cS;rw[aO];rfl
abbrev nl20:List Str:=["_law_filling","_law_moves_here","_law_k"]
abbrev aMY:List Str:=["_law_size_here","_law_kit_here","_law_bound_here","_law_cell","_law_moves_here","_law_layers","_law_known","_law_price_here","_law_there","_law_row_here","_law_table_here","_law_k","_law_behind","_law_found_here","_law_entry"]
theorem aIO(F:FI K mg "_law_found" aKy)(zrange:mg "range"=none)(zlen:mg "len"=none)(ztuple:mg "tuple"=none)(GF:bA P w K mg base "_law_fillings" 1 1 yO)(GM:bA P w K mg base "_law_moves" 3 2 (aQA P w K))(GX:bA P w K mg base "_law_mixed" 1 2 CMx):bA P w K mg base "_law_found" 4 4 aKf:=by
 have nd2:nl20.Nodup:=by decide+kernel
 refine cG (N:=aMY) (ps:=["_law_size_here","_law_kit_here","_law_bound_here","_law_cell"]) F λf nd cdv A outer s H E hr ds r hl c=>?_
 obtain⟨p,L,c,U,nb,hp,S,b40,FU,rfl,rfl⟩:=c;have hu:=uN hr 2;have hu1:=uN hr 1;have f9:(bU p).length<=64:=jR hp;have l8:=S.le;have hpr:=S.pr;refine aI<|pH 4 (pdc GM hr (aC (pdv 0)<|aC (pdv 1) aN) ⟨p,L,hp,S,rfl,rfl⟩) λl2=>iO 4 rfl ?_;refine aI<|aFG (-1) 5 nd rfl (Or.inl rfl) λl3=>?_;refine aI (aFU 5 rfl (pdL (ds:=[eD ([],bU p)])<|aC (pdT (aC (pdT aN)<|aC (kP rfl ztuple<|PEd.bor (PEd.val<|pdc GF hr (aC (pdv 0) aN) ⟨p,hp,rfl,rfl⟩)) aN)) aN) (by decide) rfl (iX rfl) (λa ls'=>?_)<|aMn hu1 (pv 5) pe_int fH rfl);refine aI<|rS (hkN P w) 6 nd rfl (Or.inl rfl) λl4=>?_
 have e0:nV (λ_=>[]) 0 [eD ([],bU p)]=lyD (nD p L (decide<|c%2=1) 0):=funext λj=>by
  show(if j=0 then[eD ([],bU p)] else[])=List.map eD (if j=0 then[(([]:List Nat),bU p)] else[])
  split<;>rfl
 rw[e0];have fQ:qM p L nb c=mW c (nD p L (decide<|c%2=1) nb).1:=rfl;refine aI<|fE (λt sd=>∃q kvs ls,q+1=(t:Int)/\kvs.length<=1+8*(nD p L (decide<|c%2=1) t).1.length/\sd=[.val<|dI p,.val<|lK L,.val (.int<|(nb:Int)-1),.val<|.int c,.val<|.lst (L.map<|mgD P w K p),oLy K l3 q (lyD<|nD p L (decide<|c%2=1) t) kvs ls,oG (hkN P w) K l4 (ksE (nD p L (decide<|c%2=1) t).1)<|(nD p L (decide<|c%2=1) t).1.map enD,.un,.un,.un,.un,.un,.un,.un,.un]) (jF (n:=nb) rfl zrange (PEd.ic (fP gK (pdv 2) bO)<|by grind)<|by grind) ⟨_,Le.refl _, -1,_,_,rfl,lR 1 _,rfl⟩ (λt d sdt hd ht=>?_) λsdn hn=>?_
 ·obtain⟨q,kvs,ls,hq,hkv,rfl⟩:=ht;obtain⟨ht,rfl⟩:=iU hd;rw[vS];have oT:=S45.ok_run43 (beh:=fG p L) (t0:=bU p) hpr (decide<|c%2=1) t;have bT:S45.Bd L.length (nD p L (decide<|c%2=1) t):=S45.run43_bd _ t;have eR:nD p L (decide<|c%2=1) (t+1)=(S45.ordB (decide<|c%2=1)<|(nD p L (decide<|c%2=1) t).2 (t:Int)).foldl (S45.one L.length (prK L) (fG p L) (t:Int)) (nD p L (decide<|c%2=1) t):=rfl;rw[eR];have oT:S45.Ok L.length (prK L) (fG p L) (bU p) (t:Int) (S45.ordB (decide<|c%2=1)<|(nD p L (decide<|c%2=1) t).2 (t:Int)) (nD p L (decide<|c%2=1) t):=oT;generalize nD p L (decide<|c%2=1) t=s0 at oT bT hkv;refine⟨[.val<|dI p,.val<|lK L,.val (.int<|(nb:Int)-1),.val<|.int c,.val<|.lst (L.map<|mgD P w K p),oLy K l3 q (lyD s0) kvs ls,oG (hkN P w) K l4 (ksE s0.1)<|s0.1.map enD,.val<|.int (t:Int),.un,.un,.un,.un,.un,.un,.un],pgN 7,?_⟩;refine aMN 5 rfl λls'=>?_
  rw[hq];refine aI<|gO 8 (aIf 5 hu1 rfl (pv 5) (pdv 7) ⟨rfl,rfl,rfl,rfl⟩) ?_;refine aHi (K:=∀Ls,S45.ordB (decide<|c%2=1) (s0.2 (t:Int))=Ls->PSd _ [.val<|dI p,.val<|lK L,.val (.int<|(nb:Int)-1),.val<|.int c,.val<|.lst (L.map<|mgD P w K p),oLy K l3 (t:Int) (lyD s0) kvs ls',oG (hkN P w) K l4 (ksE s0.1)<|s0.1.map enD,.val<|.int (t:Int),.val (.lst<|Ls.map eD),.un,.un,.un,.un,.un,.un] _ _) (λkey=>aI<|fR (rY (cN fB (pdv 3) bO<|by decide) bO) (λh=>?_) λh=>cM (key (s0.2 (t:Int))<|by rw[h];rfl)) λLs hLs=>?_
  ·refine aX<|pH 8 (PEd.cast (aMK (ol:=none) (oh:=none) (ok:=some (-1)) (PEd.bor<|pdv 8) trivial trivial (aJB bO)<|by decide)<|by rw[aFy]) λl8=>iO 8 rfl ?_;have k:=key (s0.2 (t:Int)).reverse (by rw[h];rfl);have er:((s0.2 (t:Int)).reverse).map eD=(lyD s0 (t:Int)).reverse:=by unfold lyD;rw[aMR]
   rw[er] at k;exact k
  rw[hLs] at oT ⊢;clear hLs eR e0;refine aX<|fE (ds:=Ls.map eD) (λj sd=>∃kvs ls s,s=(Ls.take j).foldl (S45.one L.length (prK L) (fG p L) (t:Int)) s0/\kvs.length<=1+8*s.1.length/\sd=[.val<|dI p,.val<|lK L,.val (.int<|(nb:Int)-1),.val<|.int c,.val<|.lst (L.map<|mgD P w K p),oLy K l3 (t:Int) (lyD s) kvs ls,oG (hkN P w) K l4 (ksE s.1)<|s.1.map enD,.val<|.int (t:Int),.val (.lst<|Ls.map eD),.un,.un,.un,.un,.un,.un]) (fK<|pdv 8) ⟨_,Le.refl _,kvs,ls',s0,rfl,hkv,rfl⟩ (λj d sdj hd hj=>?_) λsdn hn=>?_
  ·obtain⟨kvs,ls,s,es,hkv,rfl⟩:=hj;obtain⟨x,hx,rfl,ex⟩:=lM hd
   have o:S45.Ok L.length (prK L) (fG p L) (bU p) (t:Int) (Ls.drop j) s:=by rw[es];exact S45.Ok.take hpr (by grind) j oT
   have bb:S45.Bd L.length s:=by rw[es];exact S45.fold_bd bT
   have xr:x∈Ls.drop j:=by refine aQ (i:=0) ?_;rw[aIT];exact hx
   obtain⟨x1,x2,x3,_⟩:=o.ly _ x<|o.sub x xr
   have rl:x.1.length<=40:=by
    have:=S45.len_pr (pr:=prK L) x.1 λk hk=>hpr k<|x2 k hk
    grind
   have tl:x.2.length<=64:=by rw[x3];exact aAb hp S x2
   have ti:∀ws∈x.2,ws∈bU p:=λws hw=>by rw[x3] at hw;exact sG hp S x2 ws hw
   have sl:s.1.length<=400:=aKO FU (by grind) o
   have eS:(Ls.take<|j+1).foldl (S45.one L.length (prK L) (fG p L) (t:Int)) s0=S45.one L.length (prK L) (fG p L) (t:Int) s x:=by rw[ex,iW,es];rfl
   rw[eS];clear eS ex es xr hx hd o x1 x3;obtain⟨row,tab⟩:=x;have rl:row.length<=40:=rl;have tl:tab.length<=64:=tl;have ti:∀ws∈tab,ws∈bU p:=ti;have kd:∀ {X:Cx}{sd:List Slot}{e:Expr},PEd X sd e (.val (.tup<|tab.map bF))->PEd X sd e (.val ((hkN P w).dat<|tbK tab)):=λh=>PEd.cast h (by rw[show(hkN P w).dat (tbK tab)=D.tup ((tbK tab).map tD) from rfl,aNY])
   have inj:decide (tab∈s.1.map λx=>x.2.2)=true↔tbK tab∈ksE s.1:=by
    rw[decide_eq_true_iff]
    constructor
    ·intro h;obtain⟨e,e1,e2⟩:=aJ.mp h;exact aJ.mpr ⟨e,e1,by rw[e2]⟩
    ·intro h;obtain⟨e,e1,e2⟩:=aJ.mp h;exact aJ.mpr ⟨e,e1,vF e2⟩
   refine⟨[.val<|dI p,.val<|lK L,.val (.int<|(nb:Int)-1),.val<|.int c,.val<|.lst (L.map<|mgD P w K p),oLy K l3 (t:Int) (lyD s) kvs ls,oG (hkN P w) K l4 (ksE s.1)<|s.1.map enD,.val<|.int (t:Int),.val (.lst<|Ls.map eD),.val (.tup<|cS row),.val (.tup<|tab.map bF),.un,.un,.un,.un],iD (ds:=[.tup<|cS row,.tup<|tab.map bF]) (js:=[9,10]) rfl (cR (pgn 9)<|cR (pgn 10) iC) rfl rfl,?_⟩;refine aX<|fR (k:= !decide (tab∈s.1.map λx=>x.2.2)) (aCt (hk:=hkN P w) (k:=tbK tab) inj hu (kd<|pdv 10) (aBg 6 rfl<|pv 6)) (λh=>?_) λh=>?_
   ·have n1:tab∉s.1.map λx=>x.2.2:=by simpa using h
    have nk:tbK tab∉ksE s.1:=λz=>n1 (of_decide_eq_true<|inj.mpr z)
    have e1:S45.one L.length (prK L) (fG p L) (t:Int) s (row,tab)=(s.1++[((t:Int),row,tab)],S45.put (prK L) (fG p L) t row tab L.length s.2):=by unfold S45.one;rw[if_pos ⟨n1,by grind⟩]
    rw[e1];clear e1 inj h;refine aI<|sJ (hk:=hkN P w) (k:=tbK tab) (d:=enD ((t:Int),row,tab)) 6 hu rfl (pv 6) (pdT (ds:=[.int (t:Int),.tup<|cS row,.tup<|tab.map bF])<|aC (pdv 7) (aC (pdv 9)<|aC (pdv 10) aN)) (kd<|pdv 10) nk (by rw[aA];grind) ?_
    have ek:ksE s.1++[tbK tab]=ksE (s.1++[((t:Int),row,tab)]):=by unfold ksE;rw[aO];rfl
    have ev:s.1.map enD++[enD ((t:Int),row,tab)]=(s.1++[((t:Int),row,tab)]).map enD:=by rw[aO];rfl
    rw[ek,ev];refine aX<|fE (ds:=kR 0 L.length) (λm sd=>∃kvs' ls,kvs'.length<=kvs.length+m/\sd=[.val<|dI p,.val<|lK L,.val (.int<|(nb:Int)-1),.val<|.int c,.val<|.lst (L.map<|mgD P w K p),oLy K l3 (t:Int) (λj=>(S45.put (prK L) (fG p L) t row tab m s.2 j).map eD) kvs' ls,oG (hkN P w) K l4 (ksE<|s.1++[((t:Int),row,tab)])<|(s.1++[((t:Int),row,tab)]).map enD,.val<|.int (t:Int),.val (.lst<|Ls.map eD),.val (.tup<|cS row),.val (.tup<|tab.map bF),.un,.un,.un,.un]) (jF (n:=L.length) rfl zrange (PEd.ic (mU rfl zlen (PEd.bor<|pdv 1))<|by rw[aA])<|by grind) ⟨_,Le.refl _,kvs,ls,aK _,rfl⟩ (λm d sdm hd hm=>?_) λsdn hn=>?_
    ·obtain⟨kvs',ls,hk',rfl⟩:=hm;obtain⟨ml,rfl⟩:=iU hd;rw[vS];have pl1:=S45.put_len (pr:=prK L) (beh:=fG p L) (t:Int) row tab s.2 m;have b1:=bb<|(t:Int)+prK L m;have b2:L.length*s.1.length<=8*s.1.length:=rN _ l8;have p1:=pl1<|(t:Int)+prK L m;have gm:=hpr m ml;have sk1:(L.map skD)[m]? =some (skD<|L.getD m AN):=aEp ml
     have mv1:(L.map<|mgD P w K p)[m]? =some (mgD P w K p<|L.getD m AN):=by rw[aY];simp[bV,ml]
     have eB:fG p L m tab=tab.map (onQ p (L.getD m AN).1):=rfl;have eP:prK L m=(L.getD m AN).2:=rfl
     have eU:(λj=>(S45.put (prK L) (fG p L) t row tab (m+1) s.2 j).map eD)=nV (λj=>(S45.put (prK L) (fG p L) t row tab m s.2 j).map eD) ((t:Int)+prK L m) ((S45.put (prK L) (fG p L) t row tab m s.2<|(t:Int)+prK L m).map eD++[eD (row++[m],fG p L m tab)]):=funext λj=>by
      show(if j=(t:Int)+prK L m then S45.put (prK L) (fG p L) t row tab m s.2 j++[(row++[m],fG p L m tab)] else S45.put (prK L) (fG p L) t row tab m s.2 j).map eD=if j=(t:Int)+prK L m then _ else _
      split
      ·next z=>rw[z,aO];rfl
      ·rfl
     rw[eU];generalize S45.put (prK L) (fG p L) t row tab m s.2=ly at p1;generalize L.getD m AN=sk at sk1 mv1 eB eP;rw[eB];refine⟨[.val<|dI p,.val<|lK L,.val (.int<|(nb:Int)-1),.val<|.int c,.val<|.lst (L.map<|mgD P w K p),oLy K l3 (t:Int) (λj=>(ly j).map eD) kvs' ls,oG (hkN P w) K l4 (ksE<|s.1++[((t:Int),row,tab)])<|(s.1++[((t:Int),row,tab)]).map enD,.val<|.int (t:Int),.val (.lst<|Ls.map eD),.val (.tup<|cS row),.val (.tup<|tab.map bF),.val<|.int (m:Int),.un,.un,.un],pgN 11,?_⟩
     have ec:((tab.map bF).filter λ_=>true).map (λd=>bF (onQ p sk.1<|kQ d))=(tab.map<|onQ p sk.1).map bF:=by
      rw[cB.mpr λ_ _=>rfl,aW,aW];refine bQ λws _=>?_
      show bF (onQ p sk.1 (kQ<|bF ws))=_;rw[iT];rfl
     refine aI<|gO (d:=.tup<|(tab.map<|onQ p sk.1).map bF) 12 (kP rfl ztuple (PEd.bor<|PEd.val (PEd.cast (iZ (ds:=tab.map bF) (N:=nl20) (M:=aMY) (cap:=[none,some 4,some 11]) (sc:=bN aKy) (Tb:=λd=>[.val d,.val<|.lst (L.map<|mgD P w K p),.val<|.int (m:Int)]) (λ_=>true) (λd=>bF (onQ p sk.1<|kQ d)) (lD<|pdv 10) (by rw[aA];grind) rfl (by decide+kernel) rfl (by decide+kernel) rfl (λcl C fp s H d hd=>pgN 0) (λd hd=>⟨.inl rfl,.inr rfl,.inr rfl,trivial⟩) (λcl C fp s H d hd=>.inl ⟨rfl,rfl⟩) λcl C2 fp s H d hd _=>?_)<|by rw[ec]))) ?_
     ·obtain⟨ws,hw,rfl⟩:=tR hd;obtain⟨i,hi⟩:=cY<|ti ws hw;rw[iT];exact wB (hk:=hkT P w) (k:=inK ws) (n:=i) (d:=bF<|onQ p sk.1 ws) hu (pZ<|mI (n:=m) (PEd.bor<|pdv 1) (pdv 2) mv1 λ_ _=>rfl) (PEd.cast (pdv 0)<|by rw[show(hkT P w).dat (inK ws)=tD (inK ws) from rfl,aHo]) (by rw[aY,hi];rfl) (by rw[aY,hi];rfl) λ_ _=>rfl
     refine aX<|aGf (k:=(t:Int)+prK L m) (d:=eD (row++[m],tab.map<|onQ p sk.1)) 5 rfl (pv 5) (fP gK (pdv 7)<|PEd.ic (pdx (n:=1) (ds:=[sqD sk.1,.int sk.2]) (d:=.int sk.2)<|mI (n:=m) (PEd.bor<|pdv 1) (pdv 11) sk1 λ_ _=>rfl) eP.symm) (λz=>pdT (ds:=[.tup (cS<|row++[m]),.tup<|(tab.map<|onQ p sk.1).map bF]) (aC (PEd.cast (mD (pdv 9) (pdT (ds:=[.int (m:Int)])<|aC (pdv 11) aN) ?_)<|by rw[aBv])<|aC (pdv 12) aN)) (by grind) (by grind) ?_ λkvs2 ls2 hk2=>?_
     ·unfold cS;rw[aA];show row.length+1<=1000;grind
     ·show((ly<|(t:Int)+prK L m).map eD).length<=100000;rw[aA];grind
     ·exact⟨[.val<|dI p,.val<|lK L,.val (.int<|(nb:Int)-1),.val<|.int c,.val<|.lst (L.map<|mgD P w K p),oLy K l3 (t:Int) (nV (λj=>(ly j).map eD) ((t:Int)+prK L m)<|(ly<|(t:Int)+prK L m).map eD++[eD (row++[m],tab.map<|onQ p sk.1)]) kvs2 ls2,oG (hkN P w) K l4 (ksE<|s.1++[((t:Int),row,tab)])<|(s.1++[((t:Int),row,tab)]).map enD,.val<|.int (t:Int),.val (.lst<|Ls.map eD),.val (.tup<|cS row),.val (.tup<|tab.map bF),.un,.un,.un,.un],⟨.inr rfl,.inr rfl,.inr rfl,.inr rfl,.inr rfl,.inr rfl,.inr rfl,.inr rfl,.inr rfl,.inr rfl,.inr rfl,.inl rfl,.inl rfl,.inr rfl,.inr rfl,trivial⟩,kvs2,ls2,by grind,rfl⟩
    ·obtain⟨kvs',ls,hk',rfl⟩:=hn;rw[gJ] at hk' ⊢;exact⟨[.val<|dI p,.val<|lK L,.val (.int<|(nb:Int)-1),.val<|.int c,.val<|.lst (L.map<|mgD P w K p),oLy K l3 (t:Int) (lyD (s.1++[((t:Int),row,tab)],S45.put (prK L) (fG p L) t row tab L.length s.2)) kvs' ls,oG (hkN P w) K l4 (ksE<|s.1++[((t:Int),row,tab)])<|(s.1++[((t:Int),row,tab)]).map enD,.val<|.int (t:Int),.val (.lst<|Ls.map eD),.un,.un,.un,.un,.un,.un],⟨.inr rfl,.inr rfl,.inr rfl,.inr rfl,.inr rfl,.inr rfl,.inr rfl,.inr rfl,.inr rfl,.inl rfl,.inl rfl,.inr rfl,.inr rfl,.inr rfl,.inr rfl,trivial⟩,kvs',ls,_,rfl,by show _<=1+8*(s.1++[_]).length;rw[aV];show _<=1+8*(s.1.length+1);grind,rfl⟩
   ·have e1:S45.one L.length (prK L) (fG p L) (t:Int) s (row,tab)=s:=by
     unfold S45.one;refine if_neg λz=>?_
     rw[decide_eq_false z.1] at h;cases h
    rw[e1];exact cM ⟨[.val<|dI p,.val<|lK L,.val (.int<|(nb:Int)-1),.val<|.int c,.val<|.lst (L.map<|mgD P w K p),oLy K l3 (t:Int) (lyD s) kvs ls,oG (hkN P w) K l4 (ksE s.1)<|s.1.map enD,.val<|.int (t:Int),.val (.lst<|Ls.map eD),.un,.un,.un,.un,.un,.un],⟨.inr rfl,.inr rfl,.inr rfl,.inr rfl,.inr rfl,.inr rfl,.inr rfl,.inr rfl,.inr rfl,.inl rfl,.inl rfl,.inr rfl,.inr rfl,.inr rfl,.inr rfl,trivial⟩,kvs,ls,s,rfl,hkv,rfl⟩
  ·obtain⟨kvs,ls,s,es,hkv,rfl⟩:=hn;rw[aA,dA] at es;subst es;exact⟨[.val<|dI p,.val<|lK L,.val (.int<|(nb:Int)-1),.val<|.int c,.val<|.lst (L.map<|mgD P w K p),oLy K l3 (t:Int) (lyD<|Ls.foldl (S45.one L.length (prK L) (fG p L) (t:Int)) s0) kvs ls,oG (hkN P w) K l4 (ksE (Ls.foldl (S45.one L.length (prK L) (fG p L) (t:Int)) s0).1)<|(Ls.foldl (S45.one L.length (prK L) (fG p L) (t:Int)) s0).1.map enD,.un,.un,.un,.un,.un,.un,.un,.un],⟨.inr rfl,.inr rfl,.inr rfl,.inr rfl,.inr rfl,.inr rfl,.inr rfl,.inl rfl,.inl rfl,.inr rfl,.inr rfl,.inr rfl,.inr rfl,.inr rfl,.inr rfl,trivial⟩,(t:Int),kvs,ls,by grind,hkv,rfl⟩
 ·obtain⟨q,kvs,ls,hq,hkv,rfl⟩:=hn;rw[gJ,fQ]
  have sl:(nD p L (decide<|c%2=1) nb).1.length<=400:=by
   cases nb with
   |zero=>exact bM _
   |succ b=>exact aKO FU (show(b:Int)<=((b+1:Nat):Int)-1 by grind) (S45.Ok.fold S.pr (kI b)<|S45.ok_run43 (beh:=fG p L) (t0:=bU p) S.pr (decide<|c%2=1) b)
  generalize (nD p L (decide<|c%2=1) nb).1=B at sl;refine wV 6 rfl ?_;refine aI<|pH (ds:=(mW c []).map enD) 13 (pdL (ds:=[]) aN) λl13=>?_
  have ei:(((ksE B).zip<|B.map enD).map λp=>D.tup [(hkN P w).dat p.1,p.2])=B.map aKQ:=by
   unfold ksE;rw[List.zip_map',aW];refine bQ λe _=>?_
   show D.tup [(hkN P w).dat<|tbK e.2.2,enD e]=D.tup [.tup<|e.2.2.map bF,enD e];rw[show(hkN P w).dat (tbK e.2.2)=D.tup ((tbK e.2.2).map tD) from rfl,aNY]
  refine aBO (sd':=[.val<|dI p,.val<|lK L,.val (.int<|(nb:Int)-1),.val<|.int c,.val<|.lst (L.map<|mgD P w K p),.un,.val (gD (hkN P w) K (ksE B)<|B.map enD),.un,.un,.un,.un,.un,.un,.own l13<|(mW c []).map enD,.un]) ⟨.inr rfl,.inr rfl,.inr rfl,.inr rfl,.inr rfl,.inl rfl,.inr rfl,.inr rfl,.inr rfl,.inr rfl,.inr rfl,.inr rfl,.inr rfl,.inr rfl,.inr rfl,trivial⟩ ?_
  have hit:∀ {elts:List Expr}{kk:Nat}{tp p1 ap cp:Pos},(ap.endLine==cp.line)=true->PId (mJ CX0 P w K mg base aMY "_law_found" (bN aKy) f cdv A outer s H E).nox [.val<|dI p,.val<|lK L,.val (.int<|(nb:Int)-1),.val<|.int c,.val<|.lst (L.map<|mgD P w K p),.un,.val (gD (hkN P w) K (ksE B)<|B.map enD),.un,.un,.un,.un,.un,.un,.own l13<|(mW c []).map enD,.un] PT0 (.Tuple elts kk tp) (.Call (.Attribute (.Name "_law_known" p1) "items" ap) [] [] cp) (B.map aKQ):=λ{_ _ _ p1 _ _} hl=>by rw[<-ei];have v4:PEd (mJ CX0 P w K mg base aMY "_law_found" (bN aKy) f cdv A outer s H E).nox [.val<|dI p,.val<|lK L,.val (.int<|(nb:Int)-1),.val<|.int c,.val<|.lst (L.map<|mgD P w K p),.un,.val (gD (hkN P w) K (ksE B)<|B.map enD),.un,.un,.un,.un,.un,.un,.own l13<|(mW c []).map enD,.un] (.Name "_law_known" p1) (.val (gD (hkN P w) K (ksE B)<|B.map enD)):=(pdv 6);exact aDl (X:=(mJ CX0 P w K mg base aMY "_law_found" (bN aKy) f cdv A outer s H E).nox) (hk:=hkN P w) v4 rfl hl
  refine aI<|fE (ds:=B.map aKQ) (λt sd=>sd=[.val<|dI p,.val<|lK L,.val (.int<|(nb:Int)-1),.val<|.int c,.val<|.lst (L.map<|mgD P w K p),.un,.val (gD (hkN P w) K (ksE B)<|B.map enD),.un,.un,.un,.un,.un,.un,.own l13<|(mW c<|B.take t).map enD,.un]) (hit rfl) ⟨_,Le.refl _,rfl⟩ (λt d sdt hd ht=>?_) λsdn hn=>?_
  ·subst ht;obtain⟨e,he,rfl,et⟩:=lM hd;rw[et,aDy];have ll:(mW c<|B.take t).length<=400:=by rw[(zK c<|B.take t).length_eq,cT];grind
   have eI:∀A:List Bk,aCP c A e=A.take (mxS c A.length%((A.length:Int)+1)).toNat++e::A.drop (mxS c A.length%((A.length:Int)+1)).toNat:=λ_=>rfl
   rw[eI];generalize mW c (B.take t)=Bs at ll;have k0:=dU (mxS c Bs.length) (show((Bs.length:Int)+1)≠0 by grind);have k1:=dE (mxS c Bs.length) (show(0:Int)<(Bs.length:Int)+1 by grind);refine⟨[.val<|dI p,.val<|lK L,.val (.int<|(nb:Int)-1),.val<|.int c,.val<|.lst (L.map<|mgD P w K p),.un,.val (gD (hkN P w) K (ksE B)<|B.map enD),.un,.un,.un,.val (.tup<|e.2.2.map bF),.un,.un,.own l13<|Bs.map enD,.val<|enD e],iD (ds:=[.tup<|e.2.2.map bF,enD e]) (js:=[10,14]) rfl (cR (pgn 10)<|cR (pgn 14) iC) rfl rfl,?_⟩;have bl:∀ {sd:List Slot}{p1 p2 p3:Pos},sd[13]? =some (.own l13<|Bs.map enD)->PEd (mJ CX0 P w K mg base aMY "_law_found" (bN aKy) f cdv A outer s H E).nox sd (.Call (.Name "len" p1) [.Name "_law_found_here" p2] [] p3) (.val<|.int (Bs.length:Int)):=λh=>PEd.ic (mU rfl zlen (aEH 13 h<|pv 13)) (by rw[aA])
   refine aX<|aHU (ds:=Bs.map enD) (d:=enD e) 13 (mxS c Bs.length%((Bs.length:Int)+1)).toNat rfl (PEd.ic (cN fB (pdc (ds:=[.int c,.int ((Bs.length:Nat):Int)]) GX hr (aC (pdv 3)<|aC (bl rfl) aN) ⟨c,Bs.length,rfl,by omega,rfl⟩) (fP gK (bl rfl) bO)<|by grind)<|by grind) (pdv 14) (by rw[aA];grind) (by rw[aA];grind) ⟨[.val<|dI p,.val<|lK L,.val (.int<|(nb:Int)-1),.val<|.int c,.val<|.lst (L.map<|mgD P w K p),.un,.val (gD (hkN P w) K (ksE B)<|B.map enD),.un,.un,.un,.un,.un,.un,.own l13<|(Bs.take (mxS c Bs.length%((Bs.length:Int)+1)).toNat++e::Bs.drop (mxS c Bs.length%((Bs.length:Int)+1)).toNat).map enD,.un],⟨.inr rfl,.inr rfl,.inr rfl,.inr rfl,.inr rfl,.inr rfl,.inr rfl,.inr rfl,.inr rfl,.inr rfl,.inl rfl,.inr rfl,.inr rfl,.inr ?_,.inl rfl,trivial⟩,rfl⟩;rw[aO,bG,oB,jZ]
  ·subst hn;rw[aA,dA];exact aX<|mH 13 rfl (pv 13) rfl
abbrev nl22:List Str:=["_law_price_here","_law_row_here","_law_table_here"]
theorem aLj(F:FI K mg "_law_prices" aQn)(zsorted:mg "sorted"=none):bA P w K mg base "_law_prices" 1 1 aJl:=by
 have nd2:nl22.Nodup:=by decide+kernel
 refine cG (N:=["_law_book"]) (ps:=["_law_book"]) F λf nd cdv A outer s H E hr ds r hl c=>?_
 obtain⟨B,b7,bd,rfl,rfl⟩:=c;have hu:=uN hr 8
 have ec:((B.map enD).filter λ_=>true).map (λd=>.tup [atD d 2,atD d 0])=(tpB B).map (srE hdT snT):=by rw[cB.mpr λ_ _=>rfl,aW];unfold tpB;rw[aW];rfl
 refine aX (iL<|aIx rfl zsorted (PEd.bor<|PEd.val (PEd.cast (iZ (N:=nl22) (M:=["_law_book"]) (cap:=[none,none,none]) (sc:=bN aQn) (Tb:=λd=>[.val<|atD d 0,.val<|atD d 1,.val<|atD d 2]) (λ_=>true) (λd=>.tup [atD d 2,atD d 0]) (fK<|pdv 0) (by rw[aA];grind) rfl (by decide+kernel) rfl (by decide+kernel) rfl (λcl C fp s H d hd=>?_) (λd hd=>⟨.inl rfl,.inl rfl,.inl rfl,trivial⟩) (λcl C fp s H d hd=>.inl ⟨rfl,rfl⟩) λcl C2 fp s H d hd _=>?_)<|by rw[ec])) (aLP (aBR bd) (by unfold tpB;rw[aA];grind) hu) (nT _) ?_)
 ·obtain⟨e,he,rfl⟩:=aJ.mp hd;exact iD (js:=[0,1,2]) rfl (cR (pgn 0) (cR (pgn 1)<|cR (pgn 2) iC)) rfl rfl
 ·exact pdT (aC (pdv 2)<|aC (pdv 0) aN)
 ·rw[cA];exact List.Pairwise.imp_of_mem (λ{a b} ha _ h=>xN ((nT _).mem_iff.mp ha) h) (aBa<|aBR bd)
abbrev nl23:List Str:=["_law_script","_law_size_here","_law_kit_here","_law_factor","_law_bound_here","_law_moves_here","_law_own","_law_wish_here","_law_told","_law_most","_law_some_here"]
theorem aPH(F:Fun K "law" "law" yY f fd)(GC:bA P w K mg base "_law_cell_at" 1 2 aHq)(GZ:bA P w K mg base "_law_size" 2 1 aNE)(GK:bA P w K mg base "_law_kit" 3 3 aKg)(GB:bA P w K mg base "_law_bound" 1 3 aKb)(GM:bA P w K mg base "_law_moves" 3 2 (aQA P w K))(GR:bA P w K mg base "_law_row" 2 4 aKp)(GT:bA P w K mg base "_law_table" 2 3 (aJn P w K))(GW:bA P w K mg base "_law_wish" 3 4 aNu)(GP:bA P w K mg base "_law_price" 1 2 aKG)(GL:bA P w K mg base "least_row" 7 4 aNB)(GD:bA P w K mg base "_law_does" 1 2 aNR)(GF:bA P w K mg base "_law_found" 4 4 aKf)(GS:bA P w K mg base "_law_prices" 1 1 aJl)(GN:bA P w K mg base "shows_none" 7 5 aNN):FnOk P w K mg base CX0 8 f fd ["_law_script"] (spC K 1 aKK):=by
 have nd:nl23.Nodup:=by decide+kernel
 have nd2:(["_law_entry","_law_wish_here"]:List Str).Nodup:=by decide+kernel
 refine aKe F ⟨rfl,rfl,rfl,nd,rfl,by decide+kernel,by decide+kernel⟩ λcdv A outer s H E hr ds r hl c=>?_
 obtain⟨ns,rfl,n63,hbit,rfl⟩:=c;have hu:=uN hr 6;have cell:∀ {sd:List Slot}{p1 p2 p3 p4:Pos}{j1:Nat} (k:Nat),k<=1000->sd[0]? =some (.val<|.scr ns)->PEd (mJ CX0 P w K mg base nl23 "law" (bN yY) f cdv A outer s H E).nox sd (.Call (.Name "_law_cell_at" p1) [.Name "_law_script" p2, .Constant (.int (k:Int)) j1 p3] [] p4) (.val (.int<|ns.getD k 0)):=λk hk hs=>pdc GC hr (aC (oF 0 hs<|pv 0)<|aC bO aN) ⟨ns,k,rfl,hk,rfl⟩
 refine aI<|gO 1 (pdc GZ hr (aC (cell 0 (by decide) rfl) aN) ⟨_,rfl,rfl⟩) ?_;have hp:=aMg<|ns.getD 0 0;generalize aKF (ns.getD 0 0)=p at hp;have KO:=aIF hp ns 2;refine aI<|aMO (pdc GK hr (aC (pdv 0) (aC bO<|aC (pdv 1) aN)) ⟨p,ns,2,hp,by decide,rfl,rfl⟩) (iD (js:=[2,3]) rfl (cR (pgn 2)<|cR (pgn 3) iC) rfl rfl) ?_;generalize aHp p ns 2=L at KO;generalize tJ (ns.getD 2 0)=fc at KO;have S:=KO.stk;have l5:=KO.le;obtain⟨b0,b1⟩:=aHQ (ns.getD 1 0) L.length KO.f13;refine aI<|gO 4 (pdc GB hr (aC (cell 1 (by decide) rfl) (aC (pdv 2)<|aC (pdv 3) aN)) ⟨_,L,fc,KO.pos,l5,KO.f13,rfl,rfl⟩) ?_;generalize aDN (ns.getD 1 0) L.length fc=b at b0 b1;have FU:=aRH KO b1;have O:=uJ hp S FU;have hpr:=S.pr
 have b40:b<=40:=by
  have g:∀n,n<6->nR n<=12:=by decide+kernel
  have:=g L.length<|by omega
  rcases KO.f13 with e|e<;>rw[e] at b1<;>omega
 obtain⟨r1,r2,r3⟩:=aHF KO.pos b0 n63 25;refine aI<|pH 5 (pdc GM hr (aC (pdv 1)<|aC (pdv 2) aN) ⟨p,L,hp,S,rfl,rfl⟩) λl5=>iO 5 rfl ?_;refine aI<|gO 6 (pdc GR hr (aC (pdv 0)<|aC bO (aC (pdv 2)<|aC (pdv 4) aN)) ⟨ns,25,p,L,b,S,b0,by decide,n63,hbit,rfl,rfl⟩) ?_;generalize aCJ L b ns 25=own at r1 r2 r3;have tl:=aEY hp S r1;have ti:=sG hp S r1;refine aI<|pH 7 (pdc GW hr (aC (pdv 0)<|aC bO (aC (pdv 1)<|aC (pdc GT hr (aC (pdv 1) (aC (pdv 5)<|aC (pdv 6) aN)) ⟨p,L,own,hp,S,r1,by omega,rfl,rfl⟩) aN)) ⟨p,_,ns,8,hp,tl,ti,by decide,rfl,rfl⟩) λl7=>iO 7 rfl ?_;have W:=(aIM hp tl ti ns 8).wish hp;generalize aHm p (S45.tabQ (fG p L) (bU p) own) ns 8=ws at W;refine aBO (sd':=[.val<|.scr ns,.val<|dI p,.val<|lK L,.val<|.int fc,.val<|.int b,.val<|.lst (L.map<|mgD P w K p),.val<|tN own,.val (.lst<|ws.map wsD),.un,.un,.un]) (Le.refl _) ?_;refine aI<|gO 8 (pdc GL hr (aC (pdv 1)<|aC (pdv 2) (aC (pdv 4)<|aC (pdv 7) aN)) ⟨p,L,b,_,ws,hp,S,KO.nd,FU,W,rfl,rfl⟩) ?_;refine aI<|gO (d:=.int b) 9 (pdv 4) ?_
 have fin:∀ (n:Nat) (T:List Bk) (td:D),n<=41->(n:Int)-1<=b->(∀row,fO L row->S45.prQ (prK L) row<=(n:Int)-1->doQ p ws (S45.tabQ (fG p L) (bU p) row)=false)->T=bkQ p L ((n:Int)-1)->(∃x xs,td=.tup (x::xs++[.lst<|T.map enD]))->PSd (mJ CX0 P w K mg base nl23 "law" (bN yY) f cdv A outer s H E).nox [.val<|.scr ns,.val<|dI p,.val<|lK L,.val<|.int fc,.val<|.int b,.val<|.lst (L.map<|mgD P w K p),.val<|tN own,.val (.lst<|ws.map wsD),.val td,.val (.int<|(n:Int)-1),.un] ((gU yY).drop 9) (rtE (R.val<|.bl true)):=λn T td n41 nb hno eT hx=>by
  obtain⟨x,xs,rfl⟩:=hx;have F2:=FU.less nb;have OT:=uJ hp S F2;rw[<-eT] at OT;obtain⟨OC,noC,pm,n0,HC⟩:=aRd hp S F2 hno;rw[<-eT] at pm;refine aI<|pH 10 (pdc (ds:=[dI p,lK L,.int<|(n:Int)-1,.int<|ns.getD 24 0]) GF hr (aC (pdv 1)<|aC (pdv 2) (aC (pdv 9)<|aC (cell 24 (by decide) rfl) aN)) ⟨p,L,_,_,n,hp,S,n41,F2,rfl,rfl⟩) λl10=>iO 10 rfl ?_;generalize qM p L n (ns.getD 24 0)=C at OC noC pm n0 HC;have lC:=OC.len;have lT:=OT.len
  have tk:∀e∈C,aCK p e.2.2:=λe he=>by obtain⟨_,_,x3,_,x5⟩:=OC.ent e he;rw[x5];exact vZ hp S x3
  refine aMZ (PTd.cast (aBc (ra:=.val<|.lst []) (rb:=.val<|.lst []) (PEd.val (PEd.cast (pdC (ds:=C.map enD) (N:=["_law_entry","_law_wish_here"]) (M:=nl23) (cap:=[none,some 7]) (sc:=bN yY) (Tb:=λd=>[.val d,.val (.lst<|ws.map wsD)]) (λ_=>false) (λd=>d) (fK<|pdv 10) (by rw[aA];omega) (λcl C2 fp s H d hd=>?_) λcl C fp s H d _ _=>(pdv 0))<|by simp)) (PEd.val<|pdL (ds:=[]) aN) trivial trivial (.inr ⟨rfl,rfl⟩) rfl rfl (aPZ hu<|by decide)) rfl) ?_
  ·obtain⟨e,he,rfl⟩:=aJ.mp hd;exact .inr ⟨_,rfl,mC (PEd.cast (pdc (ds:=[.lst<|ws.map wsD,.tup<|e.2.2.map bF]) (r:=.val (.bl<|doQ p ws e.2.2)) GD hr (aC (pdv 1)<|aC (pdx (n:=2) (ds:=[.int e.1,tN e.2.1,.tup<|e.2.2.map bF])<|pdv 0) aN) ⟨p,ws,e.2.2,hp,W,tk e he,rfl,rfl⟩)<|by rw[noC e he])⟩
  have e1:=aHX OT.nd pm;obtain⟨pB,dB⟩:=aOO T;have rB:jV (mR T) (mR T)=true:=qE _ pB;refine aMZ (PTd.cast (aBc (ra:=.val (.lst<|mR T)) (rb:=.val (.lst<|mR C)) (PEd.val<|pdc (ds:=[.lst<|T.map enD]) GS hr (aC (aLa (i:= -1) (ds:=x::xs++[.lst<|T.map enD]) (pdv 8) (aJB bO) (L2.atI_last _ _) λ_ _=>rfl) aN) ⟨T,by omega,OT.nd,rfl,rfl⟩) (PEd.val<|pdc (ds:=[.lst<|C.map enD]) GS hr (aC (pdv 10) aN) ⟨C,by omega,OC.nd,rfl,rfl⟩) trivial trivial (.inr ⟨rfl,rfl⟩) pB (by rw[e1];exact pB) (aPZ hu<|by show jI (mR T)+1+1<=6;omega))<|by rw[e1];show(!jV (mR T) (mR T))=false;rw[rB];rfl) ?_;obtain⟨pC,dC⟩:=aPk C
  by_cases hn:n=0
  ·rw[n0 hn];exact aX<|cW (PEd.cast (aKH (k:=true) (j:=true) (PEd.cast (aDO (ra:=.val<|.lst []) (rb:=.val<|.lst []) (pdv 10) (PEd.val<|pdL (ds:=[]) aN) trivial trivial (.inr ⟨rfl,rfl⟩) rfl rfl (aPZ hu<|by decide)) rfl) λh=>by cases h) rfl) trivial rfl
  ·have tC:=aQX hp S OC (HC<|by omega);have ft:ftQ p ws C=none:=mY.mpr λe he=>by rw[noC e he];decide
   have ne:deq (.lst<|C.map enD) (.lst [])=false:=by
    have:=(aGR.mp tC).1;cases C with
    |nil=>cases this
    |cons _ _=>rfl
   exact aX<|cW (PEd.cast (aKH (k:=false) (j:=true) (PEd.cast (aDO (ra:=.val (.lst<|C.map enD)) (rb:=.val<|.lst []) (pdv 10) (PEd.val<|pdL (ds:=[]) aN) trivial trivial (.inr ⟨rfl,rfl⟩) pC rfl (aPZ hu<|by show jI (C.map enD)+1+1<=6;omega))<|by rw[<-ne];rfl) λ_=>rC (PEd.cast (aPS (p:=aQm p L ((n:Int)-1) C&&(ftQ p ws C).isNone) (q:=true) (pdc (ds:=[dI p,lK L,.int<|(n:Int)-1,.lst<|ws.map wsD,.lst<|C.map enD]) GN hr (aC (pdv 1) (aC (pdv 2)<|aC (pdv 9) (aC (pdv 7)<|aC (pdv 10) aN))) ⟨p,L,_,C,ws,hp,S,KO.nd,OC,by omega,W,rfl,rfl⟩) yX)<|by rw[tC,ft];rfl)) rfl) trivial rfl
 unfold lrD;cases hq:ftQ p ws (bkQ p L b) with
 |none=>have no:=aLA O hq;refine aI<|fM (k:=false) (PTd.cast (cQ (d1:=.str "none") (d2:=.str "row") (pdx (n:=0) (ds:=[.str "none",.lst<|(bkQ p L b).map enD])<|pdv 8) dG rfl rfl rfl rfl) rfl) rfl ?_;refine aX (fM (k:=false) (PWd.pt (oU (k:=false) (j:=false) (PTd.cast (aLg (d1:=.str "none") (d2:=.str "none") (pdx (n:=0) (ds:=[.str "none",.lst<|(bkQ p L b).map enD])<|pdv 8) dG rfl rfl rfl rfl) rfl) λ_=>oI<|mC (PEd.cast (pdc (ds:=[.lst<|ws.map wsD,.tup<|(S45.tabQ (fG p L) (bU p) own).map bF]) (r:=.val<|.bl (doQ p ws<|S45.tabQ (fG p L) (bU p) own)) GD hr (aC (pdv 7)<|aC (pdc (ds:=[dI p,.lst (L.map<|mgD P w K p),tN own]) GT hr (aC (pdv 1) (aC (pdv 5)<|aC (pdv 6) aN)) ⟨p,L,own,hp,S,r1,by omega,rfl,rfl⟩) aN) ⟨p,ws,_,hp,W,vZ hp S r1,rfl,rfl⟩)<|by rw[no own r1 r2]))) rfl<|cM ?_);obtain⟨n,hn⟩:∃n:Nat,b=(n:Int)-1:=⟨(b+1).toNat,by omega⟩;subst hn;exact fin n _ _ (by omega) (kJ _) no rfl ⟨.str "none",[],rfl⟩
 |some e=>
  obtain⟨eB,de,mn⟩:=aLL O hq;obtain⟨x1,x2,x3,x4,x5⟩:=O.ent e eB;have e0:=wO (f:=1) (pr:=prK L) e.2.1 λk hk=>(S.st _ (getD_mem (d:=(AN:SK))<|x1 k hk)).2.1
  have tg:∀ {X:Cx}{sd:List Slot}{a:Expr}{n0:Nat}{p1 p2:Pos},PEd X sd a (.val<|.tup [.str "row",tN e.2.1,.lst<|((bkQ p L b).filter λx=>decide<|x.1<e.1).map enD])->PEd X sd (.Subscript a (.Constant (.int 1) n0 p1) p2) (.val<|tN e.2.1):=λha=>pdx (n:=1) (ds:=[.str "row",tN e.2.1,.lst<|((bkQ p L b).filter λx=>decide<|x.1<e.1).map enD]) ha
  refine aI<|iE (k:=true) (PTd.cast (cQ (d1:=.str "row") (d2:=.str "row") (pdx (n:=0) (ds:=[.str "row",tN e.2.1,.lst<|((bkQ p L b).filter λx=>decide<|x.1<e.1).map enD])<|pdv 8) dG rfl rfl rfl rfl) rfl) rfl ?_;refine aI<|gO (d:=.int<|e.1-1) 9 (fP pG (PEd.ic (pdc (ds:=[lK L,tN e.2.1]) GP hr (aC (pdv 2)<|aC (tg<|pdv 8) aN) ⟨L,e.2.1,x1,by omega,rfl,rfl⟩) x2.symm) bO) ?_;refine aX (fM (k:=false) (PWd.pt<|oU (k:=false) (j:=false) (PTd.cast (nC (g:=λi j=>decide<|j<=i) aNW (pdv 9) (pdv 4)<|gR _) (decide_eq_false<|by omega)) λ_=>oI (tS (k:=true)<|mC (PEd.cast (pdc (ds:=[.lst<|ws.map wsD,.tup<|(S45.tabQ (fG p L) (bU p) e.2.1).map bF]) (r:=.val<|.bl (doQ p ws<|S45.tabQ (fG p L) (bU p) e.2.1)) GD hr (aC (pdv 7)<|aC (pdc (ds:=[dI p,.lst (L.map<|mgD P w K p),tN e.2.1]) GT hr (aC (pdv 1) (aC (pdv 5)<|aC (tg<|pdv 8) aN)) ⟨p,L,e.2.1,hp,S,x1,by omega,rfl,rfl⟩) aN) ⟨p,ws,_,hp,W,vZ hp S x1,rfl,rfl⟩)<|by rw[<-x4,de]))) rfl<|cM ?_);obtain⟨n,hn⟩:∃n:Nat,e.1=(n:Int):=⟨e.1.toNat,by omega⟩;have F2:=FU.less (show(n:Int)-1<=b by omega);have eT:=aLD O (uJ (p:=p) hp S F2)<|by omega
  have ef:((bkQ p L b).filter λx=>decide<|x.1<e.1)=bkQ p L ((n:Int)-1):=by
   rw[eT];refine nZ λx _=>decide_eq_decide.mpr ?_
   omega
  refine aBO (sd':=[.val<|.scr ns,.val<|dI p,.val<|lK L,.val<|.int fc,.val<|.int b,.val<|.lst (L.map<|mgD P w K p),.val<|tN own,.val (.lst<|ws.map wsD),.val<|.tup [.str "row",tN e.2.1,.lst<|(bkQ p L<|(n:Int)-1).map enD],.val (.int<|(n:Int)-1),.un]) ⟨.inr rfl,.inr rfl,.inr rfl,.inr rfl,.inr rfl,.inr rfl,.inr rfl,.inr rfl,.inr (by show Slot.val (D.tup [_,_,D.lst<|((bkQ p L b).filter λx=>decide<|x.1<e.1).map enD])=_;rw[ef]),.inr (by rw[hn]),.inr rfl,trivial⟩ ?_;refine fin n _ _ (by omega) (by omega) (λrow ro pr=>?_) rfl ⟨.str "row",[tN e.2.1],rfl⟩;cases hd:doQ p ws (S45.tabQ (fG p L) (bU p) row) with
  |false=>rfl
  |true=>have:=aBK<|mn row ro (by omega) hd;omega
def aBq:Vals [V.str "not",V.str "up",V.str "down"] (#[Value.str "not" t1,Value.str "up" t2,Value.str "down" t3]:Array BX).toList:=.cons ⟨_,rfl⟩ (.cons ⟨_,rfl⟩<|.cons ⟨_,rfl⟩ .nil)
def all_mk(X:K.In h)(G:h.Ns Am mg)(hfa:mg "law"=some (.ref fa))(aL:tY K Am "law"=some (some<|.ref fL)) (lL:K.lookup fL=some ⟨ocL,odL,.func<|fV "law" "law" (lE yY) (gU yY) (bN yY) .none kVL dcL pmL anL cdL ctL,slL⟩) (cL:mP K cdL "law"=true) (kL:gM K (.ref fL)=true) (zisinstance:mg "isinstance"=none) (zint:mg "int"=none) (zbool:mg "bool"=none) (zrange:mg "range"=none) (ztuple:mg "tuple"=none) (zenumerate:mg "enumerate"=none) (zlen:mg "len"=none) (zmin:mg "min"=none) (zlist:mg "list"=none) (zsorted:mg "sorted"=none) (zall:mg "all"=none) (zsum:mg "sum"=none) (zany:mg "any"=none) (zset:mg "set"=none) (zzip:mg "zip"=none) (aBY:tY K Am "BY_ITSELF"=some (some<|.ref fBY)) (lBY:K.lookup fBY=some ⟨.type "tuple",dB,.seq #[.str "not" t1,.str "up" t2,.str "down" t3] nB,sB⟩) (amst:tY K Am "MOST_TABLES"=some (some<|.int 500 tmst)) (hWl:FI K mg "is_whole" aJg) (hC:FI K mg "word_count" aJT) (hEa:FI K mg "with_each_word" aDM) (hFi:FI K mg "fillings" aNy) (hNu:FI K mg "number_of" aSm) (hI:FI K mg "word_by_itself" aFq) (hA:FI K mg "word_by_another" aCD) (hN:FI K mg "new_word" aCB) (hB:FI K mg "written_box" aBW) (hS:FI K mg "step_on" aEW) (hNo:FI K mg "numbers_of_step" aQq) (hMo:FI K mg "moves_of" aEm) (hNb:FI K mg "numbers_behind" aKU) (hPu:FI K mg "put_longer_rows" aSq) (hFo:FI K mg "found_rows" sFd) (hTf:FI K mg "table_from" aDU) (hBk:FI K mg "book_of" aKD) (hNr:FI K mg "numbers_of_row" aNH) (hIr:FI K mg "is_row" aBe) (hP:FI K mg "price_of" aEj) (hIp:FI K mg "is_priced_row" aNM) (hSd:FI K mg "stands_there" aRS) (hSa:FI K mg "has_start" aEl) (hPb:FI K mg "prices_by_numbers" aRR) (hCl:FI K mg "is_closed" aRQ) (hHo:FI K mg "holds" aEa) (hMs:FI K mg "misses_at" aOp) (hDo:FI K mg "does_wish" aOf) (hFt:FI K mg "first_that_does" sFt) (hLr:FI K mg "least_row" sLr) (hSh:FI K mg "shows_none" aOh) (hCa:FI K mg "_law_cell_at" aFb) (hMi:FI K mg "_law_mixed" aJM) (hF:FI K mg "_law_fillings" aEg) (hLw:FI K mg "_law_word" aJj) (hAf:FI K mg "_law_after" aRT) (hDr:FI K mg "_law_drawn" aDW) (hLm:FI K mg "_law_moves" aSi) (hZ:FI K mg "_law_size" aNs) (hK:FI K mg "_law_kit" aMX) (hBd:FI K mg "_law_bound" aSu) (hLp:FI K mg "_law_price" aQG) (hTb:FI K mg "_law_table" aQt) (hRo:FI K mg "_law_row" aQp) (hSo:FI K mg "_law_some" aHj) (hWh:FI K mg "_law_wish" aOo) (hLd:FI K mg "_law_does" aRZ) (hFn:FI K mg "_law_found" aKy) (hPs:FI K mg "_law_prices" aQn):∃fd:Al,(∀ (s:BY) (v:BX),BindsTo s fd ⟨[v],[]⟩ [("_law_script",v)])/\∀base:CB,K.In base->base.Ns Am mg->FnOk P w K mg base CX0 8 fa fd ["_law_script"] (spC K 1 aKK):=by
 have e:=hfa.symm.trans<|qQ X G aL;cases e;have byself:∃ad,mg "BY_ITSELF"=some (.ref ad)/\∀H:Hp,SqT K H ad [V.str "not",V.str "up",V.str "down"]:=⟨_,qQ X G aBY,λH=>.inr ⟨_,_,_,lBY,rfl,rfl,iX rfl,aBq⟩⟩;have mst:∃t,mg "MOST_TABLES"=some (.int 500 t):=⟨_,qQ X G amst⟩;have FL:=aKj lL cL kL;refine⟨fV "law" "law" (lE yY) (gU yY) (bN yY) .none kVL dcL pmL anL cdL ctL,λs v=>.of_eq rfl,λbase _ _=>?_⟩;have GWl:=aHv (P:=P) (w:=w) (base:=base) hWl zisinstance zint zbool;have GC:=aHw (P:=P) (w:=w) (base:=base) hC zrange;have GEa:=aMF (P:=P) (w:=w) (base:=base) hEa zrange;have GFi:=aLu hFi zrange GC GEa;have GNu:=aOB hNu GC;have GI:=aGj (P:=P) (w:=w) (base:=base) hI;have GA:=aCX (P:=P) (w:=w) (base:=base) hA;have GN:=aDz hN byself GC GI GA;have GB:=aDA (P:=P) (w:=w) (base:=base) hB;have GS:=aFY hS GB GN;have GNo:=aHH hNo ztuple GNu GS GFi;have GMo:=aDt hMo GNo;have GNb:=aGm (P:=P) (w:=w) (base:=base) hNb ztuple;have GPu:=aIp hPu zenumerate GNb;have GFo:=aDa hFo zlen zmin zlist zsorted mst GPu;have GTf:=aDg (P:=P) (w:=w) (base:=base) hTf ztuple;have GBk:=aFC hBk zlen zrange ztuple GFi GMo GFo GTf;have GNr:=aGs hNr GNb;have GIr:=aHE hIr zall zlen GWl;have GP:=aIr (P:=P) (w:=w) (base:=base) hP zsum;have GIp:=aGb hIp GIr GP;have GSd:=aBx (P:=P) (w:=w) (base:=base) hSd;have GSa:=aDo (P:=P) (w:=w) (base:=base) hSa zany;have GPb:=aIz hPb zlen zrange ztuple GFi GIp GNr GTf;have GCl:=aBt hCl GNb GSd;have GHo:=aDu hHo GMo GPb GSa GCl;have GMs:=aGa hMs zenumerate GFi;have GDo:=aMm hDo GMs;have GFt:=aLC hFt GDo;have GLr:=aKZ hLr GBk GFt;have GSh:=aGp hSh GHo GFt;have GCa:=aGu (P:=P) (w:=w) (base:=base) hCa zlen;have GMi:=aHy (P:=P) (w:=w) (base:=base) hMi;have GF:=aCT (P:=P) (w:=w) (base:=base) hF zrange;have GLw:=aLF (P:=P) (w:=w) (base:=base) hLw;have GAf:=aIn hAf GLw;have GDr:=aLx hDr GMi;have GLm:=aIH hLm GF GAf;have GZ:=aFX hZ GMi;have GK:=aIk hK zrange zint GCa GMi GDr;have GBd:=aHK (P:=P) (w:=w) (base:=base) hBd zlen;have GLp:=aIi (P:=P) (w:=w) (base:=base) hLp zsum;have GTb:=aIw hTb ztuple GF;have GRo:=aIo hRo zlen GLp;have GSo:=aFN hSo zsorted zset GF;have GWh:=aFH hWh zlen zrange GCa GMi GSo;have GLd:=aIg (P:=P) (w:=w) (base:=base) hLd zzip;have GFn:=aIO hFn zrange zlen ztuple GF GLm GMi;have GPs:=aLj (P:=P) (w:=w) (base:=base) hPs zsorted;exact aPH FL GCa GZ GK GBd GLm GRo GTb GWh GLp GLr GLd GFn GPs GSh
end K57
open PySem PySem.W PyProof.Rows
namespace PySem.W.Fast
def tw5364585549325506816:=trivial
def tw8908074735813730247:=trivial
def tw7150876669868714056:=trivial
def tw5233338139402575105:=trivial
def tw11133305942960119798:=trivial
def tw8326551776516246219:=trivial
def tw5358582960529986798:=trivial
def tw560281363058915762:=trivial
def tw14915033696041173620:=trivial
def tw17174138719955199899:=trivial
def tw8464551945679745416:=trivial
def tw17440542121170947873:=trivial
def tw10850332341650451954:=trivial
def tw14354069446396782191:=trivial
def tw9031734948079374398:=trivial
def tw11782920370146160038:=trivial
def tw16298365261532777877:=trivial
def tw9930848161319917607:=trivial
def tw2471467547307959125:=trivial
def tw6704640721264048172:=trivial
def tw7191386127248340610:=trivial
def tw11620537067335575125:=trivial
def tw6665080312718518846:=trivial
def tw711303453927891642:=trivial
def tw7026216141501431722:=trivial
def tw9330280149247505429:=trivial
def tw5411505287978849214:=trivial
def tw1524279715551480834:=trivial
def tw6660218401483135:=trivial
def tw10295052283820491072:=trivial
def tw257338391385754297:=trivial
def tw11622337201714251992:=trivial
def tw10201393271468124893:=trivial
def tw3144035644063613081:=trivial
def tw15621613172391383398:=trivial
def tw1371110768568433655:=trivial
def tw11956650985072362840:=trivial
def tw16866995621282411866:=trivial
def tw1902354787163348808:=trivial
def tw5592046681742868408:=trivial
def tw6421518544355181252:=trivial
def tw6643780717819132019:=trivial
def tw2692444175085932589:=trivial
def tw9613500379122961304:=trivial
def tw584938368620669566:=trivial
def tw14220354990982024428:=trivial
def tw13086634316688671663:=trivial
def tw12129384469844217357:=trivial
def tw12980528827055324517:=trivial
def tw6257234985373119761:=trivial
def tw10366065113998827773:=trivial
def tw4776897340935215251:=trivial
def tw12574556679088432800:=trivial
def tw1683280289497060551:=trivial
def tw1208450103344513482:=trivial
def tw5340315544569899274:=trivial
def tw5369908053822433370:=trivial
def tw16684772489045496725:=trivial
def tw6944160128834963640:=trivial
def tw12207823949558644443:=trivial
def tw254780556970301680:=trivial
def tw15850866671454382879:=trivial
def tw4812033560478400348:=trivial
def tw6393787599371632454:=trivial
def tw7948456919684939903:=trivial
def tw1351769879149994410:=trivial
def tw8625938848493021948:=trivial
def tw6172053675536357806:=trivial
def tw8573752157180778359:=trivial
def tw4595276002456533488:=trivial
def tw14315517484233037438:=trivial
def tw3864895207615839316:=trivial
def tw15831281010900747981:=trivial
def tw10463540551753142356:=trivial
def tw4805645316120496419:=trivial
def tw2616086916204081603:=trivial
def tw3672458759077463377:=trivial
def tw2757182706844013076:=trivial
def tw18282505216466694270:=trivial
def tw1008542687778953057:=trivial
def tw10218811949273667172:=trivial
def tw10941963261988697292:=trivial
def tw11073257240842151736:=trivial
def tw11382633535096410820:=trivial
def tw1138638152994572058:=trivial
def tw11881248528229875319:=trivial
def tw11914899632442660780:=trivial
def tw11928834313930042212:=trivial
def tw12373390249840489265:=trivial
def tw13006538074931256941:=trivial
def tw13086138668373236068:=trivial
def tw13766709558810938382:=trivial
def tw13789619820928461050:=trivial
def tw13936157856793385072:=trivial
def tw14260199756747009970:=trivial
def tw14319949925675883280:=trivial
def tw14389163902912138489:=trivial
def tw15057866277699626777:=trivial
def tw15069206326954023569:=trivial
def tw15263167609285484310:=trivial
def tw15279755532809545438:=trivial
def tw15425876768645442634:=trivial
def tw15586298965145336972:=trivial
def tw16350880878053982119:=trivial
def tw1639238277280227376:=trivial
def tw16410130230751000304:=trivial
def tw1672281232636427616:=trivial
def tw16916559766713020911:=trivial
def tw17033330485574157727:=trivial
def tw17243796068874489367:=trivial
def tw17661064473617839221:=trivial
def tw17734000645847325603:=trivial
def tw17837050694395116075:=trivial
def tw17849411918080847075:=trivial
def tw17952043901768333078:=trivial
def tw1996475736052538927:=trivial
def tw2834257744222095968:=trivial
def tw2935688455845866839:=trivial
def tw2980215903066599430:=trivial
def tw3008661909030755617:=trivial
def tw3557660437670705693:=trivial
def tw3717979831421606387:=trivial
def tw3755194605551981287:=trivial
def tw3766742221957005855:=trivial
def tw3908367309982726820:=trivial
def tw395028682107336487:=trivial
def tw3973662996203998312:=trivial
def tw4042744390527211079:=trivial
def tw4130517690904124111:=trivial
def tw4279825199513224173:=trivial
def tw4673430000386184203:=trivial
def tw4905767023056725688:=trivial
def tw509704225492382063:=trivial
def tw521160649139549738:=trivial
def tw5340916972426901861:=trivial
def tw5494818225536922401:=trivial
def tw5588191960938633420:=trivial
def tw5932711406072957476:=trivial
def tw6202978031947810218:=trivial
def tw6927654669162658411:=trivial
def tw7027191467023198690:=trivial
def tw7093881670282820090:=trivial
def tw7340497528165874573:=trivial
def tw7407137910895148012:=trivial
def tw7808525713819562182:=trivial
def tw8262765549212793339:=trivial
def tw8559913950496689166:=trivial
def tw8611752703346865929:=trivial
def tw8924059587498769628:=trivial
def tw9318797702148569792:=trivial
end PySem.W.Fast
set_option maxRecDepth 100000 in
set_option maxHeartbeats 0 in
theorem PySem.Challenge.cw_leastrow_k57_whole_by_its_own_search_holds : PySem.Challenge.rw_leastrow_k57_whole_by_its_own_search.Holds := by
 w_on;o_law;k_head;(case hw=>w_witness2)
 k_fill
 refine DL.walkDB (l:=PySem.Challenge.rw_leastrow_k57_whole_by_its_own_search) (k:=8) (x:="_law_script") rfl rfl ⟨rfl,by decide,by decide,rfl⟩ (λw h Y=>PySem.W.kIn_of Y) ?F
 case F=>
  intro w mg fa h KX G hmg;refine' K57.all_mk KX G hmg ?aL ?lL ?cL ?kL ?zisinstance ?zint ?zbool ?zrange ?ztuple ?zenumerate ?zlen ?zmin ?zlist ?zsorted ?zall ?zsum ?zany ?zset ?zzip ?aBY ?lBY ?amst ..
  (case aL|lL|cL|kL|aBY|lBY|amst=>k_is);(case zisinstance|zint|zbool|zrange|ztuple|zenumerate|zlen|zmin|zlist|zsorted|zall|zsum|zany|zset|zzip=>refine' PySem.W.mg_none_of KX G ?a;(case a=>k_is))
  any_goals (refine' DL.FI.mk KX G ?a ?l ?c ?k;(case a|l|c|k=>k_is))
