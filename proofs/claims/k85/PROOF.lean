import PyProof.Rows.All
import Wide.All
import OpenK.AllK
import Wide.FinOn
import Lean
import PyProof.EqAt
import PyProof.EqKinds
import PyProof.TupleCall
import PySem.Challenge.RW_leastrow_k85_windows_too_great
set_option Elab.async false
set_option compiler.extract_closed false
set_option bootstrap.genMatcherCode false
set_option tactic.hygienic false
set_option maxRecDepth 100000
open PySem renaming wpAny_bind->AA,starEach->AB,wpAny_pure->AC,Program->AD,model->AG,sizeLine->AJ,wpAny->AK,World->AL,FuncData->AN,wpAny_Call_Name_kw->AO,mainGlobals->AQ,cLine->AR,compareOp->AT,wpAny_mono->AU,backTo->AV,behindInMarks->AX,wpAny_holding->AY,wpAny_newObj_type->AZ,sysModules->Aa,swapsWith->Ab,argBest->Ae,tupleKind_room_in1->Af,attributeBase->Ag,bootBuiltins->Ah,wpAny_truthy_bool->Ai,assignEach->Aj,tupleKind->Ak,binaryOp->Al,wpAny_typeNameOfWhole_keyiter->An,wpAny_callSpecial?_slot->Ao,wpAny_dictEntries->Ap,codeAny_mono->Aq,wpAny_passesOwn->Ar,foldedSetIterable->As,sizeLine_eq->At,wpAny_call_entry->Av,size_of_entries->Ax,codeAny_builtin->Ay,wpAny_notOrdered_dict->Az,wpAny_pyIter_list->BA,wpAny_rule->BB,Value->BD,Shared->BE,Addr->BF,Around->BG,Heap->BH,Obj->BI,Stmt->BJ,SetTable->BL
open PyProof.Rows renaming pendingOf->AE,wpS_bind->AF,Keyed->AH,wpS_pure->AI,arrOf->AM,wpS_forRange->AW,wpS_mono->Ac,envOfC->Ad,seqObj->Am,SortKind->Au,wpS_modify->Aw,setPending->BC,SortSt->BK
open Inhabited renaming default->AS
open PySem.W renaming Frag->aB,fnOf->cD,keepIn->cK,kitOne->cU,findIn->cX,callWith_K->dQ,instObj->dU,mg_of->dW,codeIn->eI,kia_one->eJ,nsIn->eQ,emptyDict->gP,exmOne->kH,plainGet->kQ,hasDictIn->nH,excIn->nQ,isFn->pB,lookIn->qI,plainGet_of->rH,plainOver->uJ,takerIn->wC,makesIn->wD,cellsFrom_some->aAX,methodCall_KW->aBQ,mg_none_of->aEh,specialIn->aHn,kitx_list->aHo,kitx_dict->aHp,handedIn->aHu,exm_one->aJv,mroIn->aNw
open List renaming length_map->aC,getElem?_eq_some_iff->aF,mem_cons_of_mem->aH,mem_append_right->aJ,mem_singleton->aK,mem_cons_self->aO,length_append->aP,mem_map->aS,mem_append->aV,map_append->aX,map_map->aY,mem_of_getElem?->bC,size_toArray->bD,getElem?_map->bE,append_nil->bG,length_cons->bJ,nodup_append->bK,mem_cons->bL,mem_append_left->bN,replicate->bP,range->bT,getD->bV,nodup_cons->bY,map_cons->cA,length_take->cE,mem_singleton_self->cG,map_congr_left->cH,mem_range->cN,nodup_nil->cQ,filter_eq_self->cR,mem_of_mem_take->dA,zip_cons_cons->dC,drop_eq_getElem_cons->dG,extract_eq_take_drop->dH,eraseIdx_eq_take_drop_succ->dL,take_append_drop->dN,append_assoc->dP,mem_of_mem_drop->dR,getElem?_append_left->dS,length_drop->dY,mem_flatMap->dZ,getElem_of_mem->eB,foldl_append->eC,getElem?_of_mem->eL,lookup_cons->eW,take_of_length_le->eX,getElem?_eq_getElem->fC,all_eq_true->fG,take_length->fQ,map_take->fR,length_range->fZ,map_nil->gB,getElem_mem->gF,mem_filter->gS,find?_cons->gT,getElem?_set_ne->gU,take_add_one->gW,map_drop->gZ,filterMap_cons->hZ,getElem_map->iA,eq_nil_of_length_eq_zero->iH,getElem?_set_self->iK,length_nil->iP,getElem?_eq_none->iR,length_filter_le->iS,perm_append_comm->iT,lookup->jC,getElem?_append_right->jD,replicate_succ->jM,length_pos_iff->jN,mem_of_mem_eraseIdx->jT,map_id->kE,pairwise_singleton->kG,drop_of_length_le->kJ,length_replicate->lB,getElem_inj->lC,any_eq_true->lD,not_mem_nil->lE,prefix_refl->lF,any_cons->lO,dropLast_concat_getLast->mC,length_zip->mD,getElem?_concat_length->mM,pairwise_cons->nF,ext_getElem?->oM,pairwise_map->oN,ext_getElem->pI,perm_middle->pJ,set_getElem_self->qY,eraseIdx_sublist->qZ,drop_drop->rK,pairwise_append->rL,find?_eq_none->uK,flatten_cons->vO,exists_of_findSome?_eq_some->vP,length->zL,of_mem_zip->zN,range_succ->zO,findSome?_eq_none_iff->aAQ,getElem?_zip_eq_some->aAT,pairwise_iff_getElem->aAU,mem_of_find?_eq_some->aAV,getElem?_take_of_lt->aBO,find?_range_eq_some->aBP,length_eq_zero_iff->aDk,range_succ_eq_map->aEd,drop_eq_nil_of_le->aEe,reverse_reverse->aHj,length_eraseIdx->aHk,getElem?_range->aHr,reverse_append->aHs,mem_filterMap->aJr,any_toArray->aNu,drop_length->aNv,foldl_cons->aNK,nil_append->aNL,length_set->aNM,zip_append->aNN,all_cons->aQt,map->aQu
open PySem.Heap renaming get?_push_of_some->aD,lt_size->aU,get?_push_size->bO,get?_update_other->cW,get?_update_self->gJ,size_push->nG,size_update->pK,get?_push_ne->aKM
open Nat renaming le_refl->aQ,lt_of_lt_of_le->aZ,zero_le->bQ,ne_of_lt->bR,le_trans->cJ,le_of_lt->cZ,lt_of_le_of_lt->dD,lt_irrefl->eU,le_of_ble_eq_true->fP,lt_succ_self->iE,le_succ->iL,ne_of_gt->kP,lt_succ_of_lt->oQ,lt_trans->qF,not_lt->qG,min_self->qH,not_lt_zero->rA,pow_le_pow_right->sA,le_of_eq->vX,zero_add->vY,succ_mul->aHl,sub_self->aHm,mul_le_mul_right->aHt,not_le_of_lt->aNO,log2_le_self->aNP,succ_le_succ->aNQ,min_eq_left->aQg,mul_le_mul->aQv,add_assoc->aRL,add_comm->aSA
open Bool renaming false_ne_true->bM,and_eq_true->bU,false_eq_true->cV,eq_iff_iff->gA,true_and->uI,eq_false_iff->vQ,beq_eq_decide_eq->aEg,not_eq_false'->aJu,not_eq_true'->aKL,or_eq_true->aNR,false_and->aQh
open Option renaming some->bZ,map_eq_some_iff->eV,map->kZ,isSome_iff_exists->nV,map_some->pO,isSome_map->uL,getD_none->aJs,getD_some->aJt,none->aQx
open Int renaming emod_lt_of_pos->dE,emod_nonneg->dO,toNat_natCast->eD,ne_of_gt->jJ,zero_add->mQ,toNat->sC,le_refl->zP,fdiv_eq_ediv_of_nonneg->aAW,natAbs_natCast->aKK,mul_nonneg->aQw
open Array renaming toList_append->dF,getElem?_toList->dM,toList_extract->eK,length_toList->fK,perm_iff_toList_perm->gH,size_extract->jV,toList_push->kI,toList_reverse->lP,toList_inj->vZ,toList_map->wB,getElem?_eq_none->aDl,getElem?_modify->aEf,toList->aQy
open PySem.F renaming args_tuple_add_2->nR,entry_tuple_add->oO,plainAttrs_list->oP,slot_tuple_add->pD,slot_dict_setdefault->wF,excBase_ValueError->zM,slot_dict_getitem->zQ,slot_list_append->aAa,type_list_append->aAb,plainAttrs_dict->aAR,plain_list_iadd->aAS,slot_dict_pop->aBR
noncomputable section
theorem ja{p:Prop}{a:α}:p∨a=a:=.inr rfl
theorem jb{p:Prop}{a:α}:a=a∨p:=.inl rfl
def zr.{u}:=@if_neg.{u}
def zt.{u}:=@if_pos.{u}
namespace L2
open PySem PySem.Spec PyProof.Rows
abbrev Key:=Sum Int Str
noncomputable def aDm:Key->BD->Bool
 |.inl k,v=>Value.isInt k v
 |.inr x,v=>Value.isStrOf x v
noncomputable def keyH(w:AL):Key->Int
 |.inl k=>hashInt k
 |.inr x=>hashStr w x
def gN:∀ {k:Key}{v:BD},aDm k v=true->(∃i t,k=Sum.inl i/\v=Value.int i t)\/(∃x t,k=Sum.inr x/\v=Value.str x t)
 |.inl i,v,h=>by obtain⟨t,e⟩:=Value.isInt_shape h;exact .inl ⟨i,t,rfl,e⟩
 |.inr x,v,h=>by obtain⟨t,e⟩:=Value.isStrOf_shape h;exact .inr ⟨x,t,rfl,e⟩
def aGn(i:Int)(t:Tok):aDm (.inl i) (.int i t)=true:=by simp[aDm,Value.isInt]
def aGW(x:Str)(t:Tok):aDm (.inr x) (.str x t)=true:=by simp[aDm,Value.isStrOf]
def aPT(a b:Int):decide ((Sum.inl a:Key)=Sum.inl b)=(a==b):=by
 by_cases e:a=b
 ·subst e;simp
 ·have h:¬ (Sum.inl a:Key)=Sum.inl b:=λq=>e (Sum.inl.inj q)
  rw[decide_eq_false h];exact(beq_eq_false_iff_ne.mpr e).symm
def aPb(a b:Str):decide ((Sum.inr a:Key)=Sum.inr b)=decide (a=b):=by
 by_cases e:a=b
 ·subst e;simp
 ·have h:¬ (Sum.inr a:Key)=Sum.inr b:=λq=>e (Sum.inr.inj q)
  rw[decide_eq_false h,decide_eq_false e]
def aPl(a:Int)(b:Str):decide ((Sum.inl a:Key)=Sum.inr b)=false:=decide_eq_false λq=>nomatch q
def aPW(a:Str)(b:Int):decide ((Sum.inr a:Key)=Sum.inl b)=false:=decide_eq_false λq=>nomatch q
def fA(prog:AD)(w:AL):PySem.KeyKind prog w Key where
 is:=aDm
 hash:=keyH w
 inj:=λv a b ha hb=>by
  rcases gN ha with⟨i,t,rfl,rfl⟩|⟨x,t,rfl,rfl⟩
  ·rcases gN hb with⟨j,u,rfl,e⟩|⟨y,u,rfl,e⟩
   ·injection e with e1 _;rw[e1]
   ·exact nomatch e
  ·rcases gN hb with⟨j,u,rfl,e⟩|⟨y,u,rfl,e⟩
   ·exact nomatch e
   ·injection e with e1 _;rw[e1]
 byValue:=λk v h=>by rcases gN h with⟨i,t,rfl,rfl⟩|⟨x,t,rfl,rfl⟩<;>rfl
 pyHash:=λhv h=>by
  rcases gN hv with⟨i,t,rfl,rfl⟩|⟨x,t,rfl,rfl⟩
  ·exact wpAny_pyHash_int h
  ·exact wpAny_pyHash_str h
 eqBool:=λhu hv h=>by
  rcases gN hu with⟨i,t,rfl,rfl⟩|⟨x,t,rfl,rfl⟩
  ·rcases gN hv with⟨j,u,rfl,rfl⟩|⟨y,u,rfl,rfl⟩
   ·rw[aPT] at h;exact wpAny_eqBool_int h
   ·rw[aPl] at h;exact SeqAt.EqAt.int_str i t y u _ _ _ _ h
  ·rcases gN hv with⟨j,u,rfl,rfl⟩|⟨y,u,rfl,rfl⟩
   ·rw[aPW] at h;exact SeqAt.EqAt.str_int x t j u _ _ _ _ h
   ·rw[aPb] at h;exact wpAny_eqBool_str h
 «strs»:=λk x t v h=>by
  rcases gN h with⟨i,u,rfl,e⟩|⟨y,u,rfl,e⟩
  ·exact nomatch e
  ·injection e with e1 _
   subst e1;cases v<;>rfl
def aBH(prog:AD)(w:AL)(i:Int)(t:Tok):(fA prog w).is (.inl i) (.int i t)=true:=aGn i t
def aBK(prog:AD)(w:AL)(x:Str)(t:Tok):(fA prog w).is (.inr x) (.str x t)=true:=aGW x t
inductive V where
 |non|bl (b:Bool)|int (i:Int)|str (x:Str)|byt (b:Array UInt8)|flt (b:UInt64)|ref (a:BF)|ty (n:String)
 deriving DecidableEq
def RelV:V->BD->Prop
 |.non,u=>u=Value.none
 |.bl b,u=>u=Value.bool b
 |.int i,u=>∃t,u=Value.int i t
 |.str x,u=>∃t,u=Value.str x t
 |.byt b,u=>∃t,u=Value.bytes b t
 |.flt b,u=>∃t,u=Value.float b t
 |.ref a,u=>u=Value.ref a
 |.ty n,u=>u=Value.type n
abbrev Vals:List V->List BD->Prop:=Paired RelV
def Vals.length(r:Vals xs us):xs.length=us.length:=Paired.length r
def Vals.get:∀ {xs:List V}{us:List BD}{i:Nat}{x:V},Vals xs us->xs[i]? =some x->∃u,us[i]? =some u/\RelV x u
 |_,_,_,_,.nil,e=>by simp at e
 |_,_,0,_,.cons r _,e=>by simp at e;subst e;exact⟨_,rfl,r⟩
 |_,_,i+1,x,.cons _ t,e=>by obtain⟨u,h1,h2⟩:=Vals.get t (by simpa using e);exact⟨u,by simpa using h1,h2⟩
def Vals.append:∀ {xs ys:List V}{us ws:List BD},Vals xs us->Vals ys ws->Vals (xs++ys) (us++ws)
 |_,_,_,_,.nil,s=>s
 |_,_,_,_,.cons r t,s=>.cons r<|Vals.append t s
def Vals.take:∀ {xs:List V}{us:List BD} (n:Nat),Vals xs us->Vals (xs.take n) (us.take n)
 |_,_,0,_=>.nil
 |_,_,_+1,.nil=>.nil
 |_,_,n+1,.cons r t=>.cons r<|Vals.take n t
def Vals.drop:∀ {xs:List V}{us:List BD} (n:Nat),Vals xs us->Vals (xs.drop n) (us.drop n)
 |_,_,0,r=>r
 |_,_,_+1,.nil=>.nil
 |_,_,n+1,.cons _ t=>Vals.drop n t
def RelO:Option V->Option BD->Prop
 |some v,some u=>RelV v u
 |none,none=>True
 |_,_=>False
def KV{κ:Type}:List (κ×V)->List (κ×BD)->Prop:=Paired λ(p:κ×V) (q:κ×BD)=>p.1=q.1/\RelV p.2 q.2
def kV:Key->V
 |.inl i=>.int i
 |.inr x=>.str x
inductive HO where
 /-- a list -/
 |lst (xs:List V)
 /-- a tuple (never changes) -/
 |tup (xs:List V)
 /-- a dict whose keys are ints and texts;one whose keys are tuples of ints and texts (the empty one is both) -/
 |dK (kvs:List (Key×V))|dT (kvs:List (List Key×V))
 /-- a set of ints:its members,its size -/
 |set (S:Int->Bool) (n:Nat)
 /-- an instance of the class at C,its dict at dx,its attributes -/
 |ins (C dx:BF) (fs:List (Str×V))
 /-- the dict of the instance at x -/
 |own (x:BF)
 /-- the dict of an exception -/
 |xd (fs:List (Str×V))
 /-- a bound method,f of x -/
 |met (f x:BF)
 /-- a range object lo,lo+1, .. below hi -/
 |rng (lo hi:Int)
 /-- a thing that is known to the object (the script;a dict while a loop walks it):read,never written while it is so -/
 |frz (o:BI) (u:HO)
 /-- a code object's table -/
 |tbl (ps:Array BD)
 /-- any other thing,by what is true of its one object (a def of one's own:SetO a S n:=HO.ext λh=> ..) -/
 |ext (φ:BH->Prop)
abbrev Hp:=BF->Option HO
noncomputable def upd(H:Hp)(a:BF)(o:HO):Hp:=λb=>if b=a then some o else H b
def bH:upd H a o a=some o:=by unfold upd;rw[zt rfl]
def aW(h:b≠a):upd H a o b=H b:=by unfold upd;rw[zr h]
def aRD{H:Hp}(h:H a=some o)(h':H b=some u)(d:o≠u):a≠b:=by intro e;subst e;rw[h] at h';exact d<|bZ.inj h'
def cC{H:Hp}(h:H a=some o)(h':H b=none):a≠b:=by intro e;subst e;rw[h] at h';cases h'
def IsTupD(h:BH)(a:BF)(items:Array BD):Prop:=∃o,h.get? a=some o/\o.cls=.type "tuple"/\(∃n,o.data=.seq items n)/\o.dict=none
def IsTupD.tup(x:IsTupD h a items):IsTup h a items:=let ⟨o,e,c,d,_⟩:=x;⟨o,e,c,d⟩
def IsTupD.new(h:BH)(items:Array BD):IsTupD (h.push {cls:=.type "tuple",data:=.seq items}) h.objs.size items:=⟨_,bO _ rfl,rfl,⟨_,rfl⟩,rfl⟩
variable (P:AD)(w:AL)
def ObjOk(H:Hp)(h:BH)(a:BF):HO->Prop
 |.lst xs=>xs.length<=AJ/\∃ (its:List BD) (n:Nat),Vals xs its/\h.get? a=some {cls:=.type "list",data:=.seq its.toArray n}
 |.tup xs=>xs.length<=AJ/\∃its:List BD,Vals xs its/\IsTupD h a its.toArray
 |.dK kvs=>kvs.length<=AJ/\(a==Aa)=false/\∃vs,KV kvs vs/\h.DictOf (fA P w) a vs
 |.dT kvs=>kvs.length<=AJ/\(a==Aa)=false/\∃xs:List (List Key×BF×BD),
   Paired (λ(p:List Key×V) (q:List Key×BF×BD)=>p.1=q.1/\H q.2.1=some (.tup<|p.1.map kV)/\RelV p.2 q.2.2) kvs xs/\
   ∃o es ep,h.get? a=some o/\o.ExactDict/\o.data=.dict es ep/\es.toList=xs.map (entryOfKey (Ak<|fA P w))/\(xs.map (·.1)).Nodup
 |.set S n=>h.SetOf (intKind P w) a S n
 |.ins C dx fs=>H dx=some (.own a)/\fs.length<=1000/\dx≠a/\h.get? a=some (dU C dx)/\
   ∃mA,h.Ns1 dx mA/\(∀f,RelO (fs.lookup f)<|mA f)/\PySem.Within mA (fs.map (·.1))
 |.own _=>∃o,h.get? a=some o
 |.xd fs=>∃mA,h.Ns1 a mA/\∀f,RelO (fs.lookup f)<|mA f
 |.rng lo hi=>∃t u v,h.get? a=some {cls:=.type "range",data:=.fields #[.int lo t,.int hi u,.int 1 v]}
 |.frz o u=>h.get? a=some o/\ObjOk H h a u
 |.tbl ps=>h.get? a=some {cls:=.none,data:=.fields ps}
 |.met f x=>h.get? a=some (PySem.W.methodObj (.ref f)<|.ref x)
 |.ext φ=>φ h/\(∃o,h.get? a=some o)/\∀h1 h2:BH,φ h1->(∀o,h1.get? a=some o->h2.get? a=some o)->φ h2
def HOk(H:Hp)(h:BH):Prop:=∀a o,H a=some o->ObjOk P w H h a o
variable {P:AD}{w:AL}{H H':Hp}{h h':BH}{a:BF}{o:HO}
def ObjOk.lt(x:ObjOk P w H h a o):a<h.objs.size:=by
 cases o with
 |lst xs=>obtain⟨_,_,_,_,e⟩:=x;exact aU e
 |tup xs=>obtain⟨_,_,_,p⟩:=x;exact p.tup.lt
 |dK kvs=>obtain⟨_,_,_,_,o,_,_,e,_⟩:=x;exact aU e
 |dT kvs=>obtain⟨_,_,_,_,o,_,_,e,_⟩:=x;exact aU e
 |set S n=>obtain⟨o,_,_,_,e,_⟩:=x;exact aU e
 |ins C dx fs=>obtain⟨_,_,_,e,_⟩:=x;exact aU e
 |own y=>obtain⟨_,e⟩:=x;exact aU e
 |xd fs=>obtain⟨_,⟨_,_,_,e,_⟩,_⟩:=x;exact aU e
 |rng lo hi=>obtain⟨_,_,_,e⟩:=x;exact aU e
 |frz ob u=>obtain⟨e,_⟩:=x;exact aU e
 |tbl ps=>exact aU<|x
 |met f y=>exact aU<|x
 |ext φ=>obtain⟨_,⟨_,e⟩,_⟩:=x;exact aU e
def Paired.mapP:∀ {l₁:List α}{l₂:List β},Paired F l₁ l₂->(∀a b,F a b->G a b)->Paired G l₁ l₂
 |_,_,.nil,_=>.nil
 |_,_,.cons r t,f=>.cons (f _ _ r)<|Paired.mapP t f
def ObjOk.stay(x:ObjOk P w H h a o)(k:∀b u,(b=a\/H b=some (.own a))->h.get? b=some u->h'.get? b=some u)(ho:∀b,H b=some (.own a)->H' b=some (.own a)) (ht:∀b xs,H b=some (.tup xs)->H' b=some (.tup xs)):ObjOk P w H' h' a o:=by
 induction o with
 |lst xs=>obtain⟨z,its,n,r,e⟩:=x;exact⟨z,its,n,r,k _ _ (.inl rfl) e⟩
 |tup xs=>obtain⟨z,its,r,ob,e,c⟩:=x;exact⟨z,its,r,ob,k _ _ (.inl rfl) e,c⟩
 |dK kvs=>obtain⟨z,y,vs,r,ob,es,ep,e,c⟩:=x;exact⟨z,y,vs,r,ob,es,ep,k _ _ (.inl rfl) e,c⟩
 |dT kvs=>obtain⟨z,y,xs,r,ob,es,ep,e,c⟩:=x;exact⟨z,y,xs,Paired.mapP r λp q z=>⟨z.1,ht _ _ z.2.1,z.2.2⟩,ob,es,ep,k _ _ (.inl rfl) e,c⟩
 |set S n=>obtain⟨ob,es,ep,t,e,c⟩:=x;exact⟨ob,es,ep,t,k _ _ (.inl rfl) e,c⟩
 |ins C dx fs=>obtain⟨d,z,ne,e,mA,⟨od,es,ep,e2,c⟩,r⟩:=x;exact⟨ho _ d,z,ne,k _ _ (.inl rfl) e,mA,⟨od,es,ep,k _ _ (.inr d) e2,c⟩,r⟩
 |own y=>obtain⟨ob,e⟩:=x;exact⟨ob,k _ _ (.inl rfl) e⟩
 |xd fs=>obtain⟨mA,⟨od,es,ep,e,c⟩,r⟩:=x;exact⟨mA,⟨od,es,ep,k _ _ (.inl rfl) e,c⟩,r⟩
 |rng lo hi=>obtain⟨t,u,v,e⟩:=x;exact⟨t,u,v,k _ _ (.inl rfl) e⟩
 |frz ob u ih=>obtain⟨e,q⟩:=x;exact⟨k _ _ (.inl rfl) e,ih q⟩
 |tbl ps=>have e:=x;exact k a _ (.inl rfl) e
 |met f y=>have e:=x;exact k a _ (.inl rfl) e
 |ext φ=>obtain⟨p,⟨o,e⟩,st⟩:=x;exact⟨st _ _ p λo q=>k _ _ (.inl rfl) q,⟨o,k _ _ (.inl rfl) e⟩,st⟩
def HOk.lt(x:HOk P w H h)(e:H a=some o):a<h.objs.size:=(x a o e).lt
def HOk.fresh(x:HOk P w H h)(e:h.objs.size<=a):H a=none:=by
 cases q:H a with
 |none=>rfl
 |some u=>exact absurd (aZ (x.lt q) e)<|eU _
def HOk.kept(x:HOk P w H h)(k:∀b u,h.get? b=some u->h'.get? b=some u):HOk P w H h':=λa o e=>(x a o e).stay (λb u _ q=>k b u q) (λ_ q=>q) λ_ _ q=>q
def HOk.laid(x:HOk P w H h)(k:∀b u,h.get? b=some u->h'.get? b=some u)(hp:h.objs.size<=a)(new:ObjOk P w (upd H a o) h' a o):HOk P w (upd H a o) h':=λb u e=>by
 have hn:=x.fresh hp
 by_cases hb:b=a
 ·subst hb;rw[bH] at e;cases e;exact new
 ·rw[aW hb] at e;exact(x b u e).stay (λc v _ q=>k c v q) (λc q=>by rw[aW<|cC q hn];exact q) λc xs q=>by rw[aW<|cC q hn];exact q
def Rd(H:Hp)(a:BF)(u:HO):Prop:=H a=some u\/∃o,H a=some (.frz o u)
def Rd.of(h:H a=some u):Rd H a u:=.inl h
def Rd.ok(r:Rd H a u)(x:HOk P w H h):ObjOk P w H h a u:=by
 rcases r with r|⟨o,r⟩
 ·exact x a u r
 ·obtain⟨_,q⟩:=x a _ r;exact q
def Mut:Option HO->Prop
 |some (.lst _)=>True
 |some (.dK _)=>True
 |some (.dT _)=>True
 |some (.set _ _)=>True
 |some (.ins _ _ _)=>True
 |some (.ext _)=>True
 |_=>False
variable {x e:BF}{o':HO}
def HOk.write(ok:HOk P w H h)(mu:Mut (H x))(he:e=x\/H e=some (.own x))(k:∀b u,b≠e->h.get? b=some u->h'.get? b=some u)(heo:∃u,h'.get? e=some u)(new:ObjOk P w (upd H x o') h' x o'):HOk P w (upd H x o') h':=λb u q=>by
 have nown:∀c y,H c=some (.own y)->c≠x:=λc y r z=>by subst z;rw[r] at mu;exact mu
 have ntup:∀c xs,H c=some (.tup xs)->c≠x:=λc xs r z=>by subst z;rw[r] at mu;exact mu
 by_cases hb:b=x
 ·subst hb;rw[bH] at q;cases q;exact new
 ·rw[aW hb] at q
  by_cases hbe:b=e
  ·have q':H b=some (.own x):=by
    rcases he with z|z
    ·exact absurd (hbe.trans z) hb
    ·rw[hbe];exact z
   rw[q] at q';cases q';obtain⟨v,hv⟩:=heo;exact⟨v,by rw[hbe];exact hv⟩
  ·refine(ok b u q).stay (λc v hc r=>k c v ?_ r) (λc r=>by rw[aW<|nown c b r];exact r) λc xs r=>by rw[aW<|ntup c xs r];exact r
   rcases hc with rfl|hc
   ·exact hbe
   ·rintro rfl
    rcases he with z|z
    ·exact nown c b hc z
    ·rw[hc] at z;cases z;exact hb rfl
structure Un(fs ex:List BF)(H H':Hp)(h h':BH):Prop where
 keep:∀b o,h.get? b=some o->H b=none->b∉fs->b∉ex->h'.get? b=some o
 slot:∀b o,h.get? b=some o->H b=none->b∈fs->b∉ex->∃sl,h'.get? b=some {o with slots:=sl}
 free:∀b o,h.get? b=some o->H b=none->b∉ex->H' b=none
 there:∀b o,h.get? b=some o->b∉ex->∃o',h'.get? b=some o'
 tups:∀b xs,H b=some (.tup xs)->H' b=some (.tup xs)
 frzs:∀b o u,H b=some (.frz o u)->H' b=some (.frz o u)
 tbls:∀b ps,H b=some (.tbl ps)->∃more,H' b=some (.tbl<|ps++more)
section
variable {fs fs' ex ex':List BF}{H H1 H2:Hp}{h h1 h2 h':BH}{a x e:BF}{o:HO}
def Un.any(u:Un fs ex H H1 h h1)(q:h.get? b=some ob)(n:H b=none)(hx:b∉ex):∃sl,h1.get? b=some {ob with slots:=sl}:=by
 by_cases hb:b∈fs
 ·exact u.slot b ob q n hb hx
 ·exact⟨ob.slots,u.keep b ob q n hb hx⟩
def Un.kept(k:∀b u,h.get? b=some u->h'.get? b=some u):Un fs ex H H h h':=
 ⟨λb ob q _ _ _=>k b ob q,λb ob q _ _ _=>⟨ob.slots,k b ob q⟩,λ_ _ _ n _=>n,λb ob q _=>⟨ob,k b ob q⟩,λ_ _ q=>q,λ_ _ _ q=>q,λ_ ps q=>⟨#[],by rw[q];simp⟩⟩
def Un.refl:Un fs ex H H h h:=Un.kept λ_ _ q=>q
def Un.laid(k:∀b u,h.get? b=some u->h'.get? b=some u)(hp:h.objs.size<=a)(hn:H a=none):Un fs ex H (upd H a o) h h' where
 keep:=λb u q _ _ _=>k b u q
 slot:=λb u q _ _ _=>⟨u.slots,k b u q⟩
 free:=λb u q n _=>by rw[aW (bR<|aZ (aU q) hp)];exact n
 there:=λb u q _=>⟨u,k b u q⟩
 tups:=λb xs q=>by rw[aW<|cC q hn];exact q
 frzs:=λb u xs q=>by rw[aW<|cC q hn];exact q
 tbls:=λb ps q=>⟨#[],by rw[aW<|cC q hn,q];simp⟩
theorem Un.write(mu:Mut (H x))(he:e=x\/H e=some (.own x))(k:∀b u,b≠e->h.get? b=some u->h'.get? b=some u)(heo:∃u,h'.get? e=some u):Un fs ex H (upd H x o) h h':=by
 have hx:∀b,H b=none->b≠x:=λb n z=>by subst z;rw[n] at mu;exact mu
 have hb:∀b,H b=none->b≠e:=λb n z=>by
  subst z
  rcases he with r|r
  ·exact hx b n r
  ·rw[n] at r;cases r
 have hm:∀b u,H b=some u->¬ Mut (some u)->b≠x:=λb u q nm z=>by subst z;rw[q] at mu;exact nm mu
 refine ⟨fun b u q n _ _=>k b u (hb b n) q,fun b u q n _ _=>⟨u.slots,k b u (hb b n) q⟩,fun b u q n _=>by rw [aW (hx b n)]; exact n,fun b u q _=>?_,
  λb xs q=>by rw[aW (hm b _ q λz=>z)];exact q,λb u xs q=>by rw[aW (hm b _ q λz=>z)];exact q,λb ps q=>⟨#[],by rw[aW (hm b _ q λz=>z),q];simp⟩⟩
 by_cases hbe:b=e
 ·subst hbe;exact heo
 ·exact⟨u,k b u hbe q⟩
end
noncomputable def trk(h:BH)(H:Hp):List BF:=(bT h.objs.size).filter λa=>(H a).isSome
def aJx(h:BH)(H:Hp):BH:=PySem.W.hideAll h<|trk h H
def aGc(h:BH)(H:Hp):(aJx h H).objs.size=h.objs.size:=PySem.W.hideAll_size _ _
def aID{o:BI}(e:h.get? b=some o)(n:H b=none):(aJx h H).get? b=some o:=
 PySem.W.hideAll_get _ e λhm=>by have q:=(gS.mp hm).2;rw[n] at q;simp at q
def aNe{o:BI}(e:(aJx h H).get? b=some o):h.get? b=some o/\H b=none:=by
 have e':=PySem.W.of_hideAll (trk h H) e;refine⟨e',?_⟩;cases q:H b with
 |none=>rfl
 |some x=>have hm:b∈trk h H:=gS.mpr ⟨cN.mpr<|aU e',by simp[q]⟩;have z:(aJx h H).get? b=none:=PySem.W.hideAll_none (trk h H) hm;rw[z] at e;cases e
noncomputable def aLH(g h:BH)(L:BF):List (BF×BI):=(bT h.objs.size).filterMap λa=>if a=L\/(g.get? a).isSome=true then none else(h.get? a).map λo=>(a,o)
def rest(g h:BH)(L d:BF):List (BF×BI):=(aLH g h L).filter λp=>decide<|p.1≠d
structure Mod(K:aB)(mg:Str->Option BD)(base:BH):Prop where
 kin:K.In base
 glob:base.Ns AQ mg
 blt:∃mb,base.Ns builtinsNs mb/\∀x:Str,x≠"__name__"->mb x=Ah x
 nolimit:base.NoLimit
def nL:HO->Prop
 |.lst _=>False
 |.dK _=>False
 |.ext _=>False
 |_=>True
structure Cx where
 prog:AD
 w:AL
 K:aB
 mg:Str->Option BD
 base:BH
 A:BG
 N:List Str
 s₀:BE
 H₀:Hp
 env:Env
 outer:List Env
 stack:List Env
 ex:List BF
 fn:Str->Bool
 calm:Bool
 pn:List (BF×BI)
 xe:BD->BE->Prop
 B₀:Hp:=H₀
 hB:∀b o,H₀ b=some o->nL o->B₀ b=some o:=by intro b o e _;exact e
def frs(l:List Env):List BF:=l.filterMap (·.frame)
abbrev Cx.fs(X:Cx):List BF:=frs X.outer
def Vis(sc:Scope)(x:Str):Prop:=sc.names.lookup x=some .local\/sc.names.lookup x=some .cell\/sc.names.lookup x=some .free
def Loc(sc:Scope)(x:Str):Prop:=sc.names.lookup x=some .local\/sc.names.lookup x=some .cell
def aSk(env:Env)(h:BH)(m:Str->Option BD)(x:Str)(u:BD):Prop:=
 (env.kindOf x=some .local/\m x=some u)\/((env.kindOf x=some .cell\/env.kindOf x=some .free)/\∃c,env.cells.lookup x=some c/\h.IsCell c (some u))
structure Cx.Ok(X:Cx):Prop where
 mod:Mod X.K X.mg X.base
 kind:X.env.scope.kind=.function
 glob:X.env.globals=AQ
 blt:X.env.builtins=builtinsNs
 above:X.s₀.heap.objs.size<=X.env.locals
 inj:∀x y c,X.env.cells.lookup x=some c->X.env.cells.lookup y=some c->x=y
 has:∀x,(X.env.kindOf x=some .cell\/X.env.kindOf x=some .free)->∃c,X.env.cells.lookup x=some c
 cab:∀x c,X.fn x=true->X.env.cells.lookup x=some c->X.s₀.heap.objs.size<=c
 hd:X.calm=true->X.A.handled=none
 frames:X.A.frames=some X.stack
 stk:X.stack=X.outer\/(X.stack=X.env::X.outer/\X.env.frame=some X.env.locals)
 exf:∀b∈X.ex,b≠X.env.locals/\∀x c,X.env.cells.lookup x=some c->c≠b
 bs:∀b o,X.base.get? b=some o->X.s₀.heap.get? b=some o/\X.H₀ b=none
 bsz:X.base.objs.size<=X.s₀.heap.objs.size
 noex:∀b o,X.base.get? b=some o->b∉X.ex
 exfs:∀b∈X.ex,b∉X.fs
 funs:X.s₀.heap.FunFrames X.base X.outer
 frf:∀b∈X.fs,X.H₀ b=none
structure Inv(X:Cx)(za:List (BF×BI))(σ:List (Option V))(H:Hp)(s:BE):Prop where
 ok:X.Ok
 os:s.os=X.s₀.os
 bare:AllBare s.gens
 base:Un X.fs X.ex X.H₀ H X.s₀.heap s.heap
 loc:∃m,s.heap.Ns X.env.locals m/\∀ (i:Nat) (x:Str) (v:V),X.N[i]? =some x->σ[i]? =some (some v)->Vis X.env.scope x->∃u,RelV v u/\aSk X.env s.heap m x u
 cell:∀x c,X.env.cells.lookup x=some c->∃v,s.heap.IsCell c v
 free:H X.env.locals=none
 freeC:∀x c,X.env.cells.lookup x=some c->H c=none
 pin:∀p∈X.pn++za,s.heap.get? p.1=some p.2/\H p.1=none/\p.1≠X.env.locals/\p.1∉X.fs/\∀v,p.2.data≠ .cell v
 hok:HOk X.prog X.w H s.heap
 len:σ.length=X.N.length
variable {X:Cx}{za:List (BF×BI)}{σ:List (Option V)}{s:BE}
def Cx.Ok.nofr(ok:X.Ok){o:BI}(e:X.base.get? b=some o):b∉X.fs:=λhb=>by have:=(ok.funs.mem hb).1;rw[e] at this;cases this
def Inv.bs(I:Inv X za σ H s):∀b o,X.base.get? b=some o->s.heap.get? b=some o/\H b=none:=λb o e=>⟨I.base.keep b o (I.ok.bs b o e).1 (I.ok.bs b o e).2 (I.ok.nofr e)<|I.ok.noex b o e,I.base.free b o (I.ok.bs b o e).1 (I.ok.bs b o e).2<|I.ok.noex b o e⟩
def Inv.bk(I:Inv X za σ H s):∀b o,X.base.get? b=some o->s.heap.get? b=some o:=λb o e=>(I.bs b o e).1
def Inv.mod(I:Inv X za σ H s):Mod X.K X.mg X.base:=I.ok.mod
def Inv.kIn(I:Inv X za σ H s):X.K.In s.heap:=I.ok.mod.kin.keeps I.bk
def Inv.lt(I:Inv X za σ H s):X.env.locals<s.heap.objs.size:=let ⟨_,hn,_⟩:=I.loc;hn.lt
def Inv.sz(I:Inv X za σ H s):X.s₀.heap.objs.size<=s.heap.objs.size:=cJ I.ok.above<|cZ I.lt
def Inv.nofs(I:Inv X za σ H s)(h:s.heap.objs.size<=a):a∉X.fs:=λhb=>by obtain⟨_,o,ho,_⟩:=I.ok.funs.mem hb;exact absurd (aZ (aU ho)<|cJ I.sz h)<|eU _
def Inv.cne(I:Inv X za σ H s):∀x c,X.env.cells.lookup x=some c->c≠X.env.locals:=λx c e z=>by obtain⟨v,o,ho,hd⟩:=I.cell x c e;obtain⟨m,⟨o',es,ep,ho',hd',_⟩,_⟩:=I.loc;rw[z,ho'] at ho;cases ho;rw[hd'] at hd;cases hd
def Inv.funs(I:Inv X za σ H s):s.heap.FunFrames X.base X.outer:=by
 have all:∀ (l:List Env),(∀b∈frs l,b∈X.fs)->X.s₀.heap.FunFrames X.base l->s.heap.FunFrames X.base l:=by
  intro l
  induction l with
  |nil=>intro _ _;trivial
  |cons env r ih=>
   intro hs hl;obtain⟨hk,⟨L,o,hf,hn,ho,hd⟩,hr⟩:=hl;have hL:=hs L (by unfold frs;rw[hZ,hf];exact aO);obtain⟨sl,e⟩:=I.base.slot L o ho (I.ok.frf L hL) hL λz=>I.ok.exfs L z hL
   exact⟨hk,⟨L,_,hf,hn,e,hd⟩,ih (λb hb=>hs b<|by unfold frs;rw[hZ,hf];exact aH _ hb) hr⟩
 exact all X.outer (λ_ hb=>hb) I.ok.funs
def Inv.stack(I:Inv X za σ H s):s.heap.FunFrames X.base X.stack:=by
 rcases I.ok.stk with e|⟨e,hf⟩
 ·rw[e];exact I.funs
 ·rw[e];obtain⟨m,hn,_⟩:=I.loc;refine .cons (by rw[I.ok.kind];decide) hf hn ?_ I.funs;exact Heap.get?_none_of_le<|cJ I.ok.bsz I.ok.above
def Inv.stkSub(I:Inv X za σ H s):∀b∈frs X.stack,b∈X.env.locals::X.fs:=λb hb=>by
 rcases I.ok.stk with e|⟨e,hf⟩
 ·rw[e] at hb;exact aH _ hb
 ·rw[e] at hb;unfold frs at hb;rw[hZ,hf] at hb;exact hb
def Inv.stkFree(I:Inv X za σ H s):∀b∈frs X.stack,H b=none:=λb hb=>by
 rcases bL.mp (I.stkSub b hb) with e|hb
 ·rw[e];exact I.free
 ·obtain⟨_,o,ho,_⟩:=I.ok.funs.mem hb;exact I.base.free b o ho (I.ok.frf b hb) λz=>I.ok.exfs b z hb
def Inv.step{ch:List BF}(I:Inv X za σ H s)(hch:∀b∈ch,(b∈X.ex\/X.s₀.heap.objs.size<=b)/\b≠X.env.locals/\(∀x c,X.env.cells.lookup x=some c->c≠b)/\∀p∈X.pn++za,p.1≠b)(keep:∀b o,b≠X.env.locals->b∉X.fs->b∉ch->s.heap.get? b=some o->H b=none->h'.get? b=some o)(slot:∀b o,b≠X.env.locals->b∈X.fs->b∉ch->s.heap.get? b=some o->H b=none->∃sl,h'.get? b=some {o with slots:=sl}) (free:∀b o,b∉ch->s.heap.get? b=some o->H b=none->H' b=none)(there:∀b o,b∉ch->s.heap.get? b=some o->∃o',h'.get? b=some o')(tups:∀b xs,H b=some (.tup xs)->H' b=some (.tup xs)) (frzs:∀b o u,H b=some (.frz o u)->H' b=some (.frz o u)) (tbls:∀b ps,H b=some (.tbl ps)->∃more,H' b=some (.tbl<|ps++more))(ns:∀m,s.heap.Ns X.env.locals m->h'.Ns X.env.locals m) (hok:HOk X.prog X.w H' h') (hg:AllBare g'):Inv X za σ H' {s with heap:=h',gens:=g',drawn:=d',toks:=t'}:=by
 have neL:∀b o,X.s₀.heap.get? b=some o->b≠X.env.locals:=λb o e=>bR<|aZ (aU e) I.ok.above
 have neC:∀b o,X.s₀.heap.get? b=some o->b∉X.ex->b∉ch:=λb o e hx hb=>by
  rcases(hch b hb).1 with z|z
  ·exact hx z
  ·exact absurd (aZ (aU e) z)<|eU _
 have cellK:∀x c,X.env.cells.lookup x=some c->∀v,s.heap.IsCell c v->h'.IsCell c v:=λx c e v ⟨o,ho,hd⟩=>by
  have nch:=λz=>(hch c z).2.2.1 x c e rfl
  by_cases hc:c∈X.fs
  ·obtain⟨sl,q⟩:=slot c o (I.cne x c e) hc nch ho<|I.freeC x c e;exact⟨_,q,hd⟩
  ·exact⟨o,keep c o (I.cne x c e) hc nch ho<|I.freeC x c e,hd⟩
 refine⟨I.ok,I.os,hg,⟨λb o e n hb hx=>?_,λb o e n hb hx=>?_,λb o e n hx=>?_,λb o e hx=>?_,λb xs e=>tups b xs<|I.base.tups b xs e,λb o xs e=>frzs b o xs<|I.base.frzs b o xs e,λb ps e=>?_⟩,?_,λx c e=>?_,?_,λx c e=>?_,λp hp=>?_,hok,I.len⟩
 ·exact keep b o (neL b o e) hb (neC b o e hx) (I.base.keep b o e n hb hx)<|I.base.free b o e n hx
 ·obtain⟨sl,e1⟩:=I.base.slot b o e n hb hx;obtain⟨sl',e2⟩:=slot b _ (neL b o e) hb (neC b o e hx) e1<|I.base.free b o e n hx;exact⟨sl',e2⟩
 ·obtain⟨o',e1⟩:=I.base.there b o e hx;exact free b o' (neC b o e hx) e1<|I.base.free b o e n hx
 ·obtain⟨o',e1⟩:=I.base.there b o e hx;exact there b o' (neC b o e hx) e1
 ·obtain⟨m1,e1⟩:=I.base.tbls b ps e;obtain⟨m2,e2⟩:=tbls b _ e1;exact⟨m1++m2,by rw[e2,Array.append_assoc]⟩
 ·obtain⟨m,hn,hl⟩:=I.loc;refine⟨m,ns m hn,λi x v e1 e2 e3=>?_⟩;obtain⟨u,r,l⟩:=hl i x v e1 e2 e3;refine⟨u,r,?_⟩
  rcases l with l|⟨k,c,e,z⟩
  ·exact .inl l
  ·exact .inr ⟨k,c,e,cellK x c e _ z⟩
 ·obtain⟨v,z⟩:=I.cell x c e;exact⟨v,cellK x c e v z⟩
 ·obtain⟨m,⟨o,_,_,ho,_⟩,_⟩:=I.loc;exact free _ o (λz=>(hch _ z).2.1 rfl) ho I.free
 ·obtain⟨v,o,ho,hd⟩:=I.cell x c e;exact free c o (λz=>(hch c z).2.2.1 x c e rfl) ho<|I.freeC x c e
 ·obtain⟨e,n,ne,nf,d⟩:=I.pin p hp;have nch:=λz=>(hch p.1 z).2.2.2 p hp rfl
  exact⟨keep p.1 p.2 ne nf nch e n,free p.1 p.2 nch e n,ne,nf,d⟩
def Inv.un(I:Inv X za σ H s)(u:Un X.fs [] H H' s.heap h')(hok:HOk X.prog X.w H' h'):Inv X za σ H' {s with heap:=h',toks:=t'}:=by
 obtain⟨m,⟨o,es,ep,ho,r⟩,_⟩:=id I.loc;obtain⟨sl,hL⟩:=u.any ho I.free<|by simp
 exact I.step (ch:=[]) (fun _ z=>nomatch z) (fun b o _ hb _ e n=>u.keep b o e n hb (by simp)) (fun b o _ hb _ e n=>u.slot b o e n hb (by simp)) (fun b o _ e n=>u.free b o e n (by simp)) (fun b o _ e=>u.there b o e (by simp)) u.tups u.frzs u.tbls (fun m' hm=>by
  obtain⟨o',es',ep',ho',r'⟩:=hm;rw[ho] at ho';cases ho'
  exact⟨_,es',ep',hL,r'⟩) hok I.bare
def Inv.call(I:Inv X za σ H s)(u:Un (frs X.stack) ch H H' s.heap h')(hok:HOk X.prog X.w H' h')(hg:AllBare g')(hch:∀b∈ch,(b∈X.ex\/X.s₀.heap.objs.size<=b)/\b≠X.env.locals/\(∀x c,X.env.cells.lookup x=some c->c≠b)/\∀p∈X.pn++za,p.1≠b):Inv X za σ H' {s with heap:=h',gens:=g',drawn:=d',toks:=t'}:=by
 obtain⟨m,⟨o,es,ep,ho,r⟩,_⟩:=id I.loc;obtain⟨sl,hL⟩:=u.any ho I.free λz=>(hch _ z).2.1 rfl
 exact I.step hch (fun b o hL hb hc e n=>u.keep b o e n (fun z=>(bL.mp (I.stkSub b z)).elim hL hb) hc) (fun b o _ _ hc e n=>u.any e n hc) (fun b o hc e n=>u.free b o e n hc) (fun b o hc e=>u.there b o e hc) u.tups u.frzs u.tbls (fun m' hm=>by
  obtain⟨o',es',ep',ho',r'⟩:=hm;rw[ho] at ho';cases ho'
  exact⟨_,es',ep',hL,r'⟩) hok hg
def Inv.turned(I:Inv X za σ H s)(k:∀b o,b≠it->s.heap.get? b=some o->h'.get? b=some o)(hn:H it=none)(hL:it≠X.env.locals)(h1:it∈X.ex\/X.s₀.heap.objs.size<=it) (h2:∀x c,X.env.cells.lookup x=some c->c≠it) (h3:∀p∈X.pn++za,p.1≠it):Inv X za σ H {s with heap:=h',toks:=t'}:=by
 have nit:∀b u,H b=some u->b≠it:=λb u e z=>by rw[z,hn] at e;cases e
 refine I.step (ch:=[it]) (λb hb=>?_) (λb o _ _ hc e _=>k b o (λz=>hc<|by simp[z]) e) (λb o _ _ hc e _=>⟨o.slots,k b o (λz=>hc<|by simp[z]) e⟩) (λ_ _ _ _ n=>n)
  (λb o hc e=>⟨o,k b o (λz=>hc<|by simp[z]) e⟩) (λ_ _ e=>e) (λ_ _ _ e=>e) (λb ps e=>⟨#[],by rw[e];simp⟩) (λm hm=>?_) (λb u e=>?_) I.bare
 ·have e:=by simpa using hb
  subst e;exact⟨h1,hL,h2,h3⟩
 ·obtain⟨o,es,ep,ho,r⟩:=hm;exact⟨o,es,ep,k _ o (Ne.symm hL) ho,r⟩
 ·refine(I.hok b u e).stay (λc v hc q=>k c v ?_ q) (λ_ q=>q) λ_ _ q=>q
  rcases hc with z|z
  ·rw[z];exact nit b u e
  ·exact nit c _ z
def Inv.tok(I:Inv X za σ H s)(t:Nat):Inv X za σ H {s with toks:=t}:=I.un Un.refl I.hok
def Inv.kept(I:Inv X za σ H s)(k:∀b u,s.heap.get? b=some u->h'.get? b=some u):Inv X za σ H {s with heap:=h',toks:=t'}:=I.un (Un.kept k)<|I.hok.kept k
def Inv.laid(I:Inv X za σ H s)(k:∀b u,s.heap.get? b=some u->h'.get? b=some u)(hp:s.heap.objs.size<=a)(new:ObjOk X.prog X.w (upd H a o) h' a o):Inv X za σ (upd H a o) {s with heap:=h',toks:=t'}:=I.un (Un.laid k hp<|I.hok.fresh hp)<|I.hok.laid k hp new
def Inv.write(I:Inv X za σ H s)(mu:Mut (H x))(he:e=x\/H e=some (.own x))(k:∀b u,b≠e->s.heap.get? b=some u->h'.get? b=some u)(heo:∃u,h'.get? e=some u)(new:ObjOk X.prog X.w (upd H x o) h' x o):Inv X za σ (upd H x o) {s with heap:=h',toks:=t'}:=I.un (Un.write mu he k heo)<|I.hok.write mu he k heo new
def Inv.pins_of(I:Inv X za σ H s)(h:∀p∈pins',s.heap.get? p.1=some p.2/\H p.1=none/\p.1≠X.env.locals/\p.1∉X.fs/\∀v,p.2.data≠ .cell v):Inv X pins' σ H s:=
 ⟨I.ok,I.os,I.bare,I.base,I.loc,I.cell,I.free,I.freeC,λp hp=>(aV.mp hp).elim (λz=>I.pin p<|bN _ z)<|h p,I.hok,I.len⟩
def yC{N:List Str}(hN:N.Nodup){i j:Nat}{x:Str}(a:N[i]? =some x)(b:N[j]? =some x):i=j:=by obtain⟨h1,e1⟩:=aF.mp a;obtain⟨h2,e2⟩:=aF.mp b;exact(lC hN).mp<|e1.trans e2.symm
def aHg{x:Str}(I:Inv X za σ H s)(hN:X.N.Nodup)(hi:X.N[i]? =some x)(hx:Loc X.env.scope x)(r:RelV v u)(h:∀s',Inv X za (σ.set i (some v)) H s'->(∃a,Heap.SameBut a s.heap s'.heap/\(a=X.env.locals\/X.env.cells.lookup x=some a))->Q () s') (hf:X.fn x=true\/X.env.scope.names.lookup x=some .local:=by first|exact .inl rfl|exact .inr rfl|assumption):AK M A (storeName X.env x u) Q E s:=by
 obtain⟨m,hn,hl⟩:=id I.loc;have hcls:(X.env.scope.kind==.class||(X.env.scope.kind==.module&&X.env.locals !=X.env.globals))=false:=by rw[I.ok.kind];rfl
 have hiσ:i<σ.length:=by rw[I.len];exact(aF.mp hi).1
 have cne:=I.cne
 have tracked:∀ {a:BF}{h':BH},(∃o,s.heap.get? a=some o/\H a=none)->Heap.SameBut a s.heap h'->HOk X.prog X.w H h':=λ{a h'} ha hs b ob e=>by
  obtain⟨_,_,hfree⟩:=ha;refine(I.hok b ob e).stay (λc w' hc q=>(hs.2 c ?_).trans q) (λ_ q=>q) λ_ _ q=>q
  rintro rfl
  rcases hc with rfl|hc
  ·rw[hfree] at e;cases e
  ·rw[hfree] at hc;cases hc
 rcases hx with hk|hk
 ·refine wpAny_storeName_local hk hn (λh' hn' hs=>?_) hcls;obtain⟨oL,_,_,hoL,_⟩:=id hn;refine h _ ⟨I.ok,I.os,I.bare,⟨λb o e n hb hx=>?_,λb o e n hb hx=>?_,I.base.free,λb o e hx=>?_,I.base.tups,I.base.frzs,I.base.tbls⟩,⟨_,hn',λj y v' e1 e2 e3=>?_⟩,λy c e=>?_,I.free,I.freeC,λp hp=>?_,tracked ⟨oL,hoL,I.free⟩ hs,by simpa using I.len⟩ ⟨_,hs,jb⟩
  ·exact(hs.2 b (bR<|aZ (aU e) I.ok.above)).trans<|I.base.keep b o e n hb hx
  ·obtain⟨sl,e1⟩:=I.base.slot b o e n hb hx;exact⟨sl,(hs.2 b (bR<|aZ (aU e) I.ok.above)).trans e1⟩
  ·obtain⟨o',e1⟩:=I.base.there b o e hx;exact⟨o',(hs.2 b (bR<|aZ (aU e) I.ok.above)).trans e1⟩
  ·by_cases hj:j=i
   ·subst hj;rw[hi] at e1;cases e1;rw[iK hiσ] at e2;cases e2;exact⟨u,r,.inl ⟨hk,by simp⟩⟩
   ·rw[gU<|Ne.symm hj] at e2;obtain⟨u',r',q⟩:=hl j y v' e1 e2 e3;refine⟨u',r',?_⟩
    rcases q with⟨k,e⟩|⟨k,c,e,z⟩
    ·refine .inl ⟨k,?_⟩;have:y≠x:=λe=>hj (yC hN e1<|e▸hi)
     simp[this,e]
    ·exact .inr ⟨k,c,e,z.sameBut hs<|cne y c e⟩
  ·obtain⟨w',z⟩:=I.cell y c e;exact⟨w',z.sameBut hs<|cne y c e⟩
  ·obtain⟨e,n,ne,nf,d⟩:=I.pin p hp;exact⟨(hs.2 p.1 ne).trans e,n,ne,nf,d⟩
 ·have hfn:X.fn x=true:=by
   rcases hf with z|z
   ·exact z
   ·rw[z] at hk;cases hk
  obtain⟨c,hc⟩:=I.ok.has x<|.inl hk;obtain⟨w',z⟩:=I.cell x c hc;refine wpAny_storeName_cell I.ok.kind hk hc z λh' hc' hs=>?_;obtain⟨oc,hoc,hocd⟩:=id z;refine h {s with heap:=h'} ⟨I.ok,I.os,I.bare,⟨λb o e n hb hx=>?_,λb o e n hb hx=>?_,I.base.free,λb o e hx=>?_,I.base.tups,I.base.frzs,I.base.tbls⟩,⟨m,hn.sameBut hs (Ne.symm<|cne x c hc),λj y v' e1 e2 e3=>?_⟩,λy c' e=>?_,I.free,I.freeC,λp hp=>?_,tracked ⟨oc,hoc,I.freeC x c hc⟩ hs,by simpa using I.len⟩ ⟨c,hs,.inr hc⟩
  ·exact(hs.2 b<|bR (aZ (aU e)<|I.ok.cab x c hfn hc)).trans<|I.base.keep b o e n hb hx
  ·obtain⟨sl,e1⟩:=I.base.slot b o e n hb hx;exact⟨sl,(hs.2 b<|bR (aZ (aU e)<|I.ok.cab x c hfn hc)).trans e1⟩
  ·obtain⟨o',e1⟩:=I.base.there b o e hx;exact⟨o',(hs.2 b<|bR (aZ (aU e)<|I.ok.cab x c hfn hc)).trans e1⟩
  ·by_cases hj:j=i
   ·subst hj;rw[hi] at e1;cases e1;rw[iK hiσ] at e2;cases e2;exact⟨u,r,.inr ⟨.inl hk,c,hc,hc'⟩⟩
   ·rw[gU<|Ne.symm hj] at e2;obtain⟨u',r',q⟩:=hl j y v' e1 e2 e3;refine⟨u',r',?_⟩
    rcases q with q|⟨k,c',e,z'⟩
    ·exact .inl q
    ·refine .inr ⟨k,c',e,z'.sameBut hs ?_⟩;rintro rfl;exact hj (yC hN e1<|I.ok.inj _ _ _ e hc▸hi)
  ·by_cases hcc:c'=c
   ·subst hcc;exact⟨_,hc'⟩
   ·obtain⟨w2,z2⟩:=I.cell y c' e;exact⟨w2,z2.sameBut hs hcc⟩
  ·obtain⟨e,n,ne,nf,d⟩:=I.pin p hp;refine⟨(hs.2 p.1 ?_).trans e,n,ne,nf,d⟩;intro q;rw[q,hoc] at e;have q':=bZ.inj e;exact d w' (by rw[<-q'];exact hocd)
def sW{x:Str}(I:Inv X za σ H s)(hN:X.N.Nodup)(hi:X.N[i]? =some x)(hx:Loc X.env.scope x)(r:RelV v u)(h:∀s',Inv X za (σ.set i (some v)) H s'->Q () s') (hf:X.fn x=true\/X.env.scope.names.lookup x=some .local:=by first|exact .inl rfl|exact .inr rfl|assumption):AK M A (storeName X.env x u) Q E s:=
 aHg I hN hi hx r (λs' I' _=>h s' I') hf
def Inv.call'(I:Inv X za σ H s)(ho:s'.os=s.os)(u:Un (frs X.stack) ch H H' s.heap s'.heap)(hok:HOk X.prog X.w H' s'.heap)(hg:AllBare s'.gens)(hch:∀b∈ch,(b∈X.ex\/X.s₀.heap.objs.size<=b)/\b≠X.env.locals/\(∀x c,X.env.cells.lookup x=some c->c≠b)/\∀p∈X.pn++za,p.1≠b):Inv X za σ H' s':=by
 obtain⟨h',g',d',t',o'⟩:=s';have e:=ho;subst e;exact I.call u hok hg hch
abbrev XK:=BD->Option BF->Hp->Prop
abbrev St:=List<|Option V
abbrev VK:=V->Hp->Prop
abbrev TE:=St->Hp->VK->Prop
abbrev TT:=St->Hp->(Bool->Hp->Prop)->Prop
abbrev TA:=St->Hp->(List V->Hp->Prop)->Prop
structure vV where
 nx:St->Hp->Prop
 rt:VK
 bk:St->Hp->Prop:=λ_ _=>False
 ct:St->Hp->Prop:=λ_ _=>False
abbrev TS:=vV->St->Hp->Prop
def EP(X:Cx)(za:List (BF×BI))(σ:St)(Q:VK)(u:BD)(s':BE):Prop:=∃v H',Inv X za σ H' s'/\RelV v u/\Q v H'
def TP(X:Cx)(za:List (BF×BI))(σ:St)(Q:Bool->Hp->Prop)(b:Bool)(s':BE):Prop:=∃H',Inv X za σ H' s'/\Q b H'
def AP(X:Cx)(za:List (BF×BI))(σ:St)(Q:List V->Hp->Prop)(us:List BD)(s':BE):Prop:=∃vs H',Inv X za σ H' s'/\Vals vs us/\Q vs H'
def SP(X:Cx)(za:List (BF×BI))(D:vV)(f:Flow)(s':BE):Prop:=
 match f with
 |.next=>∃σ' H',Inv X za σ' H' s'/\D.nx σ' H'
 |.brk=>∃σ' H',Inv X za σ' H' s'/\D.bk σ' H'
 |.cont=>∃σ' H',Inv X za σ' H' s'/\D.ct σ' H'
 |.ret u=>∃v σ' H',Inv X za σ' H' s'/\RelV v u/\D.rt v H'
def PE(X:Cx)(e:Expr)(t:TE):Prop:=
 ∀ (za:List (BF×BI)) (s:BE) (σ:St) (H:Hp) (Q:VK),Inv X za σ H s->t σ H Q->AK (AG X.prog X.w) X.A (eval e X.env) (EP X za σ Q) X.xe s
def PT(X:Cx)(e:Expr)(t:TT):Prop:=
 ∀ (za:List (BF×BI)) (s:BE) (σ:St) (H:Hp) (Q:Bool->Hp->Prop),Inv X za σ H s->t σ H Q->AK (AG X.prog X.w) X.A (isTrue e X.env<|eval e X.env) (TP X za σ Q) X.xe s
def PW(X:Cx)(e:Expr)(t:TT):Prop:=
 ∀ (whole:Sem BD) (za:List (BF×BI)) (s:BE) (σ:St) (H:Hp) (Q:Bool->Hp->Prop),Inv X za σ H s->t σ H Q->AK (AG X.prog X.w) X.A (isTrue e X.env whole) (TP X za σ Q) X.xe s
def PW.pt{e:Expr}(h:PW X e t):PT X e t:=h _
def PA(X:Cx)(es:List Expr)(t:TA):Prop:=
 ∀ (pos:Pos) (za:List (BF×BI)) (s:BE) (σ:St) (H:Hp) (Q:List V->Hp->Prop),Inv X za σ H s->t σ H Q->AK (AG X.prog X.w) X.A (spliced (AV pos<|AB es X.env)) (AP X za σ Q) X.xe s
def PS(X:Cx)(st:BJ)(t:TS):Prop:=
 ∀ (za:List (BF×BI)) (s:BE) (σ:St) (H:Hp) (D:vV),Inv X za σ H s->t D σ H->AK (AG X.prog X.w) X.A (exec st X.env) (SP X za D) X.xe s
def PSs(X:Cx)(st:List BJ)(t:TS):Prop:=
 ∀ (za:List (BF×BI)) (s:BE) (σ:St) (H:Hp) (D:vV),Inv X za σ H s->t D σ H->AK (AG X.prog X.w) X.A (execs st X.env) (SP X za D) X.xe s
def thn{M:Model}{A:BG}{E:BD->BE->Prop}(h:AK M A t Q E s)(hQ:∀a s,Q a s->Q' a s):AK M A t Q' E s:=AU h hQ λ_ _ x=>x
def iQ(i:Nat):TE:=λσ H Q=>∃v,σ[i]? =some (some v)/\Q v H
def tC(v:V):TE:=λ_ H Q=>Q v H
def aPO{x:Str}{pos:Pos}(hN:X.N[i]? =some x)(hv:Vis X.env.scope x)(hd:(x==("__debug__":Str))=false:=by decide)(hcd:(x==("__classdict__":Str))=false:=by decide):PE X (.Name x pos) (iQ i):=by
 intro za s σ H Q I h;obtain⟨v,e,h⟩:=h;obtain⟨m,hn,hl⟩:=I.loc;obtain⟨u,r,l⟩:=hl i x v hN e hv;have fin:EP X za σ Q u s:=⟨v,H,I,r,h⟩
 rcases l with⟨hk,hm⟩|⟨hk,c,hc,hcell⟩
 ·exact wpAny_Name (wpAny_loadName_local I.ok.kind hk hn hm fin) hd
 ·rcases hk with hk|hk
  ·exact wpAny_Name (wpAny_loadName_cell I.ok.kind hk hc hcell fin) hd
  ·exact wpAny_Name (wpAny_loadName_free I.ok.kind hk hc hcell fin hcd) hd
def pe_int:PE X (.Constant (.int i) j pos) (tC<|.int i):=λ_ _ _ H _ I h=>wpAny_Constant_int ⟨.int i,H,I.tok _,⟨_,rfl⟩,h⟩
def pe_bl:PE X (.Constant (.bool b) j pos) (tC<|.bl b):=λ_ _ _ H _ I h=>Constant_bool ⟨.bl b,H,I,rfl,h⟩
def pe_non:PE X (.Constant .none j pos) (tC .non):=λ_ _ _ H _ I h=>Constant_none ⟨.non,H,I,rfl,h⟩
def pe_str{x j pos}:PE X (.Constant (.str x) j pos) (tC<|.str x):=λ_ _ _ H _ I h=>Calls.Constant_str ⟨.str x,H,I.tok _,⟨_,rfl⟩,h⟩
def Gl(X:Cx)(x:Str):Prop:=X.env.kindOf x=some .globalImplicit
def lY{σ:St}{x:Str}(I:Inv X za σ H s)(hg:Gl X x)(hm:X.mg x=some u)(h:Q u s)(hd:(x==("__debug__":Str))=false:=by decide):AK (AG X.prog X.w) X.A (eval (.Name x pos) X.env) Q E s:=
 Calls.Name_function_global I.ok.kind hg (Calls.loadGlobal_global (by rw[I.ok.glob];exact I.mod.glob.keeps I.bk) hm h) hd
def mH{E:BD->BE->Prop}{σ:St}{x:Str}{pos:Pos}(I:Inv X za σ H s)(hg:Gl X x)(hm:X.mg x=none)(hv:Ah x=some u)(h:Q u s)(hn:x≠"__name__":=by decide) (hd:(x==("__debug__":Str))=false:=by decide):AK (AG X.prog X.w) X.A (eval (.Name x pos) X.env) Q E s:=by
 obtain⟨mb,h1,h2⟩:=I.mod.blt;exact Calls.Name_function_global I.ok.kind hg (Calls.loadGlobal_builtin (by rw[I.ok.glob];exact I.mod.glob.keeps I.bk) hm (by rw[I.ok.blt];exact h1.keeps I.bk) ((h2 x hn).trans hv) h) hd
def wV{x:Str}(hg:Gl X x)(hm:X.mg x=some u)(r:RelV v u)(hd:(x==("__debug__":Str))=false:=by decide):PE X (.Name x pos) (tC v):=
 λ_ _ _ H _ I h=>lY I hg hm ⟨v,H,I,r,h⟩ hd
def aMF{x:Str}{pos:Pos}(hg:Gl X x)(hm:X.mg x=none)(hv:Ah x=some u)(r:RelV v u)(hn:x≠"__name__":=by decide)(hd:(x==("__debug__":Str))=false:=by decide):PE X (.Name x pos) (tC v):=
 λ_ _ _ H _ I h=>mH I hg hm hv ⟨v,H,I,r,h⟩ hn hd
def t2I(ta tb:TE)(k:Int->Int->Hp->Prop):St->Hp->Prop:=λσ H=>ta σ H λx H1=>tb σ H1 λy H2=>∃i j,x=.int i/\y=.int j/\k i j H2
variable {a b:Expr}{ta tb:TE}{pos:Pos}
def PC(X:Cx)(op:CmpOp)(a b:Expr)(t:TE):Prop:=
 ∀ (za:List (BF×BI)) (s:BE) (σ:St) (H:Hp) (Q:VK),Inv X za σ H s->t σ H Q->
  AK (AG X.prog X.w) X.A (eval a X.env) (λv s₁=>AK (AG X.prog X.w) X.A (eval b X.env) (λu s₂=>AK (AG X.prog X.w) X.A (AT op v u) (EP X za σ Q) X.xe s₂) X.xe s₁) X.xe s
def aNE(p:Int->Int->Bool)(ta tb:TE):TE:=λσ H Q=>t2I ta tb (λi j H2=>Q (.bl<|p i j) H2) σ H
abbrev tLt:TE->TE->TE:=aNE λi j=>decide<|i<j
abbrev tLe:TE->TE->TE:=aNE λi j=>decide<|i<=j
abbrev tGt:TE->TE->TE:=aNE λi j=>decide<|j<i
abbrev tGe:TE->TE->TE:=aNE λi j=>decide<|j<=i
abbrev tEqI:TE->TE->TE:=aNE λi j=>decide<|i=j
abbrev tNeI:TE->TE->TE:=aNE λi j=> !decide (i=j)
def tB(t:TE):TT:=λσ H Q=>t σ H λx H1=>∃c,x=.bl c/\Q c H1
theorem aOW(h:PC X op a b t)(h1:AX op b=false:=by first|exact nobehind _ (by decide) (by decide)|rfl):PT X (.Compare a [op] [b] pos) (tB t):=by intro za s σ H Q I hw;refine wpAny_isTrue_Compare1 (thn (h za s σ H _ I hw) λv s1 h1=>thn h1 λu s2 h2=>thn h2 λc s3 ⟨x,H1,I1,r1,q1⟩=>?_) h1;obtain⟨d,rfl,q⟩:=q1;cases r1;exact Ai ⟨H1,I1,q⟩
theorem aPK{e:Expr}(h:PE X e t)(he:∀whole,isTrue e X.env whole=(do let v <-whole;standAt e.pos;holding [v] (truthy v)):=by intro _;rfl):PT X e (tB t):=by intro za s σ H Q I hw;refine isTrue_plain (thn (h za s σ H _ I hw) λv s1 ⟨x,H1,I1,r1,q1⟩=>?_)<|he _;obtain⟨d,rfl,q⟩:=q1;cases r1;exact Ai ⟨H1,I1,q⟩
variable {tA tB':TT}{rest:List Expr}
def tAnd(t u:TT):TT:=λσ H Q=>t σ H λc H1=>if c=true then u σ H1 Q else Q false H1
def tOr(t u:TT):TT:=λσ H Q=>t σ H λc H1=>if c=true then Q true H1 else u σ H1 Q
def tNot(t:TT):TT:=λσ H Q=>t σ H λc H1=>Q (!c) H1
def aLY(ha:PT X a tA):PW X (.BoolOp .And [a] pos) tA:=by
 intro wh za s σ H Q I h;refine isTrue_and<|thn (ha za s σ H Q I h) λc s1 e=>?_;cases c with
 |true=>exact isTrue_and_nil e
 |false=>exact e
def aPF(ha:PT X a tA):PW X (.BoolOp .Or [a] pos) tA:=by
 intro wh za s σ H Q I h;refine isTrue_or<|thn (ha za s σ H Q I h) λc s1 e=>?_;cases c with
 |false=>exact isTrue_or_nil e
 |true=>exact e
theorem aPs(ha:PT X a tA)(hb:PW X (.BoolOp .And (b::rest) pos) tB'):PW X (.BoolOp .And (a::b::rest) pos) (tAnd tA tB'):=by
 intro wh za s σ H Q I h;refine isTrue_and<|thn (ha za s σ H _ I h) λc s1 ⟨H1,I1,q1⟩=>?_;cases c with
 |true=>exact hb wh za s1 σ H1 Q I1 q1
 |false=>exact⟨H1,I1,q1⟩
theorem aRk(ha:PT X a tA)(hb:PW X (.BoolOp .Or (b::rest) pos) tB'):PW X (.BoolOp .Or (a::b::rest) pos) (tOr tA tB'):=by
 intro wh za s σ H Q I h;refine isTrue_or<|thn (ha za s σ H _ I h) λc s1 ⟨H1,I1,q1⟩=>?_;cases c with
 |true=>exact⟨H1,I1,q1⟩
 |false=>exact hb wh za s1 σ H1 Q I1 q1
theorem aOY(ha:PT X a tA):PT X (.UnaryOp .Not a pos) (tNot tA):=by intro za s σ H Q I h;exact isTrue_not<|ha za s σ H (λc H1=>Q (!c) H1) I h
def aRo(ta tb:TE):TE:=λσ H Q=>ta σ H λx H1=>∃c,x=.bl c/\if c=true then tb σ H1 Q else Q (.bl false) H1
def aRr(ta:TE):TE:=λσ H Q=>ta σ H λx H1=>∃c,x=.bl c/\Q (.bl<|!c) H1
def aPH(h:PE X a t):PE X (.BoolOp op [a] pos) t:=λza s σ H Q I hw=>BoolOp_one<|h za s σ H Q I hw
theorem aOJ(ha:PE X a ta)(hb:PE X (.BoolOp .And (b::rest) pos) tb):PE X (.BoolOp .And (a::b::rest) pos) (aRo ta tb):=by
 intro za s σ H Q I h;refine BoolOp_and<|thn (ha za s σ H _ I h) λv s1 ⟨x,H1,I1,r1,q1⟩=>?_;obtain⟨c,rfl,q1⟩:=q1;cases r1;refine Ai ?_;cases c with
 |true=>exact hb za s1 σ H1 Q I1 q1
 |false=>exact⟨.bl false,H1,I1,rfl,q1⟩
theorem aPm(ha:PE X a ta):PE X (.UnaryOp .Not a pos) (aRr ta):=by intro za s σ H Q I h;refine UnaryOp_<|thn (ha za s σ H _ I h) λv s1 ⟨x,H1,I1,r1,q1⟩=>?_;obtain⟨c,rfl,q1⟩:=q1;cases r1;exact not_of<|Ai ⟨.bl<|!c,H1,I1,rfl,q1⟩
def tIf(t:TT)(ta tb:TE):TE:=λσ H Q=>t σ H λc H1=>if c=true then ta σ H1 Q else tb σ H1 Q
theorem aII(hc:PT X c tA)(ha:PE X a ta)(hb:PE X b tb):PE X (.IfExp c a b pos) (tIf tA ta tb):=by
 intro za s σ H Q I h;refine wpAny_IfExp<|thn (hc za s σ H _ I h) λd s1 ⟨H1,I1,q1⟩=>?_;cases d with
 |true=>exact ha za s1 σ H1 Q I1 q1
 |false=>exact hb za s1 σ H1 Q I1 q1
def SqL(K:aB)(H:Hp)(a:BF)(xs:List V):Prop:=
 Rd H a (.lst xs)\/
  ∃ (o:BI) (its:Array BD) (n:Nat),K.lookup a=some o/\o.cls=.type "list"/\o.dict=none/\o.data=.seq its n/\its.size<=AJ/\Vals xs its.toList
def SqT(K:aB)(H:Hp)(a:BF)(xs:List V):Prop:=
 Rd H a (.tup xs)\/
  ∃ (o:BI) (its:Array BD) (n:Nat),K.lookup a=some o/\o.cls=.type "tuple"/\o.data=.seq its n/\its.size<=AJ/\Vals xs its.toList
noncomputable def absV:BD->Option V
 |.none=>some .non
 |.bool b=>some<|.bl b
 |.int i _=>some<|.int i
 |.str x _=>some<|.str x
 |.bytes b _=>some<|.byt b
 |.float b _=>some<|.flt b
 |.ref a=>some<|.ref a
 |.type n=>some<|.ty n
 |_=>none
def RelV.abs{x:V}(r:RelV x u):absV u=some x:=by
 cases x with
 |non=>cases r;rfl
 |bl _=>cases r;rfl
 |int _=>obtain⟨t,rfl⟩:=r;rfl
 |str _=>obtain⟨t,rfl⟩:=r;rfl
 |byt _=>obtain⟨t,rfl⟩:=r;rfl
 |flt _=>obtain⟨t,rfl⟩:=r;rfl
 |ref _=>cases r;rfl
 |ty _=>cases r;rfl
def RelV.inj{x y:V}(r:RelV x u)(q:RelV y u):x=y:=bZ.inj<|r.abs.symm.trans q.abs
def Vals.inj:∀ {xs ys:List V}{us:List BD},Vals xs us->Vals ys us->xs=ys
 |_,_,_,.nil,.nil=>rfl
 |_,_,_,.cons r t,.cons r' t'=>by rw[r.inj r',Vals.inj t t']
variable {σ:St}{a:BF}{xs ys:List V}
def SqL.of{K:aB}(h:H a=some (.lst xs)):SqL K H a xs:=.inl<|.inl h
def SqT.of{K:aB}(h:H a=some (.tup xs)):SqT K H a xs:=.inl<|.inl h
theorem Inv.list(I:Inv X za σ H s)(h:SqL X.K H a xs):∃its:List BD,Vals xs its/\PlainL s.heap a its.toArray/\xs.length<=AJ:=by
 rcases h with h|⟨o,its,n,hk,hc,hd,hs,hz,r⟩
 ·obtain⟨z,its,n,r,e⟩:=h.ok I.hok;exact⟨its,r,⟨_,n,e,rfl,rfl,rfl⟩,z⟩
 ·refine⟨its.toList,r,⟨o,n,I.kIn a o hk,hc,hd,by simpa using hs⟩,?_⟩;have e:=r.length;simp at e;lia
theorem Inv.tuple(I:Inv X za σ H s)(h:SqT X.K H a xs):∃its:List BD,Vals xs its/\IsTup s.heap a its.toArray/\xs.length<=AJ:=by
 rcases h with h|⟨o,its,n,hk,hc,hs,hz,r⟩
 ·obtain⟨z,its,r,p⟩:=h.ok I.hok;exact⟨its,r,p.tup,z⟩
 ·refine⟨its.toList,r,⟨o,I.kIn a o hk,hc,n,by simpa using hs⟩,?_⟩;have e:=r.length;simp at e;lia
def Inv.list_inj(I:Inv X za σ H s)(h:SqL X.K H a xs)(h':SqL X.K H a ys):xs=ys:=by
 obtain⟨its,r,⟨o,n,e,_,_,d⟩,_⟩:=I.list h;obtain⟨its',r',⟨o',n',e',_,_,d'⟩,_⟩:=I.list h';rw[e] at e';cases e';rw[d] at d';injection d' with d1 _
 have:=by simpa using congrArg aQy d1
 subst this;exact r.inj r'
def Inv.tuple_inj(I:Inv X za σ H s)(h:SqT X.K H a xs)(h':SqT X.K H a ys):xs=ys:=by
 obtain⟨its,r,⟨o,e,_,n,d⟩,_⟩:=I.tuple h;obtain⟨its',r',⟨o',e',_,n',d'⟩,_⟩:=I.tuple h';rw[e] at e';cases e';rw[d] at d';injection d' with d1 _
 have:=by simpa using congrArg aQy d1
 subst this;exact r.inj r'
abbrev Cx.wish(X:Cx)(E:BD->BE->Prop):Cx:={X with xe:=E}
abbrev Cx.nox(X:Cx):Cx:=X.wish λ_ _=>False
def Cx.Ok.wish(ok:X.Ok)(E:BD->BE->Prop):(X.wish E).Ok:=
 ⟨ok.mod,ok.kind,ok.glob,ok.blt,ok.above,ok.inj,ok.has,ok.cab,ok.hd,ok.frames,ok.stk,ok.exf,ok.bs,ok.bsz,ok.noex,ok.exfs,ok.funs,ok.frf⟩
def Cx.Ok.unwish(ok:(X.wish E).Ok):X.Ok:=
 ⟨ok.mod,ok.kind,ok.glob,ok.blt,ok.above,ok.inj,ok.has,ok.cab,ok.hd,ok.frames,ok.stk,ok.exf,ok.bs,ok.bsz,ok.noex,ok.exfs,ok.funs,ok.frf⟩
variable {E:BD->BE->Prop}
def Inv.wish(I:Inv X za σ H s)(E:BD->BE->Prop):Inv (X.wish E) za σ H s:=⟨I.ok.wish E,I.os,I.bare,I.base,I.loc,I.cell,I.free,I.freeC,I.pin,I.hok,I.len⟩
def Inv.unwish(I:Inv (X.wish E) za σ H s):Inv X za σ H s:=⟨I.ok.unwish,I.os,I.bare,I.base,I.loc,I.cell,I.free,I.freeC,I.pin,I.hok,I.len⟩
def SP.unwish(h:SP (X.wish E) za D f s'):SP X za D f s':=by
 cases f with
 |next=>obtain⟨σ',H',I,q⟩:=h;exact⟨σ',H',I.unwish,q⟩
 |brk=>obtain⟨σ',H',I,q⟩:=h;exact⟨σ',H',I.unwish,q⟩
 |cont=>obtain⟨σ',H',I,q⟩:=h;exact⟨σ',H',I.unwish,q⟩
 |ret u=>obtain⟨v,σ',H',I,r,q⟩:=h;exact⟨v,σ',H',I.unwish,r,q⟩
def PSs.nox{st:List BJ}(h:PSs X.nox st t):PSs X st t:=λza s σ H D I hw=>AU (h za s σ H D (I.wish _) hw) (λ_ _ q=>q.unwish) λ_ _ z=>False.elim z
variable {st:BJ}{rest:List BJ}{t u:TS}{e:Expr}{te:TE}
def aRh:TS:=λD σ H=>D.nx σ H
def tSeq(t u:TS):TS:=λD σ H=>t {D with nx:=u D} σ H
def pss_nil:PSs X [] aRh:=λ_ _ σ H _ I h=>wpAny_execs_nil ⟨σ,H,I,h⟩
def yO(h1:PS X st t)(h2:PSs X rest u):PSs X (st::rest) (tSeq t u):=by
 intro za s σ H D I h;refine wpAny_execs_cons<|thn (h1 za s σ H {D with nx:=u D} I h) λf s1 q=>?_;cases f with
 |next=>obtain⟨σ',H',I',q⟩:=q;exact h2 za s1 σ' H' D I' q
 |ret v=>exact q
 |brk=>exact q
 |cont=>exact q
def aFK(h1:PS X st t):PSs X [st] t:=by
 intro za s σ H D I h;refine wpAny_execs_cons<|thn (h1 za s σ H D I h) λf s1 q=>?_;cases f with
 |next=>exact wpAny_execs_nil q
 |ret v=>exact q
 |brk=>exact q
 |cont=>exact q
def Inv.quiet(I:Inv X za σ H s):interactive X.env=false:=by simp[interactive,I.ok.kind]
def aRd(te:TE):TS:=λD σ H=>te σ H λ_ H1=>D.nx σ H1
theorem wM(he:PE X e te)(hs:Ab e none pos.line X.env=pure false:=by rfl):PS X (.Expr e pos) (aRd te):=by intro za s σ H D I h;exact wpAny_Expr_any (thn (he za s σ H _ I h) λv s1 ⟨x,H1,I1,r1,q1⟩=>⟨σ,H1,I1,q1⟩) I.quiet hs
def tRet(te:TE):TS:=λD σ H=>te σ H D.rt
theorem rN(he:PE X e te):PS X (.Return (some e) pos) (tRet te):=by intro za s σ H D I h;exact wpAny_Return_some<|thn (he za s σ H _ I h) λv s1 ⟨x,H1,I1,r1,q1⟩=>⟨x,σ,H1,I1,r1,q1⟩
def tIfS(c:TT)(t u:TS):TS:=λD σ H=>c σ H λb H1=>if b=true then t D σ H1 else u D σ H1
theorem aRa{a b:List BJ}(hc:PT X c tc)(ha:PSs X a t)(hb:PSs X b u):PS X (.If c a b pos) (tIfS tc t u):=by
 intro za s σ H D I h;refine wpAny_If<|thn (hc za s σ H _ I h) λd s1 ⟨H1,I1,q1⟩=>?_;cases d with
 |true=>exact ha za s1 σ H1 D I1 q1
 |false=>exact hb za s1 σ H1 D I1 q1
abbrev TG:=V->St->Hp->(St->Hp->Prop)->Prop
abbrev TGs:=List V->St->Hp->(St->Hp->Prop)->Prop
def PG(X:Cx)(target:Expr)(t:TG):Prop:=
 ∀ (za:List (BF×BI)) (s:BE) (σ:St) (H:Hp) (v:V) (u:BD) (Q:St->Hp->Prop),Inv X za σ H s->RelV v u->t v σ H Q->
  AK (AG X.prog X.w) X.A (assign target X.env u) (λ_ s'=>∃σ' H',Inv X za σ' H' s'/\Q σ' H') X.xe s
def PGs(X:Cx)(ts:List Expr)(t:TGs):Prop:=
 ∀ (za:List (BF×BI)) (s:BE) (σ:St) (H:Hp) (vs:List V) (us:List BD) (Q:St->Hp->Prop),Inv X za σ H s->Vals vs us->t vs σ H Q->
  AK (AG X.prog X.w) X.A (assignInOrder ((Aj ts X.env).map (·.2)) us) (λ_ s'=>∃σ' H',Inv X za σ' H' s'/\Q σ' H') X.xe s
abbrev TSet:=V->V->V->Hp->(Hp->Prop)->Prop
abbrev TIp:=V->V->Hp->VK->Prop
def aEm(i:Nat):TG:=λv σ H Q=>Q (σ.set i (some v)) H
def tI{x:Str}(hN:X.N.Nodup)(hi:X.N[i]? =some x)(hx:Loc X.env.scope x)(hf:X.fn x=true\/X.env.scope.names.lookup x=some .local:=by first|exact .inl rfl|exact .inr rfl|assumption):PG X (.Name x pos) (aEm i):=by intro za s σ H v u Q I r h;exact wpAny_assign_Name<|sW I hN hi hx r (λs' I'=>⟨_,H,I',h⟩) hf
def aSi:TGs:=λvs σ H Q=>vs=[]/\Q σ H
def aOt(t:TG)(u:TGs):TGs:=λvs σ H Q=>∃v r,vs=v::r/\t v σ H λσ' H'=>u r σ' H' Q
def jA:PGs X [] aSi:=by intro za s σ H vs us Q I r h;obtain⟨e,h⟩:=h;subst e;cases r;exact assignInOrder_nil ⟨σ,H,I,h⟩
theorem dI{t:TG}{u:TGs}(h1:PG X e t)(h2:PGs X es u)(hs:(Aj (e::es) X.env).map (·.2)=assign e X.env::(Aj es X.env).map (·.2):=by rfl):PGs X (e::es) (aOt t u):=by
 intro za s σ H vs us Q I r h;obtain⟨v,vr,e1,h⟩:=h;subst e1;cases r with
 |cons r rr=>rw[hs];refine assignInOrder_cons<|thn (h1 za s σ H _ _ _ I r h) λ_ s1 ⟨σ1,H1,I1,q1⟩=>?_;exact h2 za s1 σ1 H1 _ _ Q I1 rr q1
def gTup(K:aB)(n:Nat)(t:TGs):TG:=λv σ H Q=>∃a xs,v=.ref a/\SqT K H a xs/\xs.length=n/\t xs σ H Q
def aOO{k:Nat}{t:TGs}(hc:X.calm=true)(h:PGs X es t)(hn:(Aj es X.env).length=n:=by rfl) (hst:(Aj es X.env).findIdx? (·.1)=none:=by rfl):PG X (.Tuple es k pos) (gTup X.K n t):=by
 intro za s σ H v u Q I r hw;obtain⟨a,xs,e1,hq,hl,hw⟩:=hw;subst e1;cases r;obtain⟨its,rv,ht,hz⟩:=I.tuple hq;refine assign_Tuple_tuple (I.ok.hd hc) ht (by simp[hn,<-hl,rv.length]) hst λh' hx=>?_
 have I1:Inv X za σ H {s with heap:=h'}:=I.kept λb o e=>hx b o (bR<|aU e) e
 exact h za _ σ H xs _ Q I1 (by simpa using rv) hw
def aSa(te:TE)(g:TG):TS:=λD σ H=>te σ H λx H1=>g x σ H1 D.nx
theorem aJO(he:PE X e te)(hg:PG X tg g)(hs:swapsWithSole [tg] e pos.line X.env=pure false:=by rfl)(hw:swappedStores [tg] e X.env=pure none:=by rfl)(h1:(Aj [tg] X.env).map (·.2)=[assign tg X.env]:=by rfl):PS X (.Assign [tg] e pos) (aSa te g):=by
 intro za s σ H D I h;refine wpAny_Assign_stores (thn (he za s σ H _ I h) λv s1 ⟨x,H1,I1,r1,q1⟩=>?_) hs hw;rw[h1];exact thn (hg za s1 σ H1 x v _ I1 r1 q1) λ_ s2 q=>q
theorem rP{x:Str}(hN:X.N.Nodup)(hi:X.N[i]? =some x)(hx:Loc X.env.scope x)(he:PE X e te)(hs:Ab e (some<|.Name x pos') pos.line X.env=pure false:=by rfl)(hf:X.fn x=true\/X.env.scope.names.lookup x=some .local:=by first|exact .inl rfl|exact .inr rfl|assumption):PS X (.Assign [.Name x pos'] e pos) (aSa te<|aEm i):=by
 intro za s σ H D I h;refine wpAny_Assign_Name (thn (he za s σ H _ I h) λv s1 ⟨y,H1,I1,r1,q1⟩=>?_) hs;exact sW I1 hN hi hx r1 (λs2 I2=>⟨_,H1,I2,q1⟩) hf
def aOI(c:TT)(tb:TS):TS:=λD σ H=>∃W:Nat->St->Hp->Prop,(∃m,W m σ H)/\∀m σ H,W m σ H->
 c σ H λb H1=>if b=true then ∃N:St->Hp->Prop,(∀σ' H',N σ' H'->∃m',m'<m/\W m' σ' H')/\tb {D with nx:=N,ct:=N,bk:=D.nx} σ H1 else D.nx σ H1
theorem aIG{tb:TS}(hp:PassesOwn (AG X.prog X.w) X.A X.env X.xe)(hc:PT X c tc)(hb:PSs X body tb):PS X (.While c body [] pos) (aOI tc tb):=by
 intro za s σ H D I h;obtain⟨W,⟨m0,w0⟩,turn⟩:=h;refine wpAny_While<|codeAny_whileLoop (λn s'=>∃σ' H',Inv X za σ' H' s'/\W n σ' H') ?_ m0 ⟨σ,H,I,w0⟩;rintro n s1 ⟨σ1,H1,I1,w1⟩;refine Ar hp<|thn (hc za s1 σ1 H1 _ I1<|turn n σ1 H1 w1) λb s2 ⟨H2,I2,q2⟩=>?_;cases b with
 |true=>
  obtain⟨N,hN,q2⟩:=q2;refine Ar hp<|thn (hb za s2 σ1 H2 _ I2 q2) λf s3 q3=>?_;cases f with
  |next=>obtain⟨σ3,H3,I3,n3⟩:=q3;obtain⟨m',hm,w3⟩:=hN σ3 H3 n3;exact⟨m',hm,σ3,H3,I3,w3⟩
  |cont=>obtain⟨σ3,H3,I3,n3⟩:=q3;obtain⟨m',hm,w3⟩:=hN σ3 H3 n3;exact⟨m',hm,σ3,H3,I3,w3⟩
  |brk=>exact q3
  |ret v=>exact q3
 |false=>exact wpAny_execs_nil ⟨σ1,H2,I2,q2⟩
structure It where
 go:Nat->Hp->Prop
 yld:Nat->Hp->V->Hp->Prop
 stop:Nat->Hp->Prop
def yB(X:Cx)(za:List (BF×BI))(H:Hp)(b:BF):Prop:=
 H b=none/\b≠X.env.locals/\b∉X.fs/\(b∈X.ex\/X.s₀.heap.objs.size<=b)/\(∀x c,X.env.cells.lookup x=some c->c≠b)/\∀p∈X.pn++za,p.1≠b
def Inv.fpOk{b:BF}(I:Inv X za σ H s)(hb:s.heap.objs.size<=b)(hn:H' b=none):yB X za H' b:=by
 refine⟨hn,kP<|aZ I.lt hb,I.nofs hb,.inr<|cJ I.sz hb,λx c e z=>?_,λp hp z=>?_⟩
 ·obtain⟨v,q⟩:=I.cell x c e;exact absurd (aZ q.lt<|by rw[z];exact hb)<|eU _
 ·exact absurd (aZ (aU (I.pin p hp).1)<|by rw[z];exact hb)<|eU _
structure aKS(P:AD)(w:AL)(K:aB)(tg:Expr)(J:It)(fp:List BF)(it:BF)(tn:Nat->BH->Prop):Prop where
 mem:it∈fp
 obj:∀i h,tn i h->∀b∈fp,∃o,h.get? b=some o/\∀v,o.data≠ .cell v
 keep:∀i h h',tn i h->(∀b∈fp,∀o,h.get? b=some o->h'.get? b=some o)->tn i h'
 item:∀ (X:Cx),X.prog=P->X.w=w->X.K=K->X.calm=true->∀ (i:Nat) (za:List (BF×BI)) (s:BE) (σ:St) (H:Hp) (E:BD->BE->Prop),Inv X za σ H s->(∀b∈fp,yB X za H b)->tn i s.heap->J.go i H->
  AK (AG P w) X.A (pyNext (.ref it)) (fun r s1=>∃u,r=some u∧
   AK (AG P w) X.A (letOwnedTupleGo tg (.ref it) u) (λ_ s2=>∃x H',Inv X za σ H' s2/\RelV x u/\J.yld i H x H'/\tn (i+1) s2.heap/\∀b∈fp,H' b=none) E s1) E s
 done:∀ (X:Cx),X.prog=P->X.w=w->X.K=K->X.calm=true->∀ (i:Nat) (za:List (BF×BI)) (s:BE) (σ:St) (H:Hp) (E:BD->BE->Prop),Inv X za σ H s->(∀b∈fp,yB X za H b)->tn i s.heap->J.stop i H->
  AK (AG P w) X.A (pyNext<|.ref it) (λr s1=>r=none/\Inv X za σ H s1) E s
 self:∀ (A:BG) (i:Nat) (s:BE) (Q:BD->BE->Prop) (E:BD->BE->Prop),tn i s.heap->Q (.ref it) s->AK (AG P w) A (pyIter<|.ref it) Q E s
abbrev TI:=St->Hp->(It->Hp->Prop)->Prop
def PIE(X:Cx)(za:List (BF×BI))(σ:St)(tg:Expr)(R:It->Hp->Prop)(itv:BD)(s2:BE):Prop:=
 ∃ (it:BF) (fp:List BF) (tn:Nat->BH->Prop) (J:It) (H':Hp),itv=.ref it/\Inv X za σ H' s2/\aKS X.prog X.w X.K tg J fp it tn/\tn 0 s2.heap/\(∀b∈fp,yB X za H' b)/\R J H'
def PI(X:Cx)(tg iter:Expr)(wi:TI):Prop:=
 ∀ (za:List (BF×BI)) (s:BE) (σ:St) (H:Hp) (R:It->Hp->Prop),Inv X za σ H s->wi σ H R->
  AK (AG X.prog X.w) X.A (eval iter X.env) (λv s1=>AK (AG X.prog X.w) X.A (pyIter v) (PIE X za σ tg R) X.xe s1) X.xe s
def aKV{u:BD}{o:BI}(ho:s.heap.get? it=some o)(hc:o.cls=.type n)(hd:o.data=.fields vs)(hn:["enumerate","zip","dict_itemiterator","dict_reverseitemiterator","odict_iterator","itertools.zip_longest","itertools.pairwise"].contains n=false) (hQ:Q () s):AK M A (letOwnedTupleGo tg (.ref it) u) Q E s:=by
 cases tg<;>first
  |exact AC hQ
  | (cases u<;>first
    |exact AC hQ
    | (refine AA (wpAny_load ho ?_)
       rw[hc,hd];show AK M A (if(["enumerate","zip","dict_itemiterator","dict_reverseitemiterator","odict_iterator","itertools.zip_longest","itertools.pairwise"].contains n&&vs[0]? ==some (rawInt _))=true then _ else _) Q E s;rw[zr<|by intro h;rw[hn] at h;cases h]
       exact AC hQ))
noncomputable def Itl(K:aB)(a:BF):It:=
 ⟨λi H=>∃xs x,SqL K H a xs/\xs[i]? =some x,λi H x H'=>H'=H/\∀xs,SqL K H a xs->xs[i]? =some x,λi H=>∃xs,SqL K H a xs/\xs.length<=i⟩
noncomputable def Itt(K:aB)(a:BF):It:=
 ⟨λi H=>∃xs x,SqT K H a xs/\xs[i]? =some x,λi H x H'=>H'=H/\∀xs,SqT K H a xs->xs[i]? =some x,λi H=>∃xs,SqT K H a xs/\xs.length<=i⟩
noncomputable def Itr(lo:Int)(n:Nat):It:=⟨λi _=>i<n,λi H x H'=>H'=H/\x=.int (lo+i),λi _=>n<=i⟩
theorem aHi{K:aB}(a it:BF):aKS P w K tg (Itl K a) [it] it (λi h=>h.IsListIter it a i) where
 mem:=by simp
 obj:=λi h st b hb=>by
  have e:=by simpa using hb
  subst e;obtain⟨o,e,c,d⟩:=st;exact⟨o,e,λv z=>by rw[d] at z;cases z⟩
 keep:=λi h h' st k=>st.at λo e=>k it (by simp) o e
 item:=by
  intro X hP hw hK hc i za s σ H E I hf st hg;subst hP hw hK;obtain⟨xs,x,hq,hx⟩:=hg;obtain⟨its,rv,p,hz⟩:=I.list hq;obtain⟨u,hu,ru⟩:=rv.get hx;obtain⟨f0,f1,f2,f3,f4,f5⟩:=hf it (by simp);refine wpAny_pyNext_list_item st p.isList (by simpa using hu) λh' st' sb=>?_
  have I1:Inv X za σ H {s with heap:=h'}:=I.turned (λb o hb e=>(sb.2 b hb).trans e) f0 f1 f3 f4 f5;obtain⟨o,e,c,d⟩:=id st';exact⟨u,rfl,aKV e c d (by decide) ⟨x,H,I1,ru,⟨rfl,λys hy=>by rw[I.list_inj hy hq];exact hx⟩,st',λb hb=>(hf b hb).1⟩⟩
 done:=by intro X hP hw hK hc i za s σ H E I hf st hg;subst hP hw hK;obtain⟨xs,hq,hx⟩:=hg;obtain⟨its,rv,p,hz⟩:=I.list hq;obtain⟨f0,f1,f2,f3,f4,f5⟩:=hf it (by simp);have hl:=rv.length;exact wpAny_pyNext_list_end (I.ok.hd hc) st p.isList (by simp;lia) λh' eb=>⟨rfl,I.turned (λb o hb e=>eb b o hb e) f0 f1 f3 f4 f5⟩
 self:=λ_ _ _ _ _ st h=>wpAny_pyIter_listiter st h
theorem aDq{K:aB}(a it:BF):aKS P w K tg (Itt K a) [it] it (λi h=>h.IsTupleIter it a i) where
 mem:=by simp
 obj:=λi h st b hb=>by
  have e:=by simpa using hb
  subst e;obtain⟨o,e,c,d⟩:=st;exact⟨o,e,λv z=>by rw[d] at z;cases z⟩
 keep:=λi h h' st k=>st.at λo e=>k it (by simp) o e
 item:=by
  intro X hP hw hK hc i za s σ H E I hf st hg;subst hP hw hK;obtain⟨xs,x,hq,hx⟩:=hg;obtain⟨its,rv,p,hz⟩:=I.tuple hq;obtain⟨u,hu,ru⟩:=rv.get hx;obtain⟨f0,f1,f2,f3,f4,f5⟩:=hf it (by simp);refine wpAny_pyNext_tuple_item st (p) (by simpa using hu) λh' st' sb=>?_
  have I1:Inv X za σ H {s with heap:=h'}:=I.turned (λb o hb e=>(sb.2 b hb).trans e) f0 f1 f3 f4 f5;obtain⟨o,e,c,d⟩:=id st';exact⟨u,rfl,aKV e c d (by decide) ⟨x,H,I1,ru,⟨rfl,λys hy=>by rw[I.tuple_inj hy hq];exact hx⟩,st',λb hb=>(hf b hb).1⟩⟩
 done:=by intro X hP hw hK hc i za s σ H E I hf st hg;subst hP hw hK;obtain⟨xs,hq,hx⟩:=hg;obtain⟨its,rv,p,hz⟩:=I.tuple hq;obtain⟨f0,f1,f2,f3,f4,f5⟩:=hf it (by simp);have hl:=rv.length;exact wpAny_pyNext_tuple_end (I.ok.hd hc) st (p) (by simp;lia) λh' eb=>⟨rfl,I.turned (λb o hb e=>eb b o hb e) f0 f1 f3 f4 f5⟩
 self:=λ_ _ _ _ _ st h=>wpAny_pyIter_tupleiter st h
theorem aDE{K:aB}(it:BF)(lo:Int)(n:Nat):aKS P w K tg (Itr lo n) [it] it (λi h=>IsRangeIter h it (lo+(i:Nat)*1) ((n:Int)-(i:Nat)) 1) where
 mem:=by simp
 obj:=λi h st b hb=>by
  have e:=by simpa using hb
  subst e
  exact ⟨_,st,fun v z=>by
   have z':=z
   cases z'⟩
 keep:=λi h h' st k=>k it (by simp) _ st
 item:=by
  intro X hP hw hK hc i za s σ H E I hf st hg;subst hP hw hK;obtain⟨f0,f1,f2,f3,f4,f5⟩:=hf it (by simp);have W:=Walks.range (prog:=X.prog) (w:=X.w) (I.ok.hd hc) it lo 1 n;refine W.item i s _ _ hg st λv h' tk hv st' kk=>?_
  obtain⟨t,rfl⟩:=hv;have I1:Inv X za σ H {s with heap:=h',toks:=tk}:=I.turned (λb o hb e=>kk b o (by simpa using hb) e) f0 f1 f3 f4 f5;refine⟨_,rfl,aKV st' rfl rfl (by decide) ⟨.int<|lo+i,H,I1,⟨t,?_⟩,⟨rfl,rfl⟩,st',λb hb=>(hf b hb).1⟩⟩;rw[Int.mul_one]
 done:=by intro X hP hw hK hc i za s σ H E I hf st hg;subst hP hw hK;obtain⟨f0,f1,f2,f3,f4,f5⟩:=hf it (by simp);exact wpAny_pyNext_range_end (I.ok.hd hc) st (by have:n<=i:=hg;lia) λh' eb=>⟨rfl,I.turned (λb o hb e=>eb b o hb e) f0 f1 f3 f4 f5⟩
 self:=λ_ _ _ _ _ st h=>wpAny_pyIter_rangeiter st h
variable {tg:Expr}
def aRt(K:aB)(tl:TE):TI:=λσ H R=>tl σ H λx H1=>∃a,x=.ref a/\(∃xs,SqL K H1 a xs)/\R (Itl K a) H1
def iTup(K:aB)(tl:TE):TI:=λσ H R=>tl σ H λx H1=>∃a,x=.ref a/\(∃xs,SqT K H1 a xs)/\R (Itt K a) H1
theorem aNk(hl:PE X l tl):PI X tg l (aRt X.K tl):=by
 intro za s σ H R I h;refine thn (hl za s σ H _ I h) λv s1 ⟨x,H1,I1,r1,q1⟩=>?_
 obtain⟨a,e,⟨xs,hq⟩,q⟩:=q1;subst e;cases r1;obtain⟨its,rv,p,hz⟩:=I1.list hq;refine BA p.isList ?_;refine⟨s1.heap.objs.size,[s1.heap.objs.size],_,_,H1,rfl,I1.kept λb o e=>aD _ e,aHi a _,⟨_,bO _ rfl,rfl,rfl⟩,λb hb=>?_,q⟩;have e:=by simpa using hb
 subst e;exact I1.fpOk (aQ _) (I1.hok.fresh<|aQ _)
theorem aPN(hl:PE X l tl):PI X tg l (iTup X.K tl):=by
 intro za s σ H R I h;refine thn (hl za s σ H _ I h) λv s1 ⟨x,H1,I1,r1,q1⟩=>?_
 obtain⟨a,e,⟨xs,hq⟩,q⟩:=q1;subst e;cases r1;obtain⟨its,rv,p,hz⟩:=I1.tuple hq;refine wpAny_pyIter_tuple (p) ?_;refine⟨s1.heap.objs.size,[s1.heap.objs.size],_,_,H1,rfl,I1.kept λb o e=>aD _ e,aDq a _,⟨_,bO _ rfl,rfl,rfl⟩,λb hb=>?_,q⟩;have e:=by simpa using hb
 subst e;exact I1.fpOk (aQ _) (I1.hok.fresh<|aQ _)
theorem aDd{lo hi:Int}{t u v:Tok}(I:Inv X za σ H s)(h1: -(2^62)<=lo)(h2:lo<2^62)(h3: -(2^62)<=hi)(h4:hi<2^62)(q:R (Itr lo (hi-lo).toNat) H):AK (AG X.prog X.w) X.A (pyIter<|.ref s.heap.objs.size) (PIE X za σ tg R) E {s with heap:=s.heap.push {cls:=.type "range",data:=.fields #[.int lo t,.int hi u,.int 1 v]},toks:=tk}:=by
 refine wpAny_pyIter_range (IsRange.new ..) (small_one h1 h2 h3 h4) ?_;have I1:Inv X za σ H {s with heap:=s.heap.push {cls:=.type "range",data:=.fields #[.int lo t,.int hi u,.int 1 v]},toks:=tk}:=I.kept λb o e=>aD _ e
 refine ⟨(s.heap.push {cls:= .type "range",data:= .fields #[.int lo t, .int hi u, .int 1 v]}).objs.size,[(s.heap.push {cls:= .type "range",data:= .fields #[.int lo t, .int hi u, .int 1 v]}).objs.size],_,_,H,rfl,
  I1.kept λb o e=>aD _ e,aDE _ lo (hi-lo).toNat,?_,λb hb=>?_,q⟩
 ·have e1:lo+((0:Nat))*1=lo:=by simp
  have e2:(((hi-lo).toNat))-((0:Nat))=Builtin.Range.rangeSize lo hi 1:=by rw[rangeSize_one];split<;>lia
  rw[e1,e2];exact bO _ rfl
 ·have e:b=(s.heap.push {cls:=.type "range",data:=.fields #[.int lo t,.int hi u,.int 1 v]}).objs.size:=by simpa using hb
  subst e;exact I1.fpOk (aQ _) (I1.hok.fresh<|aQ _)
def aRG(ta:TA):TI:=λσ H R=>ta σ H λvs H1=>∃j:Int,vs=[.int j]/\ -(2^62)<=j/\j<2^62/\R (Itr 0 j.toNat) H1
def aRq(ta:TA):TI:=λσ H R=>ta σ H λvs H1=>∃i j:Int,vs=[.int i,.int j]/\(-(2^62)<=i/\i<2^62/\ -(2^62)<=j/\j<2^62)/\R (Itr i (j-i).toNat) H1
theorem aAe{a:Expr}{ta:TA}(hg:Gl X "range")(hm:X.mg "range"=none)(ha:PA X [a] ta)(hs:AB [a] X.env=[(false,eval a X.env)]:=by rfl):PI X tg (.Call (.Name "range" p) [a] [] pos) (aRG ta):=by
 intro za s σ H R I h;refine Call_ (mH I hg hm boot_range<|PyProof.Rows.callWith_type1 (thn (ha pos za s σ H _ I h) λus s1 ⟨vs,H1,I1,r1,q1⟩=>?_) hs rfl);obtain⟨j,e,q1,q2,q⟩:=q1;subst e;cases r1 with
 |cons r rr=>cases rr;obtain⟨t,rfl⟩:=r;exact call_range_1 (aDd I1 (by lia) (by lia) q1 q2<|by simpa using q)
theorem aGV{a:Expr}{ta:TA}{p:Pos}(hg:Gl X "range")(hm:X.mg "range"=none)(ha:PA X [a,b] ta)(hs:AB [a,b] X.env=[(false,eval a X.env),(false,eval b X.env)]:=by rfl)(hs2:AB [b] X.env=[(false,eval b X.env)]:=by rfl):PI X tg (.Call (.Name "range" p) [a,b] [] pos) (aRq ta):=by
 intro za s σ H R I h;refine Call_<|mH I hg hm boot_range (PyProof.Rows.callWith_type1 (thn (ha pos za s σ H _ I h) λus s1 ⟨vs,H1,I1,r1,q1⟩=>?_) (by rw[hs,hs2])<|by rw[hs2];rfl);obtain⟨i,j,e,⟨q1,q2,q3,q4⟩,q⟩:=q1;subst e;cases r1 with
 |cons r rr=>
  cases rr with
  |cons r' rr=>cases rr;obtain⟨t,rfl⟩:=r;obtain⟨t',rfl⟩:=r';exact call_range_2<|aDd I1 q1 q2 q3 q4 q
def tFor(wi:TI)(g:TG)(tb:TS):TS:=λD σ H=>wi σ H λJ H1=>∃W:Nat->Nat->St->Hp->Prop,(∃m,W 0 m σ H1)/\∀i m σ H,W i m σ H->
 (J.stop i H/\D.nx σ H)\/(J.go i H/\∃N:St->Hp->Prop,(∀σ' H',N σ' H'->∃m',m'<m/\W (i+1) m' σ' H')/\∀x H',J.yld i H x H'->g x σ H' λσ2 H2=>tb {D with nx:=N,ct:=N,bk:=D.nx} σ2 H2)
noncomputable def pQ(fp:List BF)(h:BH):List (BF×BI):=fp.filterMap λb=>(h.get? b).map λo=>(b,o)
def jQ{b:BF}{o:BI}(hb:b∈fp)(e:h.get? b=some o):(b,o)∈pQ fp h:=aJr.mpr ⟨b,hb,by rw[e];rfl⟩
def uO(hp:p∈pQ fp h):p.1∈fp/\h.get? p.1=some p.2:=by
 obtain⟨b,hb,e⟩:=aJr.mp hp;cases q:h.get? b with
 |none=>rw[q] at e;cases e
 |some o=>rw[q] at e;have e':=bZ.inj e;subst e';exact⟨hb,q⟩
def Inv.pinned(I:Inv X za σ H s)(hf:∀b∈fp,yB X za H b)(ho:∀b∈fp,∃o,s.heap.get? b=some o/\∀v,o.data≠ .cell v):Inv X (za++pQ fp s.heap) σ H s:=
 I.pins_of λp hp=>(aV.mp hp).elim (λz=>I.pin p<|aJ _ z) λz=>by obtain⟨hb,e⟩:=uO z;obtain⟨f0,f1,f2,_⟩:=hf p.1 hb;obtain⟨o,e',d⟩:=ho p.1 hb;rw[e] at e';cases e';exact⟨e,f0,f1,f2,d⟩
def Inv.unpinned(I:Inv X (za++pl) σ H s):Inv X za σ H s:=I.pins_of λp hp=>I.pin p (aJ _<|bN _ hp)
theorem aJS{tb:TS}(hp:PassesOwn (AG X.prog X.w) X.A X.env X.xe)(hc:X.calm=true)(hi:PI X tg iter wi)(hg:PG X tg g)(hb:PSs X body tb)(hs:∀x,As iter X.env x=pure x:=by intro _;rfl):PS X (.For tg iter body [] pos) (tFor wi g tb):=by
 intro za s σ H D I h;refine wpAny_For (thn (hi za s σ H _ I h) λv s1 h1=>thn h1 λitv s2 h2=>?_) hs;obtain⟨it,fp,tn,J,H2,e,I2,T,st2,f2,W,⟨m0,w0⟩,turn⟩:=h2;subst e
 have stat:∀ {H':Hp},(∀b∈fp,H' b=none)->∀b∈fp,yB X za H' b:=λhn b hb=>⟨hn b hb,(f2 b hb).2⟩
 refine codeAny_forLoop_any (λn s'=>∃i σ' H',Inv X za σ' H' s'/\tn i s'.heap/\(∀b∈fp,H' b=none)/\W i n σ' H') ?_ m0 ⟨0,σ,H2,I2,st2,λb hb=>(f2 b hb).1,w0⟩;rintro n s3 ⟨i,σ3,H3,I3,st3,fr3,w3⟩
 rcases turn i n σ3 H3 w3 with⟨stop,qn⟩|⟨go,N,hN,step⟩
 ·refine Ar hp<|thn (T.done X rfl rfl rfl hc i za s3 σ3 H3 X.xe I3 (stat fr3) st3 stop) λr s4 ⟨hr,I4⟩=>?_;subst hr;exact wpAny_execs_nil ⟨σ3,H3,I4,qn⟩
 ·refine Ar hp<|thn (T.item X rfl rfl rfl hc i za s3 σ3 H3 X.xe I3 (stat fr3) st3 go) λr s4 ⟨u,hr,h4⟩=>?_;subst hr;refine Ar hp<|thn h4 λ_ s5 ⟨x,H5,I5,r5,y5,st5,fr5⟩=>?_;have I5':=I5.pinned (stat fr5)<|T.obj _ _ st5;refine Ar hp<|thn (hg _ s5 σ3 H5 x u _ I5' r5<|step x H5 y5) λ_ s6 ⟨σ6,H6,I6,q6⟩=>?_;refine Ar hp (thn (hb _ s6 σ6 H6 _ I6 q6) λf s7 q7=>?_)
  have again:∀ {σ7:St}{H7:Hp},Inv X (za++pQ fp s5.heap) σ7 H7 s7->N σ7 H7->∃m,m<n/\∃i σ' H',Inv X za σ' H' s7/\tn i s7.heap/\(∀b∈fp,H' b=none)/\W i m σ' H':=λ{σ7 H7} I7 n7=>by obtain⟨m',hm,w7⟩:=hN σ7 H7 n7;refine⟨m',hm,i+1,σ7,H7,I7.unpinned,T.keep _ _ _ st5 λb hb o e=>(I7.pin (b,o)<|aJ _ (aJ _<|jQ hb e)).1,λb hb=>?_,w7⟩;obtain⟨o,e,d⟩:=T.obj _ _ st5 b hb;exact(I7.pin (b,o)<|aJ _ (aJ _<|jQ hb e)).2.1
  cases f with
  |next=>obtain⟨σ7,H7,I7,n7⟩:=q7;exact again I7 n7
  |cont=>obtain⟨σ7,H7,I7,n7⟩:=q7;exact again I7 n7
  |brk=>obtain⟨σ7,H7,I7,q7⟩:=q7;exact⟨σ7,H7,I7.unpinned,q7⟩
  |ret v=>obtain⟨x7,σ7,H7,I7,r7,q7⟩:=q7;exact⟨x7,σ7,H7,I7.unpinned,r7,q7⟩
abbrev R2:=V->V->Hp->VK->Prop
def OpR(X:Cx)(f:BD->BD->Sem BD)(r:R2):Prop:=
 ∀ (za:List (BF×BI)) (s:BE) (σ:St) (H:Hp) (x y:V) (v u:BD) (Q:VK),Inv X za σ H s->RelV x v->RelV y u->r x y H Q->
  AK (AG X.prog X.w) X.A (f v u) (EP X za σ Q) X.xe s
def UnR(X:Cx)(f:BD->Sem BD)(r:V->Hp->VK->Prop):Prop:=
 ∀ (za:List (BF×BI)) (s:BE) (σ:St) (H:Hp) (x:V) (v:BD) (Q:VK),Inv X za σ H s->RelV x v->r x H Q->
  AK (AG X.prog X.w) X.A (f v) (EP X za σ Q) X.xe s
def lA(X:Cx)(f:BD)(r:List V->Hp->VK->Prop):Prop:=
 ∀ (za:List (BF×BI)) (s:BE) (σ:St) (H:Hp) (xs:List V) (us:List BD) (Q:VK),Inv X za σ H s->Vals xs us->r xs H Q->
  AK (AG X.prog X.w) X.A (call f us) (EP X za σ Q) X.xe s
def tOp(r:R2)(ta tb:TE):TE:=λσ H Q=>ta σ H λx H1=>tb σ H1 λy H2=>r x y H2 Q
def tUn(r:V->Hp->VK->Prop)(ta:TE):TE:=λσ H Q=>ta σ H λx H1=>r x H1 Q
noncomputable def rI(C:Int->Int->Prop)(g:Int->Int->V):R2:=λx y H Q=>∃i j,x=.int i/\y=.int j/\C i j/\Q (g i j) H
noncomputable def rI0(g:Int->Int->V):R2:=λx y H Q=>∃i j,x=.int i/\y=.int j/\Q (g i j) H
def rU(g:Int->V):V->Hp->VK->Prop:=λx H Q=>∃i,x=.int i/\Q (g i) H
variable {a c:Expr}{tc:TE}
def aQL(ha:PE X a ta)(hb:PE X b tb){R:V->V->Hp->Prop}(I:Inv X za σ H s)(h:ta σ H λx H1=>tb σ H1 λy H2=>R x y H2) {f:BD->BD->Sem BD}(hf:∀v u s2 x y H2,Inv X za σ H2 s2->RelV x v->RelV y u->R x y H2->AK (AG X.prog X.w) X.A (f v u) Q X.xe s2):AK (AG X.prog X.w) X.A (eval a X.env) (λv s₁=>AK (AG X.prog X.w) X.A (eval b X.env) (λu s₂=>AK (AG X.prog X.w) X.A (f v u) Q X.xe s₂) X.xe s₁) X.xe s:=by
 refine thn (ha za s σ H _ I h) λv s1 ⟨x,H1,I1,r1,q1⟩=>?_
 refine thn (hb za s1 σ H1 _ I1 q1) λu s2 ⟨y,H2,I2,r2,q2⟩=>?_
 exact hf v u s2 x y H2 I2 r1 r2 q2
theorem aRE(ho:OpR X (Al op) r)(ha:PE X a ta)(hb:PE X b tb):PE X (.BinOp a op b pos) (tOp r ta tb):=by intro za s σ H Q I h;exact wpAny_BinOp<|aQL ha hb I h λv u s2 x y H2 I2 rx ry q=>ho za s2 σ H2 x y v u Q I2 rx ry q
theorem aRx(ho:UnR X (unaryOp op) r)(ha:PE X a ta):PE X (.UnaryOp op a pos) (tUn r ta):=by intro za s σ H Q I h;exact UnaryOp_<|thn (ha za s σ H _ I h) λv s1 ⟨x,H1,I1,r1,q1⟩=>ho za s1 σ H1 x v Q I1 r1 q1
def opI{g:Int->Int->Int}(rule:∀ (i j:Int) (t u:Tok) (s:BE) (Q:BD->BE->Prop) (E:BD->BE->Prop),C i j->Q (.int (g i j) s.toks) {s with toks:=s.toks+1}->AK (AG X.prog X.w) X.A (f (.int i t)<|.int j u) Q E s):OpR X f (rI C λi j=>.int<|g i j):=by
 intro za s σ H x y v u Q I rx ry h;obtain⟨i,j,rfl,rfl,hc,q⟩:=h;obtain⟨t,rfl⟩:=rx;obtain⟨t',rfl⟩:=ry;exact rule i j t t' s _ _ hc ⟨.int<|g i j,H,I.tok _,⟨_,rfl⟩,q⟩
def aNU{g:Int->Int->Int}(rule:∀ (i j:Int) (t u:Tok) (s:BE) (Q:BD->BE->Prop) (E:BD->BE->Prop),Q (.int (g i j) s.toks) {s with toks:=s.toks+1}->AK (AG X.prog X.w) X.A (f (.int i t)<|.int j u) Q E s):OpR X f (rI0 λi j=>.int<|g i j):=by
 intro za s σ H x y v u Q I rx ry h;obtain⟨i,j,rfl,rfl,q⟩:=h;obtain⟨t,rfl⟩:=rx;obtain⟨t',rfl⟩:=ry;exact rule i j t t' s _ _ ⟨.int<|g i j,H,I.tok _,⟨_,rfl⟩,q⟩
def aQq{g:Int->Int->Bool}(rule:∀ (i j:Int) (t u:Tok) (s:BE) (Q:BD->BE->Prop) (E:BD->BE->Prop),Q (.bool<|g i j) s->AK (AG X.prog X.w) X.A (f (.int i t)<|.int j u) Q E s):OpR X f (rI0 λi j=>.bl<|g i j):=by
 intro za s σ H x y v u Q I rx ry h;obtain⟨i,j,rfl,rfl,q⟩:=h;obtain⟨t,rfl⟩:=rx;obtain⟨t',rfl⟩:=ry;exact rule i j t t' s _ _ ⟨.bl<|g i j,H,I,rfl,q⟩
def CDiv(i j:Int):Prop:=0<j/\j<1073741824
def CPow(i j:Int):Prop:=0<=j/\j<=1000000/\i.natAbs<2^64
def fW:OpR X (Al .Add) (rI0 λi j=>.int<|i+j):=aNU λ_ _ _ _ _ _ _ q=>add_int q
def qB:OpR X (Al .Sub) (rI0 λi j=>.int<|i-j):=aNU λ_ _ _ _ _ _ _ q=>sub_int q
theorem aNl:OpR X (Al .FloorDiv) (rI CDiv λi j=>.int<|i / j):=opI λi j _ _ _ _ _ hc q=>by have h1:=hc.1;have h2:=hc.2;exact floordiv_int (by lia) (by rw[aAW i<|by lia];exact q)<|.inl (PyProof.noPylong_small<|by lia)
theorem gE:OpR X (Al .Mod) (rI (λ_ j=>0<j) λi j=>.int<|i%j):=opI λi j _ _ _ _ _ hc q=>mod_int' (by lia) (by rw[Int.fmod_eq_emod_of_nonneg i<|by lia];exact q)
def aKc:OpR X (Al .Pow) (rI CPow λi j=>.int<|i^j.toNat):=opI λ_ _ _ _ _ _ _ hc q=>pow_int_small hc.1 hc.2.1 hc.2.2 q
def aOT:OpR X (Al .BitAnd) (rI0 λi j=>.int<|Builtin.bitAnd i j):=aNU λ_ _ _ _ _ _ _ q=>and_int q
def aRF:OpR X (Al .BitOr) (rI0 λi j=>.int<|Builtin.bitOr i j):=aNU λ_ _ _ _ _ _ _ q=>or_int q
def aON:OpR X (Al .BitXor) (rI0 λi j=>.int<|Builtin.bitXor i j):=aNU λ_ _ _ _ _ _ _ q=>xor_int q
def unI{g:Int->Int}(rule:∀ (i:Int) (t:Tok) (s:BE) (Q:BD->BE->Prop) (E:BD->BE->Prop),Q (.int (g i) s.toks) {s with toks:=s.toks+1}->AK (AG X.prog X.w) X.A (f<|.int i t) Q E s):UnR X f (rU λi=>.int<|g i):=by
 intro za s σ H x v Q I rx h;obtain⟨i,rfl,q⟩:=h;obtain⟨t,rfl⟩:=rx;exact rule i t s _ _ ⟨.int<|g i,H,I.tok _,⟨_,rfl⟩,q⟩
def aPy:UnR X (unaryOp .USub) (rU λi=>.int (-i)):=unI λ_ _ _ _ _ q=>neg_int q
noncomputable def aNz:V->V->Bool
 |.non,.non=>true | .non,.int _=>true | .int _,.non=>true | .non,.bl _=>true | .bl _,.non=>true | .non,.str _=>true | .str _,.non=>true
 |.int _,.int _=>true | .bl _,.bl _=>true | .str _,.str _=>true | .byt _,.byt _=>true
 |.int _,.str _=>true | .str _,.int _=>true | .bl _,.str _=>true | .str _,.bl _=>true
 |_,_=>false
def rEq:R2:=λx y H Q=>aNz x y=true/\Q (.bl (decide<|x=y)) H
def rNe:R2:=λx y H Q=>aNz x y=true/\Q (.bl<|!decide (x=y)) H
def aBC:decide (V.int i=V.int j)=(i==j):=by rw[gA];simp
def aEW:decide (V.bl i=V.bl j)=(i==j):=by rw[gA];simp
def aFv:decide (V.str i=V.str j)=(i==j):=by rw[gA];simp
def aFQ:decide (V.byt i=V.byt j)=(i.toList==j.toList):=by rw[gA];cases i;cases j;simp
def eZ(I:Inv X za σ H s)(q:Q (.bl k) H)(e:k=k'):EP X za σ Q (.bool k') s:=by subst e;exact⟨.bl k,H,I,rfl,q⟩
def aOG:OpR X (AT .Eq) rEq:=by
 intro za s σ H x y v u Q I rx ry h;obtain⟨hs,q⟩:=h;cases x with
 |non=>
  cases rx;cases y with
  |non=>cases ry;exact PySem.EqNone.eq_none_none (eZ I q<|by simp)
  |bl j=>cases ry;exact PySem.EqNone.eq_none_bool (eZ I q<|by simp)
  |int j=>obtain⟨t',rfl⟩:=ry;exact PySem.EqNone.eq_none_int (eZ I q<|by simp)
  |str j=>obtain⟨t',rfl⟩:=ry;exact PySem.EqNone.eq_none_str (eZ I q<|by simp)
  |_=>exact absurd (hs) bM
 |bl i=>
  cases rx;cases y with
  |non=>cases ry;exact PySem.EqNone.eq_bool_none (eZ I q<|by simp)
  |bl j=>cases ry;exact eq_bool<|eZ I q aEW
  |str j=>obtain⟨t',rfl⟩:=ry;exact PySem.EqMixed.eq_bool_str (eZ I q<|by simp)
  |_=>exact absurd (hs) bM
 |int i=>
  obtain⟨t,rfl⟩:=rx;cases y with
  |non=>cases ry;exact PySem.EqNone.eq_int_none (eZ I q<|by simp)
  |int j=>obtain⟨t',rfl⟩:=ry;exact eq_int<|eZ I q aBC
  |str j=>obtain⟨t',rfl⟩:=ry;exact PySem.EqMixed.eq_int_str (eZ I q<|by simp)
  |_=>exact absurd (hs) bM
 |str i=>
  obtain⟨t,rfl⟩:=rx;cases y with
  |non=>cases ry;exact PySem.EqNone.eq_str_none (eZ I q<|by simp)
  |bl j=>cases ry;exact PySem.EqMixed.eq_str_bool (eZ I q<|by simp)
  |int j=>obtain⟨t',rfl⟩:=ry;exact PySem.EqMixed.eq_str_int (eZ I q<|by simp)
  |str j=>obtain⟨t',rfl⟩:=ry;exact eq_str<|eZ I q aFv
  |_=>exact absurd (hs) bM
 |byt i=>
  obtain⟨t,rfl⟩:=rx;cases y with
  |byt j=>obtain⟨t',rfl⟩:=ry;exact PySem.W.eq_bytes<|eZ I q aFQ
  |_=>exact absurd (hs) bM
 |_=>cases y<;>exact absurd (hs) bM
def aOC:OpR X (AT .NotEq) rNe:=by
 intro za s σ H x y v u Q I rx ry h;obtain⟨hs,q⟩:=h;cases x with
 |non=>
  cases rx;cases y with
  |non=>cases ry;exact PySem.EqNone.ne_none_none (eZ I q<|by simp)
  |bl j=>cases ry;exact PySem.EqNone.ne_none_bool (eZ I q<|by simp)
  |int j=>obtain⟨t',rfl⟩:=ry;exact PySem.EqNone.ne_none_int (eZ I q<|by simp)
  |str j=>obtain⟨t',rfl⟩:=ry;exact PySem.EqNone.ne_none_str (eZ I q<|by simp)
  |_=>exact absurd (hs) bM
 |bl i=>
  cases rx;cases y with
  |non=>cases ry;exact PySem.EqNone.ne_bool_none (eZ I q<|by simp)
  |bl j=>cases ry;exact ne_bool (eZ I q<|congrArg not aEW)
  |str j=>obtain⟨t',rfl⟩:=ry;exact PySem.EqMixed.ne_bool_str (eZ I q<|by simp)
  |_=>exact absurd (hs) bM
 |int i=>
  obtain⟨t,rfl⟩:=rx;cases y with
  |non=>cases ry;exact PySem.EqNone.ne_int_none (eZ I q<|by simp)
  |int j=>obtain⟨t',rfl⟩:=ry;exact ne_int (eZ I q<|congrArg not aBC)
  |str j=>obtain⟨t',rfl⟩:=ry;exact PySem.EqMixed.ne_int_str (eZ I q<|by simp)
  |_=>exact absurd (hs) bM
 |str i=>
  obtain⟨t,rfl⟩:=rx;cases y with
  |non=>cases ry;exact PySem.EqNone.ne_str_none (eZ I q<|by simp)
  |bl j=>cases ry;exact PySem.EqMixed.ne_str_bool (eZ I q<|by simp)
  |int j=>obtain⟨t',rfl⟩:=ry;exact PySem.EqMixed.ne_str_int (eZ I q<|by simp)
  |str j=>obtain⟨t',rfl⟩:=ry;exact ne_str (eZ I q<|congrArg not aFv)
  |_=>exact absurd (hs) bM
 |byt i=>
  obtain⟨t,rfl⟩:=rx;cases y with
  |byt j=>obtain⟨t',rfl⟩:=ry;exact PySem.W.ne_bytes (eZ I q<|congrArg not aFQ)
  |_=>exact absurd (hs) bM
 |_=>cases y<;>exact absurd (hs) bM
def aHG:OpR X (AT .Lt) (rI0 λi j=>.bl (decide<|i<j)):=aQq λ_ _ _ _ _ _ _ q=>lt_int q
def aLt:OpR X (AT .LtE) (rI0 λi j=>.bl (decide<|i<=j)):=aQq λ_ _ _ _ _ _ _ q=>le_int q
def aOg:OpR X (AT .Gt) (rI0 λi j=>.bl (decide<|j<i)):=aQq λ_ _ _ _ _ _ _ q=>gt_int q
def aHD:OpR X (AT .GtE) (rI0 λi j=>.bl (decide<|j<=i)):=aQq λ_ _ _ _ _ _ _ q=>ge_int q
def aER:OpR X (AT .Is) (λx y H Q=>y=.non/\Q (.bl (decide<|x=.non)) H):=by
 intro za s σ H x y v u Q I rx ry h;obtain⟨rfl,q⟩:=h;cases ry;refine is_none_gen<|eZ I q ?_
 cases x<;>first
  |(cases rx;rfl)
  |(obtain⟨t,rfl⟩:=rx;rfl)
def aLC:OpR X (AT .IsNot) (λx y H Q=>y=.non/\Q (.bl<|!decide (x=.non)) H):=by
 intro za s σ H x y v u Q I rx ry h;obtain⟨rfl,q⟩:=h;cases ry;refine isnot_none_gen<|eZ I q ?_
 cases x<;>first
  |(cases rx;rfl)
  |(obtain⟨t,rfl⟩:=rx;rfl)
def OpR.or(h:OpR X f r)(h':OpR X f r'):OpR X f (λx y H Q=>r x y H Q\/r' x y H Q):=by
 intro za s σ H x y v u Q I rx ry q
 rcases q with q|q
 ·exact h za s σ H x y v u Q I rx ry q
 ·exact h' za s σ H x y v u Q I rx ry q
def fN(b:Expr)(h:op≠ .In:=by decide)(h2:op≠ .NotIn:=by decide):AX op b=false:=by
 have e1:(op==CmpOp.In)=false:=by cases op<;>first|rfl|exact absurd rfl h
 have e2:(op==CmpOp.NotIn)=false:=by cases op<;>first|rfl|exact absurd rfl h2
 cases b<;>simp[AX,e1,e2]
theorem aFL(ho:OpR X (AT op) r)(ha:PE X a ta)(hb:PE X b tb)(hm:AX op b=false):PE X (.Compare a [op] [b] pos) (tOp r ta tb):=by intro za s σ H Q I h;exact wpAny_Compare1 (aQL ha hb I h λv u s2 x y H2 I2 rx ry q=>ho za s2 σ H2 x y v u Q I2 rx ry q) hm
def aQY(t:TE):TT:=λσ H Q=>t σ H λx H'=>∃k,x=.bl k/\Q k H'
theorem aBq(ho:OpR X (AT op) r)(ha:PE X a ta)(hb:PE X b tb)(hm:AX op b=false):PT X (.Compare a [op] [b] pos) (aQY<|tOp r ta tb):=by
 intro za s σ H Q I h
 refine wpAny_isTrue_Compare1 (thn (ha za s σ H _ I h) λv s1 ⟨x,H1,I1,r1,q1⟩=>thn (hb za s1 σ H1 _ I1 q1) λu s2 ⟨y,H2,I2,r2,q2⟩=>thn (ho za s2 σ H2 x y v u _ I2 r1 r2 q2) λc s3 ⟨z,H3,I3,r3,k,e,q3⟩=>?_) hm
 subst e;cases r3;exact Ai ⟨H3,I3,q3⟩
def aPj(r r':R2)(ta tb tc:TE):TE:=λσ H Q=>ta σ H λx H1=>tb σ H1 λy H2=>r x y H2 λz H3=>∃k,z=.bl k/\
 (if k=true then tc σ H3 λw' H4=>r' y w' H4 Q else Q (.bl false) H3)
theorem aJj(ho:OpR X (AT op) r)(ho':OpR X (AT op') r')(ha:PE X a ta)(hb:PE X b tb)(hc:PE X c tc)(hm:lastMarks [op,op'] [b,c]=false:=by with_unfolding_all rfl):PE X (.Compare a [op,op'] [b,c] pos) (aPj r r' ta tb tc):=by
 intro za s σ H Q I h
 refine Compare_chain (thn (ha za s σ H _ I h) λv s1 ⟨x,H1,I1,r1,q1⟩=>chain_link<|thn (hb za s1 σ H1 _ I1 q1) λu s2 ⟨y,H2,I2,r2,q2⟩=>thn (ho za s2 σ H2 x y v u _ I2 r1 r2 q2) λd s3 ⟨z,H3,I3,r3,k,e,q3⟩=>?_) hm
 subst e;cases r3;refine Ai ?_;cases k with
 |false=>exact ite_ff ⟨.bl false,H3,I3,rfl,q3⟩
 |true=>exact ite_tt (chain_last<|thn (hc za s3 σ H3 _ I3 q3) λw' s4 ⟨z',H4,I4,r4,q4⟩=>ho' za s4 σ H4 y z' u w' Q I4 r2 r4 q4)
def aEN:(AJ:Nat)<2^63:=by decide
def pF{x:V}(r:Vals [x] us):∃u,us=[u]/\RelV x u:=by
 cases r with
 |cons r1 r2=>cases r2;exact⟨_,rfl,r1⟩
def aLl{x y:V}(r:Vals [x,y] us):∃u w',us=[u,w']/\RelV x u/\RelV y w':=by
 cases r with
 |cons r1 r2=>
  cases r2 with
  |cons r3 r4=>cases r4;exact⟨_,_,rfl,r1,r3⟩
def aGj(hc:X.calm=true):lA X (.builtin "min") (λxs H Q=>∃i j,xs=[.int i,.int j]/\Q (.int (if j<i then j else i)) H):=by
 intro za s σ H xs us Q I r h;obtain⟨i,j,rfl,q⟩:=h;obtain⟨u,w',rfl,⟨t,rfl⟩,⟨t',rfl⟩⟩:=aLl r;refine min_two_ints (I.ok.hd hc) λh' tk k=>⟨_,H,I.kept k,?_,q⟩
 by_cases hj:j<i
 ·rw[zt hj,zt hj];exact⟨_,rfl⟩
 ·rw[zr hj,zr hj];exact⟨_,rfl⟩
structure ObjM(h:BH)(x dx C:BF)(mA:Str->Option BD):Prop where
 obj:h.get? x=some (dU C dx)
 ns:h.Ns1 dx mA
 ne:dx≠x
set_option tactic.hygienic true in
def aHd(n:h.Ns1 dx mA):∃od,h.get? dx=some od/\∀name,qI name od=some (mA name):=by
 obtain⟨o,es,ep,ho,hd,hk,_,hm⟩:=n;refine⟨o,ho,λname=>?_⟩;have e:=hm name;unfold nsFind findBy at e;rw[<-Array.find?_toList] at e;unfold qI;rw[hd];dsimp only
 split
 ·rename_i y q;rw[q] at e;exact congrArg some e
 ·rename_i q;rw[q] at e
  have a:es.toList.any (·.refKey)=false:=by rw[List.any_eq_false];intro y hy;obtain⟨z,t,hkey⟩:=hk y<|Array.mem_toList_iff.mp hy;simp[DictEntry.refKey,hkey]
  have a':¬ es.toList.any (·.refKey)=true:=by rw[a];exact bM
  rw[zr a'];exact congrArg some e
def ObjM.look(I:ObjM h x dx C mA):∃od,PySem.W.InstAt h x (dU C dx) C (some od)/\∀name,qI name od=some (mA name):=
 let ⟨od,ho,hl⟩:=aHd I.ns
 ⟨od,⟨I.obj,rfl,rfl,ho⟩,hl⟩
variable {prog:AD}{A:BG}{K:aB}{dx C f:BF}{mA:Str->Option BD}{name:Str}{v:BD}
def aBb(X:K.In s.heap)(I:ObjM s.heap x dx C mA)(hg:kQ K C name=true)(hh:nH K C=true)(ha:cX K (.ref C) name=some none) (hv:mA name=some v) (hv':aHu v=true) (h:Q v {s with toks:=s.toks+1}):AK (AG prog w) A (getAttr (.ref x) name expr) Q E s:=by
 obtain⟨od,J,hl⟩:=I.look;exact PySem.W.get_value X J (rH hg).1 (PySem.W.findObj_own hh ha rfl<|by rw[hl,hv]) hv' h
def aCn(X:K.In s.heap)(I:ObjM s.heap x dx C mA)(hg:kQ K C name=true)(hf:cX K (.ref C) name=some (some<|.ref f)) (ht:pB K (.ref f)=true) (hv:mA name=none) (h:Q (.ref f,[.ref x]) s):AK (AG prog w) A (getMethod (.ref x) name pl) Q E s:=by
 obtain⟨od,J,hl⟩:=I.look;exact PySem.W.method_fn X J (rH hg).1 (rH hg).2 hf (beq_iff_eq.mp ht) (by show(qI name od).map (·.isSome)=some false;rw[hl,hv];rfl) h
theorem aLG(X:K.In s.heap)(I:ObjM s.heap x dx C mA)(hs:cX K (.ref C) "__setattr__"=some (some<|.builtin "object.__setattr__")) (hp:uJ K C=true) (ht:wC K C name=some none) (hh:nH K C=true)(hw:PySem.Within mA ns) (hsz:ns.length<=AJ)(h:∀h',ObjM h' x dx C (λy=>if y=name then some v else mA y)->Heap.SameBut dx s.heap h'->Q () {s with heap:=h',toks:=s.toks+2}):AK (AG prog w) A (setAttr (.ref x) name v) Q E s:=by
 obtain⟨od,J,hl⟩:=I.look;refine PySem.W.set_plain X J hs<|PySem.W.osa_open X J hp ht λb=>?_;obtain⟨cd,hc,hd'⟩:=PySem.W.any_some hh;have hx:=I.obj;refine AA (AC<|AA (AA<|wpAny_loadPart hx (AA<|PySem.W.Looks.here (PySem.W.looks_clsIn X hc) ?_)));rw[hd'];refine AC<|AA (AC<|AA ?_);refine wpAny_nsSet1 I.ns λh' hn2 hs2=>?_
 obtain⟨oD,esD,epD,hoD,hdD,hcD⟩:=hn2.count<|PySem.Within.cons name v hw;refine AA<|wpAny_lookBehind hoD (by rw[hdD];exact pastItsLine_dict (cJ hcD<|by rw[bJ];lia)) ?_;exact AC<|h _ ⟨(hs2.2 _<|Ne.symm I.ne).trans I.obj,hn2,I.ne⟩ hs2
def aJk(X:K.In s.heap)(hm:wD K C=true)(hi:cX K (.ref C) "__init__"=some (some<|.ref f)) (hf:PySem.W.typeIn K (.ref f)=some (.type "function"))(h:codeAny (AG prog w) (A.under (.builtin "type.__call__" ⟨.ref C::vs,kw⟩)) (.call (.ref f) ⟨.ref (s.heap.objs.size+1)::vs,kw⟩) (PySem.W.InitBack (s.heap.objs.size+1) R) {s with heap:=(s.heap.push gP).push (dU C s.heap.objs.size)}):codeAny (AG prog w) A (.call (.ref C) ⟨vs,kw⟩) R s:=by
 obtain⟨hh,g,d,t,os⟩:=s;exact PySem.W.make_core (PySem.W.makes_of X hm) (PySem.W.looks_findIn X hi) (λself=>PySem.W.bind_fn X self hf) (.inl rfl) h
noncomputable def oZ(f:Str)(v:V):List (Str×V)->List (Str×V)
 |[]=>[(f,v)]
 |(g,x)::r=>if g=f then(g,v)::r else(g,x)::oZ f v r
theorem mX(f g:Str)(v:V):∀fs:List (Str×V),(oZ f v fs).lookup g=if g=f then some v else fs.lookup g
 |[]=>by
  show jC g [(f,v)]=_
  by_cases h:g=f
  ·have hb:=beq_iff_eq.mpr h;simp only[jC,hb,zt h]
  ·have hb:=beq_eq_false_iff_ne.mpr h;simp only[jC,hb,zr h]
 |(k,x)::r=>by
  have ih:=mX f g v r;rw[show oZ f v ((k,x)::r)=(if k=f then(k,v)::r else(k,x)::oZ f v r) from rfl]
  by_cases hk:k=f
  ·rw[zt hk]
   by_cases h:g=k
   ·have hb:=beq_iff_eq.mpr h;simp only[jC,hb,zt<|h.trans hk]
   ·have hb:=beq_eq_false_iff_ne.mpr h;simp only[jC,hb,zr (λe:g=f=>h<|e.trans hk.symm)]
  ·rw[zr hk]
   by_cases h:g=k
   ·have hb:=beq_iff_eq.mpr h;simp only[jC,hb,zr (λe=>hk<|h.symm.trans e)]
   ·have hb:=beq_eq_false_iff_ne.mpr h;simp only[jC,hb];exact ih
theorem vB(f:Str)(v:V):∀fs:List (Str×V),f∈(oZ f v fs).map (·.1)/\∀g,g∈fs.map (·.1)->g∈(oZ f v fs).map (·.1)
 |[]=>⟨by simp[oZ],λg h=>by simp at h⟩
 |(k,x)::r=>by
  obtain⟨i1,i2⟩:=vB f v r;rw[show oZ f v ((k,x)::r)=(if k=f then(k,v)::r else(k,x)::oZ f v r) from rfl]
  by_cases hk:k=f
  ·subst hk;exact⟨by simp,λg h=>by simpa using h⟩
  ·rw[zr hk];refine⟨?_,λg h=>?_⟩
   ·exact aH _ i1
   ·rcases bL.mp h with e|e
    ·exact bL.mpr<|.inl e
    ·exact aH _<|i2 g e
theorem mW(f:Str)(v:V):∀fs:List (Str×V),(oZ f v fs).length<=fs.length+1
 |[]=>by simp[oZ]
 |(k,x)::r=>by
  have ih:=mW f v r;rw[show oZ f v ((k,x)::r)=(if k=f then(k,v)::r else(k,x)::oZ f v r) from rfl]
  by_cases hk:k=f
  ·rw[zt hk,bJ,bJ];lia
  ·rw[zr hk,bJ,bJ];lia
def RelO.some_of{v:V}{o:Option BD}(r:RelO (some v) o):∃u,o=some u/\RelV v u:=by
 cases o with
 |none=>exact(r).elim
 |some u=>exact⟨u,rfl,r⟩
def RelO.none_of{o:Option BD}(r:RelO none o):o=none:=by
 cases o with
 |none=>rfl
 |some u=>exact(r).elim
def uP{v:V}{u:BD}(r:RelV v u):aHu u=true:=by
 cases v with
 |non=>cases(r);rfl
 |bl b=>cases(r);rfl
 |int i=>obtain⟨t,e⟩:=(r);cases e;rfl
 |str x=>obtain⟨t,e⟩:=(r);cases e;rfl
 |byt b=>obtain⟨t,e⟩:=(r);cases e;rfl
 |flt b=>obtain⟨t,e⟩:=(r);cases e;rfl
 |ref a=>cases(r);rfl
 |ty n=>cases(r);rfl
variable {a:BF}{fs fs':List (Str×V)}
def aBu(hok:HOk P w H h)(e:H a=some (.ins C dx fs)):∃mA,ObjM h a dx C mA/\(∀f,RelO (fs.lookup f)<|mA f)/\PySem.Within mA (fs.map (·.1))/\fs.length<=1000/\H dx=some (.own a):=by obtain⟨d,z,ne,ob,mA,n,r,q⟩:=(hok a _ e);exact⟨mA,⟨ob,n,ne⟩,r,q,z,d⟩
structure Cls(K:aB)(C:BF):Prop where
 pg:kQ K C Str.empty=true
 hd:nH K C=true
 po:uJ K C=true
 sa:cX K (.ref C) "__setattr__"=some (some<|.builtin "object.__setattr__")
def Cls.get(c:Cls K C)(f:Str):kQ K C f=true:=c.pg
def NoAttr(K:aB)(C:BF)(f:Str):Prop:=cX K (.ref C) f=some none
def NoAttr.taker{f:Str}(n:NoAttr K C f):wC K C f=some none:=by unfold wC;rw[n];rfl
structure Con(K:aB)(C:BF)(f:Str)(v:V)(u:BD):Prop where
 at_:cX K (.ref C) f=some (some u)
 rel:RelV v u
 get:aHn K u "__get__"=some none
 cp:PySem.W.copiedNames.contains f=false
structure aND(K:aB)(C:BF)(m:Str)(f:BF):Prop where
 at_:cX K (.ref C) m=some (some<|.ref f)
 fn:pB K (.ref f)=true
 kp:cK K (.ref f)=true
variable {f:Str}{v:V}
theorem aDu{u:BD}(I:Inv X za σ H s)(e:H a=some (.ins C dx fs))(c:Cls X.K C)(n:NoAttr X.K C f)(hl:fs.length<1000)(ry:RelV y u)(h:∀s',Inv X za σ (upd H a (.ins C dx<|oZ f y fs)) s'->Q () s'):AK (AG X.prog X.w) A (setAttr (.ref a) f u) Q E s:=by
 obtain⟨mA,O,r,wi,_,ho⟩:=aBu I.hok e;have hz:(fs.map (·.1)).length<=AJ:=by rw[aC,At];lia
 refine aLG I.kIn O c.sa c.po n.taker c.hd wi hz λh' O' sb=>h _ ?_
 have hd:∃o,h'.get? dx=some o:=let ⟨o,_,_,e',_⟩:=O'.ns;⟨o,e'⟩
 refine I.write (by rw[e];exact True.intro) (.inr ho) (λb q hb z=>(sb.2 b hb).trans z) hd ?_;refine⟨by rw[aW O.ne];exact ho,?_,O.ne,O'.obj,_,O'.ns,λg=>?_,λg hg=>?_⟩
 ·have:=mW f y fs;lia
 ·rw[mX]
  by_cases q:g=f
  ·rw[zt q,zt q];exact ry
  ·rw[zr q,zr q];exact r g
 ·by_cases q:g=f
  ·rw[q];exact(vB f y fs).1
  ·refine(vB f y fs).2 g<|wi g λz=>hg ?_;show(if g=f then some u else mA g)=none;rw[zr q];exact z
def Inv.made(I:Inv X za σ H s):Inv X za σ (upd (upd H s.heap.objs.size (.own<|s.heap.objs.size+1)) (s.heap.objs.size+1)<|.ins C s.heap.objs.size []) {s with heap:=(s.heap.push gP).push (dU C s.heap.objs.size)}:=by
 have e1:(s.heap.push gP).get? s.heap.objs.size=some gP:=bO s.heap rfl
 have e2:=by
  have:=bO (s.heap.push gP) (o:=dU C s.heap.objs.size) rfl
  rwa[nG] at this
 have e3:(s.heap.push gP).Ns s.heap.objs.size (λ_=>none):=⟨gP, #[],_,e1,rfl,(λe he=>absurd he<|by simp),λ_=>rfl⟩;have I1:=I.laid (o:=.own<|s.heap.objs.size+1) (t':=s.toks) (λb u q=>aD _ q) (aQ _) ⟨_,e1⟩;refine I1.laid (λb u q=>aD _ q) (vX<|nG _ _) ?_;have ne:s.heap.objs.size≠s.heap.objs.size+1:=bR<|iE _;refine⟨by rw[aW ne,bH],bQ _,ne,e2,λ_=>none,(Heap.Ns1.of_empty e3).at λo q=>aD _ q,λ_=>True.intro,λy hy=>absurd rfl hy⟩
def aBr(hb:Ag e f env (eval e env)=eval e env)(h:AK (AG prog w) A (eval e env) (λo s₁=>AK (AG prog w) A (getAttr o f true) Q E s₁) E s):AK (AG prog w) A (eval (.Attribute e f pos) env) Q E s:=
 Attribute_any_ h (by rw[arm_eval_Attribute,hb])
def sFld(K:aB)(ta tv:TE)(f:Str):TS:=λD σ H=>tv σ H λy H1=>ta σ H1 λx H2=>∃a C dx fs,x=.ref a/\H2 a=some (.ins C dx fs)/\Cls K C/\NoAttr K C f/\fs.length<1000/\
 D.nx σ (upd H2 a (.ins C dx<|oZ f y fs))
variable {o value:Expr}{pos' tpos:Pos}{tv:TE}
theorem aEB(ha:PE X o ta)(hv:PE X value tv)(hs:Ab value (some<|.Attribute o f pos') pos.line X.env=pure false):PS X (.Assign [.Attribute o f pos'] value pos) (sFld X.K ta tv f):=by intro za s σ H D I h;refine plainObj_wpAny_Assign_Attribute (thn (hv za s σ H _ I h) λu s1 ⟨y,H1,I1,ry,q⟩=>thn (ha za s1 σ H1 _ I1 q) λov s2 ⟨x,H2,I2,rx,a,C,dx,fs,ex,ea,c,n,l,q2⟩=>?_) hs;subst ex;obtain rfl:ov=Value.ref a:=rx;exact aDu I2 ea c n l ry λs3 I3=>⟨σ,_,I3,q2⟩
variable {Q:BD->BE->Prop}{c:BD}{b:Bool}
inductive sZ(K:aB)(H:Hp):V->BD->Prop where
 |non:sZ K H .non (.type "NoneType")
 |bl (x:Bool):sZ K H (.bl x) (.type "bool")
 |int (i:Int):sZ K H (.int i) (.type "int")
 |str (x:Str):sZ K H (.str x) (.type "str")
 |flt (x:UInt64):sZ K H (.flt x) (.type "float")
 |lst {a:BF}{xs:List V} (e:H a=some (.lst xs)):sZ K H (.ref a) (.type "list")
 |frz {a:BF}{o:BI}{xs:List V} (e:H a=some (.frz o<|.lst xs)):sZ K H (.ref a) (.type "list")
 |tup {a:BF}{xs:List V} (e:H a=some (.tup xs)):sZ K H (.ref a) (.type "tuple")
 |dK {a:BF}{kvs:List (Key×V)} (e:Rd H a (.dK kvs)):sZ K H (.ref a) (.type "dict")
 |dT {a:BF}{kvs:List (List Key×V)} (e:H a=some (.dT kvs)):sZ K H (.ref a) (.type "dict")
 |ins {a C dx:BF}{fs:List (Str×V)} (e:H a=some (.ins C dx fs)) (cl:Cls K C) (ha:cX K (.ref C) "__class__"=some (some<|.builtin "object.__class__"))
   (hn:aHn K (.builtin "object.__class__") "__get__"=some (some<|.builtin "getset_descriptor.__get__")) (htk:PySem.W.takesIn K (.builtin "object.__class__")=some true)
   (hm:aNw K C (.type "object")=some true):sZ K H (.ref a) (.ref C)
def aGD{x:V}{u t:BD}(I:Inv X za σ H s)(rx:RelV x u)(ty:sZ X.K H x t)(e:cU X.K t c=some b)(h:∀tk,Q (.bool b) {s with toks:=tk}):AK (AG X.prog X.w) A (call (.builtin "isinstance") [u,c]) Q E s:=by
 cases ty with
 |non=>cases(rx);exact eJ PySem.W.kitx_none I.kIn True.intro e (λz=>nomatch z) h
 |bl y=>cases(rx);exact eJ PySem.W.kitx_bool I.kIn True.intro e (λz=>nomatch z) h
 |int i=>obtain⟨t,q⟩:=(rx);cases q;exact eJ PySem.W.kitx_int I.kIn True.intro e (λz=>nomatch z) h
 |str y=>obtain⟨t,q⟩:=(rx);cases q;exact eJ PySem.W.kitx_str I.kIn True.intro e (λz=>nomatch z) h
 |flt y=>obtain⟨t,q⟩:=(rx);cases q;exact eJ PySem.W.kitx_float I.kIn True.intro e (λz=>nomatch z) h
 |@lst a xs ea=>cases(rx);obtain⟨_,_,n,_,h1⟩:=(I.hok a _ ea);exact eJ aHo I.kIn ⟨_,h1,rfl⟩ e (λz=>nomatch z) h
 |@frz a ob xs ea=>cases(rx);obtain⟨_,_,_,n,_,h1⟩:=(I.hok a _ ea);exact eJ aHo I.kIn ⟨_,h1,rfl⟩ e (λz=>nomatch z) h
 |@tup a xs ea=>cases(rx);obtain⟨_,_,_,p⟩:=(I.hok a _ ea);obtain⟨o,h1,h2,_⟩:=p;exact eJ PySem.W.kitx_tuple I.kIn ⟨o,h1,h2⟩ e (λz=>nomatch z) h
 |@dK a kvs ea=>cases(rx);obtain⟨_,_,vs,_,p⟩:=(ea.ok I.hok);obtain⟨o,es,ep,h1,h2,_⟩:=p;exact eJ aHp I.kIn ⟨o,h1,h2.1⟩ e (λz=>nomatch z) h
 |@dT a kvs ea=>cases(rx);obtain⟨_,_,xs,_,o,es,ep,h1,h2,_⟩:=(I.hok a _ ea);exact eJ aHp I.kIn ⟨o,h1,h2.1⟩ e (λz=>nomatch z) h
 |@ins a C dx fs ea cl ha hn htk hm=>cases(rx);obtain⟨mA,O,_⟩:=aBu I.hok ea;obtain⟨od,J,_⟩:=O.look;exact eJ (PySem.W.kitx_own (cl.get _) cl.hd ha hn htk hm) I.kIn J e (λz=>nomatch z) h
structure Room(k:Nat)(A:BG):Prop where
 hd:A.handled=none
 dp:A.depth+3*k+5<recursionLimit
 un:A.units+16*k+200<AR
 gd:A.guards=some []
theorem Room.mono(r:Room k A)(h:j<=k):Room j A:=⟨r.hd,by have:=r.dp;lia,by have:=r.un;lia,r.gd⟩
theorem Room.deeper(r:Room (k+1) A)(env:Env):Room k (A.deeper env):=
 ⟨r.hd,by have:=r.dp;show A.depth+1+3*k+5<_;lia,by have:=r.un;show A.units+3+16*k+200<_;lia,r.gd⟩
def aDK:(A.under<|.builtin "type.__call__" ⟨.ref C::us,kw⟩).depth=A.depth+1:=by first|rfl|simp[Around.under,Code.weight,Code.isCreation,Code.isGuard,Code.isCaller,Code.frames,Code.isFrame,guardIds]
def aDD:(A.under<|.builtin "type.__call__" ⟨.ref C::us,kw⟩).units=A.units+1:=by first|rfl|simp[Around.under,Code.cUnits,Code.frames,Code.isFrame]
theorem Room.make(r:Room (k+1) A)(C:BF)(us:List BD)(kw:List (Str×BD)):Room k (A.under<|.builtin "type.__call__" ⟨.ref C::us,kw⟩):=
 ⟨r.hd,by have:=r.dp;rw[aDK];lia,by have:=r.un;rw[aDD];lia,by rw[show(A.under<|.builtin "type.__call__" ⟨.ref C::us,kw⟩).guards=pushGuards (Code.builtin "type.__call__" ⟨.ref C::us,kw⟩).guards A.guards from rfl,r.gd];first|rfl|simp[Code.guards,Code.isGuard,guardIds,pushGuards]⟩
theorem Room.depth(r:Room k A):A.depth<recursionLimit:=by have:=r.dp;lia
def aHw:TA:=λ_ H Q=>Q [] H
def qC(ta:TE)(tr:TA):TA:=λσ H Q=>ta σ H λx H1=>tr σ H1 λxs H2=>Q (x::xs) H2
variable {es:List Expr}{t:TA}
def pa_nil:PA X [] aHw:=λ_ _ _ _ H Q I h=>Calls.spliced_nil ⟨[],H,I,.nil,h⟩
theorem cO(ha:PE X e te)(hr:PA X es t)(hs:AB (e::es) X.env=(false,eval e X.env)::AB es X.env:=by rfl):PA X (e::es) (qC te t):=by intro pos za s σ H Q I h;rw[hs];refine Calls.spliced_cons<|thn (ha za s σ H _ I h) λu s1 ⟨x,H1,I1,r1,q1⟩=>?_;exact thn (hr pos za s1 σ H1 _ I1 q1) λus s2 ⟨xs,H2,I2,r2,q2⟩=>⟨x::xs,H2,I2,.cons r1 r2,q2⟩
def aSe(t:TA):TE:=λσ H Q=>t σ H λxs H1=>xs.length<=AJ/\∀p,H1 p=none->Q (.ref p) (upd H1 p<|.tup xs)
def tLst(t:TA):TE:=λσ H Q=>t σ H λxs H1=>xs.length<=AJ/\∀p,H1 p=none->Q (.ref p) (upd H1 p<|.lst xs)
theorem aEy(h:PA X es t):PE X (.Tuple es x1 pos) (aSe t):=by intro za s σ H Q I hq;refine wpAny_Tuple_spliced<|thn (h pos za s σ H _ I hq) λus s1 ⟨xs,H1,I1,r,z,q⟩=>⟨by rw[<-r.length];exact z,?_⟩;have hf:=I1.hok.fresh<|aQ _;refine⟨.ref s1.heap.objs.size,upd H1 s1.heap.objs.size<|.tup xs,I1.laid (λb u e=>aD _ e) (aQ _) ?_,rfl,q _ hf⟩;exact⟨z,us,r,IsTupD.new _ _⟩
theorem aPP(h:PA X es t):PE X (.List es pos) (tLst t):=by intro za s σ H Q I hq;refine wpAny_List_spliced<|thn (h pos za s σ H _ I hq) λus s1 ⟨xs,H1,I1,r,z,q⟩=>⟨by rw[<-r.length];exact z,?_⟩;have hf:=I1.hok.fresh<|aQ _;refine⟨.ref s1.heap.objs.size,upd H1 s1.heap.objs.size<|.lst xs,I1.laid (λb u e=>aD _ e) (aQ _) ?_,rfl,q _ hf⟩;exact⟨z,us,0,r,bO _ rfl⟩
abbrev Sp:=List V->Hp->VK->XK->Prop
abbrev CXT:=List Env->Hp->BE->XK->BD->BE->Prop
structure Env0(P:AD)(w:AL)(K:aB)(mg:Str->Option BD)(base:BH)(A:BG)(outer:List Env)(s:BE)(H:Hp):Prop where
 frames:A.frames=some outer
 mod:Mod K mg base
 bs:∀b o,base.get? b=some o->s.heap.get? b=some o/\H b=none
 bsz:base.objs.size<=s.heap.objs.size
 funs:s.heap.FunFrames base outer
 frf:∀b∈frs outer,H b=none
 hok:HOk P w H s.heap
 bare:AllBare s.gens
def CE(outer:List Env)(P:AD)(w:AL)(H:Hp)(s:BE)(Q:VK)(u:BD)(s':BE):Prop:=
 ∃v H',s'.os=s.os/\AllBare s'.gens/\Un (frs outer) [] H H' s.heap s'.heap/\HOk P w H' s'.heap/\RelV v u/\Q v H'
def CR(CX:CXT)(outer:List Env)(P:AD)(w:AL)(H:Hp)(s:BE)(Q:VK)(E:XK)(r:Result)(s':BE):Prop:=
 match r with
 |.ok (.ret u)=>CE outer P w H s Q u s'
 |.ok _=>False
 |.error e=>CX outer H s E e s'
structure FnOk(P:AD)(w:AL)(K:aB)(mg:Str->Option BD)(base:BH)(CX:CXT)(k:Nat)(f:BF)(fd:AN)(ps:List Str)(sp:Sp):Prop where
 len:∀vs H Q E,sp vs H Q E->vs.length=ps.length
 run:∀ (A:BG) (outer:List Env) (s:BE) (H:Hp) (args:Args) (us:List BD) (vs:List V) (Q:VK) (E:XK),Room k A->Env0 P w K mg base A outer s H->BindsTo s fd args (ps.zip us)->Vals vs us->sp vs H Q E->
  codeAny (AG P w) A (.call (.ref f) args) (CR CX outer P w H s Q E) s
def Env0.make(e:Env0 P w K mg base A outer s H)(C:BF)(us:List BD)(kw:List (Str×BD)):Env0 P w K mg base (A.under<|.builtin "type.__call__" ⟨.ref C::us,kw⟩) outer s H:=⟨by first|exact e.frames|(simpa[] using e.frames),e.mod,e.bs,e.bsz,e.funs,e.frf,e.hok,e.bare⟩
variable {s':BE}
def Inv.env0(I:Inv X za σ H s):Env0 X.prog X.w X.K X.mg X.base X.A X.stack s H:=
 ⟨I.ok.frames,I.ok.mod,I.bs,cJ I.ok.bsz I.sz,I.stack,I.stkFree,I.hok,I.bare⟩
def Inv.after{Q:VK}{u:BD}(I:Inv X za σ H s)(h:CE X.stack X.prog X.w H s Q u s'):EP X za σ Q u s':=by obtain⟨v,H',os,bare,un,hok,r,q⟩:=h;obtain⟨hh,g,d,t,os'⟩:=s';obtain rfl:os'=s.os:=os;exact⟨v,H',I.call un hok bare (λb z=>absurd z<|by simp),r,q⟩
def aRf(sp:Sp)(dvs:List V)(E:XK)(t:TA):TE:=λσ H Q=>t σ H λvs H1=>sp (vs++dvs) H1 Q E
def aRJ(C:BF)(sp:Sp)(dvs:List V)(E:XK)(t:TA):TE:=λσ H Q=>t σ H λvs H1=>∀x dx,H1 x=none->H1 dx=none->dx≠x->
 sp (.ref x::(vs++dvs)) (upd (upd H1 dx<|.own x) x<|.ins C dx []) (λv H2=>v=.non/\Q (.ref x) H2) E
def Binds(K:aB)(fd:AN)(ps:List Str)(ds:List BD):Prop:=
 ∀ (s:BE) (us:List BD),K.In s.heap->(us++ds).length=ps.length->BindsTo s fd ⟨us,[]⟩ (ps.zip<|us++ds)
def Binds.all(h:∀us:List BD,us.length=ps.length->bindArgs fd ⟨us,[]⟩=pure (ps.zip us)):Binds K fd ps []:=λs us _ hl=>by rw[bG] at hl ⊢;exact .of_eq<|h us hl
def yF(CX:CXT)(X:Cx)(E:XK):Prop:=∀ (za:List (BF×BI)) (σ:St) (H:Hp) (s:BE) (e:BD) (s':BE),Inv X za σ H s->CX X.stack H s E e s'->X.xe e s'
variable {CX:CXT}{k:Nat}{f:BF}{fd:AN}{ps:List Str}{sp:Sp}{dvs:List V}{ds:List BD}{E:XK}{x m:Str}{p apos:Pos}
def aEE{Q:VK}(F:FnOk X.prog X.w X.K X.mg X.base CX k f fd ps sp)(hr:Room k X.A)(hb:Binds X.K fd ps ds)(hd:Vals dvs ds)(hx:yF CX X E)(I:Inv X za σ H s) (r:Vals vs us) (h:sp (vs++dvs) H Q E):AK (AG X.prog X.w) X.A (call (.ref f) us) (EP X za σ Q) X.xe s:=by
 have r2:=r.append hd;have hl:(us++ds).length=ps.length:=by rw[<-r2.length];exact F.len _ _ _ _ h
 refine wpAny_call<|Aq (F.run X.A X.stack s H ⟨us,[]⟩ (us++ds) (vs++dvs) Q E hr I.env0 (hb s us I.kIn hl) r2 h) λr s' hq=>?_;cases r with
 |error e=>exact hx za σ H s e s' I hq
 |ok fl=>
  cases fl with
  |ret u=>exact I.after hq
  |next=>exact False.elim hq
  |brk=>exact False.elim hq
  |cont=>exact False.elim hq
theorem qQ(F:FnOk X.prog X.w X.K X.mg X.base CX k f fd ps sp)(hr:Room k X.A)(hg:Gl X x)(hm:X.mg x=some (.ref f))(hk:cK X.K (.ref f)=true)(hb:Binds X.K fd ps ds)(hd:Vals dvs ds)(hx:yF CX X E)(ha:PA X (e::es) t) (hdb:(x==("__debug__":Str))=false:=by decide) (he:AB (e::es) X.env=(false,eval e X.env)::AB es X.env:=by rfl) (hpl:(AV pos<|AB es X.env).any (·.1)=false:=by rfl):PE X (.Call (.Name x p) (e::es) [] pos) (aRf sp dvs E t):=by
 intro za s σ H Q I h;refine AO<|lY I hg hm ?_ hdb;refine dQ I.ok.mod.kin hk (thn (ha pos za s σ H _ I h) λus s1 ⟨vs,H1,I1,r,q⟩=>⟨I1.kIn,?_⟩) he hpl;exact aEE F hr hb hd hx I1 r q
structure Mk(K:aB)(C f:BF):Prop where
 makes:wD K C=true
 init:cX K (.ref C) "__init__"=some (some<|.ref f)
 fn:pB K (.ref f)=true
 kp:cK K (.ref C)=true
def aIr{Q:VK}{us:List BD}{vs:List V}(M:Mk X.K C f)(F:FnOk X.prog X.w X.K X.mg X.base CX k f fd ps sp)(hr:Room (k+1) X.A)(hb:Binds X.K fd ps ds)(hd:Vals dvs ds)(hx:yF CX X E) (I:Inv X za σ H s) (r:Vals vs us)(h:∀x dx,H x=none->H dx=none->dx≠x->sp (.ref x::(vs++dvs)) (upd (upd H dx<|.own x) x<|.ins C dx []) (λv H2=>v=.non/\Q (.ref x) H2) E):AK (AG X.prog X.w) X.A (call (.ref C) us) (EP X za σ Q) X.xe s:=by
 have hq:=h (s.heap.objs.size+1) s.heap.objs.size (I.hok.fresh<|iL _) (I.hok.fresh<|aQ _) (bR<|iE _);have I2:=Inv.made (C:=C) I;have r2:Vals (V.ref (s.heap.objs.size+1)::(vs++dvs)) (Value.ref (s.heap.objs.size+1)::(us++ds)):=.cons rfl<|r.append hd
 have hl:=by have e:=r2.length;rw[F.len _ _ _ _ hq] at e;exact e.symm
 refine wpAny_call (aJk I.kIn M.makes M.init (beq_iff_eq.mp M.fn) (Aq (F.run _ X.stack _ _ ⟨Value.ref (s.heap.objs.size+1)::us,[]⟩ (Value.ref (s.heap.objs.size+1)::(us++ds)) _ _ E (hr.make C us [])
  (I2.env0.make C us []) (hb _ (Value.ref (s.heap.objs.size+1)::us) I2.kIn hl) r2 hq) λr s' hq'=>?_))
 cases r with
 |error e=>exact hx za σ _ _ e s' I2 hq'
 |ok fl=>
  cases fl with
  |ret u=>obtain⟨v,H',I3,rv,ev,q3⟩:=I2.after hq';subst ev;exact⟨rv,⟨V.ref<|s.heap.objs.size+1,H',I3,rfl,q3⟩⟩
  |next=>exact False.elim hq'
  |brk=>exact False.elim hq'
  |cont=>exact False.elim hq'
theorem aMi(M:Mk X.K C f)(F:FnOk X.prog X.w X.K X.mg X.base CX k f fd ps sp)(hr:Room (k+1) X.A)(hg:Gl X x)(hm:X.mg x=some (.ref C))(hb:Binds X.K fd ps ds)(hd:Vals dvs ds)(hx:yF CX X E)(ha:PA X (e::es) t) (hdb:(x==("__debug__":Str))=false:=by decide) (he:AB (e::es) X.env=(false,eval e X.env)::AB es X.env:=by rfl) (hpl:(AV pos<|AB es X.env).any (·.1)=false:=by rfl):PE X (.Call (.Name x p) (e::es) [] pos) (aRJ C sp dvs E t):=by
 intro za s σ H Q I h;refine AO<|lY I hg hm ?_ hdb;refine dQ I.ok.mod.kin M.kp (thn (ha pos za s σ H _ I h) λus s1 ⟨vs,H1,I1,r,q⟩=>⟨I1.kIn,?_⟩) he hpl;exact aIr M F hr hb hd hx I1 r q
section
variable {X:Cx}{CX:CXT}{k:Nat}{f C:BF}{fd:AN}{ps ks:List Str}{sp:Sp}{E:XK}{x m:Str}{p pos apos kpos:Pos}{e o:Expr}{es:List Expr}{kws:List Keyword}{te ta:TE}{t tk:TA}{nm:Option Str}
structure aSz(K:aB)(fd:AN)(ps ks:List Str)(g:List BD->List BD->List BD)(gV:List V->List V->List V):Prop where
 to:∀ (s:BE) (us ws:List BD),K.In s.heap->(g us ws).length=ps.length->BindsTo s fd ⟨us,ks.zip ws⟩ (ps.zip<|g us ws)
 rel:∀ {vs:List V}{us:List BD}{zs:List V}{ws:List BD},Vals vs us->Vals zs ws->Vals (gV vs zs) (g us ws)
variable {g:List BD->List BD->List BD}{gV:List V->List V->List V}
end
structure iD(N P:List Str)(sc:Scope):Prop where
 kind:sc.kind=.function
 co:sc.isCoroutine=false
 gen:sc.isGenerator=false
 nd:N.Nodup
 pre:N.take P.length=P
 par:∀x∈P,sc.names.lookup x=some .local\/sc.names.lookup x=some .cell
 nofree:∀y∈sc.names,y.2≠ .free
theorem aAB{kindOf:Str->Option NameKind}:∀ {binds:List (Str×BD)}{m:Str->Option BD},(∀v,(x,v)∉binds)->bindL kindOf binds m x=m x
 |[],_,_=>rfl
 |(n,v)::r,m,h=>by
  unfold bindL;rw[aAB λw hw=>h w<|aH _ hw]
  split
  ·have:x≠n:=by rintro rfl;exact h v aO
   simp[this]
  ·rfl
theorem aAs{kindOf:Str->Option NameKind}:∀ {binds:List (Str×BD)}{m:Str->Option BD},(∀v,(x,v)∉binds)->bindC kindOf binds m x=m x
 |[],_,_=>rfl
 |(n,v)::r,m,h=>by
  unfold bindC;rw[aAs λw hw=>h w<|aH _ hw]
  split
  ·rfl
  ·have:x≠n:=by rintro rfl;exact h v aO
   simp[this]
theorem aAE{kindOf:Str->Option NameKind}{v:BD}:∀ {P:List Str}{vs:List BD}{i:Nat}{m:Str->Option BD},P.Nodup->P[i]? =some x->vs[i]? =some v->kindOf x=some .local->bindL kindOf (P.zip vs) m x=some v
 |[],_,_,_,_,h,_,_=>by simp at h
 |_::_,[],_,_,_,_,h,_=>by simp at h
 |p::P,w::vs,0,m,nd,h1,h2,hk=>by simp at h1 h2;subst h1;subst h2;show bindL kindOf ((p,w)::P.zip vs) m p=_;unfold bindL;rw[aAB λv hv=>(bY.mp nd).1 (zN hv).1,zt hk];simp
 |p::P,w::vs,i+1,m,nd,h1,h2,hk=>by unfold bindL;exact aAE (bY.mp nd).2 (by simpa using h1) (by simpa using h2) hk
theorem aAn{kindOf:Str->Option NameKind}{v:BD}:∀ {P:List Str}{vs:List BD}{i:Nat}{m:Str->Option BD},P.Nodup->P[i]? =some x->vs[i]? =some v->kindOf x≠some .local->bindC kindOf (P.zip vs) m x=some v
 |[],_,_,_,_,h,_,_=>by simp at h
 |_::_,[],_,_,_,_,h,_=>by simp at h
 |p::P,w::vs,0,m,nd,h1,h2,hk=>by simp at h1 h2;subst h1;subst h2;show bindC kindOf ((p,w)::P.zip vs) m p=_;unfold bindC;rw[aAs λv hv=>(bY.mp nd).1 (zN hv).1,zr hk];simp
 |p::P,w::vs,i+1,m,nd,h1,h2,hk=>by unfold bindC;exact aAn (bY.mp nd).2 (by simpa using h1) (by simpa using h2) hk
noncomputable def start(N:List Str)(vs:List V):St:=vs.map some++bP (N.length-vs.length) none
noncomputable def gO(CX:CXT)(P:AD)(w:AL)(K:aB)(mg:Str->Option BD)(base:BH)(N:List Str)(qual:Str)(scope:Scope)(f:BF)(cd:BD)(A:BG)(outer:List Env)(s:BE)(H:Hp)(E:XK):Cx where
 prog:=P
 w:=w
 K:=K
 mg:=mg
 base:=base
 A:=A.deeper<|Ad qual scope s.heap.objs.size f cd
 N:=N
 s₀:=s
 H₀:=H
 env:=Ad qual scope s.heap.objs.size f cd
 outer:=outer
 stack:=Ad qual scope s.heap.objs.size f cd::outer
 ex:=[]
 calm:=true
 fn:=λ_=>true
 pn:=[]
 xe:=λe s'=>AK (AG P w) (A.deeper<|Ad qual scope s.heap.objs.size f cd) (leaving (Ad qual scope s.heap.objs.size f cd) e) (λ_ s''=>CX outer H s E e s'') (λe' s''=>CX outer H s E e' s'') s'
def aDc{sc:Scope}(h:sc.names.lookup x=some .cell):∃c,(cellsFrom n sc.names []).lookup x=some c:=by have q:=aAX sc.names n []<|.inl h;exact nV.mp q
theorem aGe(S:iD N ps scope) (hd:A.handled=none) (e0:Env0 P w K mg base A outer s H) (hl:vs.length=ps.length) (r:Vals vs us)(x:InCallC s s.heap.objs.size (bindL (Ad qual scope s.heap.objs.size f cd).kindOf (ps.zip us) λ_=>none) (cellsFrom (s.heap.objs.size+1) scope.names []) (bindC (Ad qual scope s.heap.objs.size f cd).kindOf (ps.zip us) λ_=>none) s1):Inv (gO CX P w K mg base N qual scope f cd A outer s H E) [] (start N vs) H s1:=by
 have hpl:=by have:=congrArg zL S.pre;rw[cE] at this;omega
 obtain⟨h1,tk,rfl,hk⟩:=x.done;have noA:∀b,b∉(gO CX P w K mg base N qual scope f cd A outer s H E).ex:=λb z=>absurd (show b∈([]) from z)<|by simp
 refine ⟨⟨e0.mod,S.kind,rfl,rfl,aQ _,fun y z c h1 h2=>?_,fun y hy=>?_,fun y c _ h=>?_,fun _=>hd,Around.frames_deeper e0.frames, .inr ⟨rfl,rfl⟩,fun b z=>absurd z (noA b),e0.bs,e0.bsz,fun b _ _=>noA b,fun b z=>absurd z (noA b),e0.funs,e0.frf⟩,
  rfl,e0.bare,Un.kept hk,⟨_,x.toInCall.ns,λi y v h1 h2 h3=>?_⟩,λy c h=>⟨_,x.cell y c h⟩,e0.hok.fresh (aQ _),λy c h=>?_,λp hp=>absurd (show p∈([]) from hp) (by simp),e0.hok.kept hk,?_⟩
 ·exact name_of_addr x.apart (PySem.mem_of_lookup h1)<|PySem.mem_of_lookup h2
 ·rcases hy with hy|hy
  ·exact aDc hy
  ·exact absurd rfl (S.nofree _<|PySem.mem_of_lookup hy)
 ·exact cZ (x.above y c<|PySem.mem_of_lookup h)
 ·have hi:i<vs.length:=by
   unfold start at h2
   by_cases hi:i<vs.length
   ·exact hi
   ·rw[jD<|by simpa using hi] at h2;rw[List.getElem?_replicate] at h2
    split at h2<;>cases h2
  have ha:vs[i]? =some v:=by
   unfold start at h2;rw[dS (by simpa using hi),bE] at h2;cases e:vs[i]? with
   |none=>rw[e] at h2;cases h2
   |some a=>rw[e] at h2;cases h2;rfl
  obtain⟨u,hu,rv⟩:=r.get ha
  have hp:ps[i]? =some y:=by rw[<-S.pre,aBO<|by lia];exact h1
  have ndP:ps.Nodup:=by rw[<-S.pre];exact S.nd.sublist<|List.take_sublist _ _
  refine⟨u,rv,?_⟩
  rcases S.par y (bC hp) with k|k
  ·exact .inl ⟨k,aAE ndP hp hu k⟩
  ·obtain⟨c,e⟩:=aDc k;refine .inr ⟨.inl k,c,e,?_⟩;have q:=x.cell y c e;rw[aAn ndP hp hu<|by show scope.names.lookup y≠_;rw[k];decide] at q;exact q
 ·exact e0.hok.fresh<|cZ (x.above y c<|PySem.mem_of_lookup h)
 ·unfold start;show _=N.length;rw[aP,aC,lB];lia
theorem aHN{dV kV doc pm cdv ct oc:BD} (lk:K.lookup f=some ⟨oc,od,.func<|cD name qual params body scope dV kV doc pm an cdv ct,osl⟩) (hcd:eI K cdv qual=true) (S:iD N ps scope)(len:∀vs H Q E,sp vs H Q E->vs.length=ps.length)(hbody:∀ (A:BG) (outer:List Env) (s:BE) (H:Hp) (vs:List V) (Q:VK) (E:XK),Room k (A.deeper (Ad qual scope s.heap.objs.size f cdv))→sp vs H Q E→∃t,PSs (gO CX P w K mg base N qual scope f cdv A outer s H E) body t/\t {nx:=λ_ H'=>Q .non H',rt:=Q} (start N vs) H):FnOk P w K mg base CX (k+1) f (cD name qual params body scope dV kV doc pm an cdv ct) ps sp:=by
 refine⟨len,λA outer s H args us vs Q E hr e0 hb r hsp=>?_⟩;have hl:=len _ _ _ _ hsp;have KX:=e0.mod.kin.keeps λb o e=>(e0.bs b o e).1
 have lim:=e0.mod.nolimit.keeps λb o e=>(e0.bs b o e).1
 have hkind:∀y∈ps.zip us,scope.names.lookup y.1=some .local\/(scope.names.lookup y.1=some .cell/\((cellsFrom (s.heap.objs.size+1) scope.names []).lookup y.1).isSome=true):=λ⟨n,v⟩ hy=>by
  rcases S.par n (zN hy).1 with q|q
  ·exact .inl q
  ·exact .inr ⟨q,aAX _ _ _<|.inl q⟩
 refine codeAny_call_function hr.depth (KX _ _ lk) rfl S.co S.gen rfl (PySem.W.codeRec_of KX hcd)<|hb _ _ _ _ ?_;refine wpAny_newFunctionEnv_cells S.kind hkind λenv he s1 x=>?_
 subst he;refine⟨lim.keeps x.toInCall.keep,codeAny_func ?_⟩;obtain⟨t,ht,hq⟩:=hbody A outer s H vs Q E (hr.deeper _) hsp;have I:Inv (gO CX P w K mg base N qual scope f cdv A outer s H E) [] (start N vs) H s1:=aGe S hr.hd e0 hl r x;refine AU (ht [] s1 (start N vs) H _ I hq) (λfl s' hs=>?_) λe s' hs=>hs
 have fin:∀ {σ':St}{H':Hp}{v:V}{u:BD},Inv (gO CX P w K mg base N qual scope f cdv A outer s H E) [] σ' H' s'->RelV v u->Q v H'->CE outer P w H s Q u s':=
  λ{σ' H' v u} J rv q=>⟨v,H',J.os,J.bare,J.base,J.hok,rv,q⟩
 cases fl with
 |ret u=>obtain⟨v,σ',H',J,rv,q⟩:=hs;exact fin J rv q
 |next=>obtain⟨σ',H',J,q⟩:=hs;exact fin (v:=V.non) J rfl q
 |brk=>obtain⟨_,_,_,q⟩:=hs;exact False.elim q
 |cont=>obtain⟨_,_,_,q⟩:=hs;exact False.elim q
section
variable {X:Cx}{x:Str}{p pos:Pos}{e:Expr}{es:List Expr}{t:TA}{id T:String}{r:List V->Hp->VK->Prop}
def tCB(r:List V->Hp->VK->Prop)(t:TA):TE:=λσ H Q=>t σ H λvs H1=>r vs H1 Q
theorem oK(hc:lA X (.builtin id) r)(hg:Gl X x)(hm:X.mg x=none)(hv:Ah x=some (.builtin id))(ha:PA X (e::es) t)(hn:x≠"__name__":=by decide)(hdb:(x==("__debug__":Str))=false:=by decide)(he:AB (e::es) X.env=(false,eval e X.env)::AB es X.env:=by rfl) (hpl:(AV pos<|AB es X.env).any (·.1)=false:=by rfl):PE X (.Call (.Name x p) (e::es) [] pos) (tCB r t):=by
 intro za s σ H Q I h;refine AO<|mH I hg hm hv ?_ hn hdb;exact PyProof.Rows.callWith_builtin1 (thn (ha pos za s σ H _ I h) λus s1 ⟨vs,H1,I1,r1,q1⟩=>hc za s1 σ H1 vs us Q I1 r1 q1) he hpl
theorem aGp(hc:lA X (.type T) r)(hg:Gl X x)(hm:X.mg x=none)(hv:Ah x=some (.type T))(ha:PA X (e::es) t)(hn:x≠"__name__":=by decide)(hdb:(x==("__debug__":Str))=false:=by decide)(he:AB (e::es) X.env=(false,eval e X.env)::AB es X.env:=by rfl) (hpl:(AV pos<|AB es X.env).any (·.1)=false:=by rfl):PE X (.Call (.Name x p) (e::es) [] pos) (tCB r t):=by
 intro za s σ H Q I h;refine AO<|mH I hg hm hv ?_ hn hdb;exact PyProof.Rows.callWith_type1 (thn (ha pos za s σ H _ I h) λus s1 ⟨vs,H1,I1,r1,q1⟩=>hc za s1 σ H1 vs us Q I1 r1 q1) he hpl
end
end L2
namespace HT
open PySem PyProof.Rows
noncomputable def lexLt:List Int->List Int->Bool
 |[],[]=>false
 |[],_::_=>true
 |_::_,[]=>false
 |x::xs,y::ys=>if x=y then lexLt xs ys else decide (x<y)
section
open PySem.SeqAt
open PySem.AutoSeq1 (wpAny_loadPart')
open PySem.MeetsSeq PySem.MeetsSeq2 PySem.MeetsSeq3
end
variable {prog:AD}{w:AL}{A:BG}{E:BD->BE->Prop}{s:BE}
def cat_tup(ht:IsTup s.heap t vs.toArray)(hb:IsTup s.heap b ws.toArray)(hv:vs≠[])(h1:ws=[]->Q (.ref t) s) (h2:ws≠[]->Q (.ref s.heap.objs.size) {s with heap:=s.heap.push {cls:=.type "tuple",data:=.seq (vs++ws).toArray}})(hsz:vs.length+ws.length<=AJ):AK (AG prog w) A (Al .Add (.ref t)<|.ref b) Q E s:=by
 obtain⟨⟨cls,dd,data,sl⟩,ho,hc,n,hd⟩:=id ht;obtain⟨⟨cls2,dd2,data2,sl2⟩,ho2,hc2,n2,hd2⟩:=id hb;subst hc hd hc2 hd2;have e:vs.toArray++ws.toArray=(vs++ws).toArray:=by simp
 by_cases hw:ws=[]
 ·exact concat_meets ⟨_,ho,rfl⟩ ⟨_,ho2,rfl⟩ noFill_tuple_add seq_tuple_add pD oO (nR _ _)
   (tuple_addW1 t b vs.toArray ws.toArray n n2 dd dd2 sl sl2 (by simpa using hv)<|by simp[hw]) ⟨ho,ho2,h1 hw⟩
 ·refine concat_meets ⟨_,ho,rfl⟩ ⟨_,ho2,rfl⟩ noFill_tuple_add seq_tuple_add pD oO (nR _ _)
   (tuple_addW2 t b vs.toArray ws.toArray n n2 dd dd2 sl sl2 (by simpa using hv) (by simpa using hw)<|hsz) ⟨ho,ho2,?_⟩
  rw[e];exact h2 hw
noncomputable def sIx(n d:Nat):Option Int->Nat
 |none=>d
 |some v=>if v<0 then(v+(n:Int)).toNat else min v.toNat n
def sIx_none(n d:Nat):sIx n d none=d:=rfl
theorem sIx_nat(n d k:Nat):sIx n d (some (k:Int))=min k n:=by show(if(k)<0 then((k)+(n:Int)).toNat else min (k:Int).toNat n)=min k n;rw[zr<|by lia,eD]
theorem aFM(v:Int)(n d:Nat):(if v<0 then max (v+(n:Int)) 0 else min v (n:Int))=((sIx n d (some v):Nat):Int):=by
 show(if v<0 then max (v+(n)) 0 else min v (n))=(((if v<0 then(v+(n)).toNat else min v.toNat n)))
 by_cases hv:v<0
 ·simp only[zt hv];lia
 ·simp only[zr hv];lia
theorem aDT(lo hi:Option Int)(n:Nat):Builtin.Slice.sliceAdjust lo hi 1 (n:Int)=(((sIx n 0 lo:Nat):Int),((sIx n n hi:Nat):Int)):=by
 refine Prod.ext ?_ ?_
 ·cases lo with
  |none=>rfl
  |some v=>exact aFM v n 0
 ·cases hi with
  |none=>rfl
  |some v=>exact aFM v n n
theorem aDr(i j:Nat):Builtin.Slice.slicePlaces (i:Int) (j:Int) 1=j-i:=by
 unfold Builtin.Slice.slicePlaces;split<;>lia
def xA(p:IsPart v o)(h:Q o s):AK (AG prog w) A (Builtin.Slice.slicePartIndex v) Q E s:=by
 cases p with
 |none=>exact slicePart_none h
 |int i t=>exact slicePart_int h
def sliceApplied_gen{lo hi:Option Int}{Q:Int×Int×Nat->BE->Prop}(hs:s.heap.IsSliceOf sl vl vu .none)(pl:IsPart vl lo)(pu:IsPart vu hi)(h:Q (((sIx n 0 lo:Nat):Int),1,sIx n n hi-sIx n 0 lo) s):AK (AG prog w) A (Builtin.Slice.sliceApplied (.ref sl)<|pure (n:Int)) Q E s:=by
 obtain⟨os,hos,hcs,hds⟩:=id hs;refine AA<|AA (wpAny_field hos hds rfl<|AA (wpAny_field hos hds rfl<|AA (wpAny_field hos hds rfl<|AC ?_)));refine AA<|slicePart_none ?_;refine AA<|xA pl (AA<|xA pu (AA<|AC ?_));show AK _ _ (match Builtin.Slice.sliceAdjust lo hi 1 (n) with|(lo,hi)=>pure (lo,(1:Int),Builtin.Slice.slicePlaces lo hi 1)) _ _ s;rw[aDT lo hi n];show AK _ _ (pure (((sIx n 0 lo):Int),(1),Builtin.Slice.slicePlaces ((sIx n 0 lo)) ((sIx n n hi)) 1)) _ _ s;rw[aDr];exact AC h
theorem aHV(xs:Array BD)(i k:Nat):((bT k).filterMap λ(m:Nat)=>xs[((i:Int)+(m:Int)*1).toNat]?).toArray=((xs.toList.drop i).take k).toArray:=by
 have e:(λ(m:Nat)=>xs[((i)+(m:Int)*1).toNat]?)=λm=>xs[i+m]? :=by
  funext m;have:((i)+(m:Int)*1).toNat=i+m:=by lia
  rw[this]
 rw[e];have:=pick_run xs i k;rw[List.filterMap_map] at this;have e2:((λx=>xs[x]?) ∘ λx=>i+x)=λm=>xs[i+m]? :=rfl
 rw[e2] at this;rw[this]
theorem getItem_tuple_cut{lo hi:Option Int}(ht:IsTup s.heap t items)(hs:s.heap.IsSliceOf sl vl vu .none)(pl:IsPart vl lo)(pu:IsPart vu hi)(hw:¬ (sIx items.size 0 lo=0/\sIx items.size items.size hi=items.size))(h:Q (.ref s.heap.objs.size) {s with heap:=s.heap.push {cls:=.type "tuple",data:=.seq ((items.toList.drop<|sIx items.size 0 lo).take<|sIx items.size items.size hi-sIx items.size 0 lo).toArray}})(hsz:items.size<=AJ):AK (AG prog w) A (getItem (.ref t)<|.ref sl) Q E s:=by
 have htake:=by show((items.toList.drop<|sIx items.size 0 lo).take<|sIx items.size items.size hi-sIx items.size 0 lo).toArray.size<=AJ;rw[bD,cE,dY,fK];lia
 obtain⟨os,hos,hcs,hds⟩:=id hs;have hTs:s.TypeIs (.ref sl) "slice":=⟨os,hos,hcs⟩;unfold getItem
 try with_reducible refine AY ?_
 first|refine AA (AC ?_)|skip
 refine AA<|wpAny_sequenceKey ht.typeIs (by decide) ?_
 refine AA (Ao ht.typeIs PyProof.Rows.slot_tuple_getitem
  (Av PyProof.Rows.slot_tuple_getitem ht.typeIs entry_tuple_getitem ?_ (args_tuple_getitem _ _)))
 show AK _ _ (Builtin.Tuple.tupleItemsOf (.ref t)>>=_) _ _ s;refine AA<|tupleItemsOf_ ht ?_;refine AA<|wpAny_typeOf hTs ?_;refine AA<|sliceApplied_gen hs pl pu ?_
 have hno:¬ ((((sIx items.size 0 lo):Int)==0&&(1:Int)==1&&(sIx items.size items.size hi-sIx items.size 0 lo)==items.size)=true):=by intro q;rw[bU,bU] at q;have q1:=eq_of_beq q.1.1;have q2:=eq_of_beq q.2;exact hw ⟨by lia,by lia⟩
 show AK _ _ (if(((sIx items.size 0 lo):Int)==0&&(1)==1&&(sIx items.size items.size hi-sIx items.size 0 lo)==items.size)=true then _ else _) _ _ s;rw[zr hno,aHV]
 first
  |exact AA (AZ (AC ⟨_,rfl,AC h⟩) htake)
  |exact AA (AZ (AA (AC<|AC ⟨_,rfl,AC h⟩)) htake)
  |exact AA (AA<|AZ (AC<|AC ⟨_,rfl,AC h⟩) htake)
  |exact AA (AA<|AZ (AC ⟨_,rfl,AC h⟩) htake)
end HT
namespace L2
open PySem PySem.Spec PyProof.Rows
abbrev TO:=St->Hp->(Option Int->Hp->Prop)->Prop
def PO(X:Cx)(e:Option Expr)(t:TO):Prop:=
 ∀ (za:List (BF×BI)) (s:BE) (σ:St) (H:Hp) (Q:Option Int->Hp->Prop),Inv X za σ H s->t σ H Q->
  AK (AG X.prog X.w) X.A (evalPart e X.env) (λu s'=>∃o H',Inv X za σ H' s'/\IsPart u o/\Q o H') X.xe s
def aLA:TO:=λ_ H Q=>Q none H
noncomputable def aRm(t:TE):TO:=λσ H Q=>t σ H λx H1=>∃i,x=.int i/\Q (some i) H1
variable {X:Cx}{e:Expr}{te:TE}{lo hi:Option Expr}{tl th:TO}{pos p2:Pos}
def aLV:PO X none aLA:=by intro za s σ H Q I h;exact AC ⟨none,H,I,.none,h⟩
theorem aMK(h:PE X e te):PO X (some e) (aRm te):=by
 intro za s σ H Q I hw;refine thn (h za s σ H _ I hw) λu s1 ⟨x,H1,I1,r1,q1⟩=>?_
 obtain⟨i,rfl,q⟩:=q1;obtain⟨t,rfl⟩:=r1;exact⟨some i,H1,I1,.int i t,q⟩
def SlR(X:Cx)(r:V->Option Int->Option Int->Hp->VK->Prop):Prop:=
 ∀ (za:List (BF×BI)) (s:BE) (σ:St) (H:Hp) (x:V) (v vl vu:BD) (lo hi:Option Int) (sl:BF) (Q:VK),Inv X za σ H s->RelV x v->s.heap.IsSliceOf sl vl vu .none->IsPart vl lo->IsPart vu hi->r x lo hi H Q->
  ∃T id,typeLookup (.type T) "__getitem__"=pure (some<|.builtin id)/\s.TypeIs v T/\AK (AG X.prog X.w) X.A (getItem v<|.ref sl) (EP X za σ Q) X.xe s
def tSl(r:V->Option Int->Option Int->Hp->VK->Prop)(te:TE)(tl th:TO):TE:=λσ H Q=>te σ H λx H1=>tl σ H1 λl H2=>th σ H2 λu H3=>r x l u H3 Q
theorem zE(hr:SlR X r)(he:PE X e te)(hl:PO X lo tl)(hu:PO X hi th):PE X (.Subscript e (.Slice lo hi none p2) pos) (tSl r te tl th):=by
 intro za s σ H Q I h;refine Subscript_<|thn (he za s σ H _ I h) λv s1 ⟨x,H1,I1,r1,q1⟩=>?_;refine wpAny_Slice<|thn (hl za s1 σ H1 _ I1 q1) λvl s2 ⟨l,H2,I2,pl,q2⟩=>thn (hu za s2 σ H2 _ I2 q2) λvu s3 ⟨u,H3,I3,pu,q3⟩=>?_;refine AC ?_;have I4:Inv X za σ H3 {s3 with heap:=s3.heap.push {cls:=.type "slice",data:=.fields #[vl,vu,.none]}}:=I3.kept λb ob q=>aD _ q
 obtain⟨T,id,hT,ht,hg⟩:=hr za {s3 with heap:=s3.heap.push {cls:=.type "slice",data:=.fields #[vl,vu,.none]}} σ H3 x v vl vu l u s3.heap.objs.size Q I4 r1 (Heap.IsSliceOf.new ..) pl pu q3;exact tail_any ht hT hg (by with_unfolding_all rfl)
def aKN(xs:List V)(lo hi:Option Int):List V:=(xs.drop<|HT.sIx xs.length 0 lo).take<|HT.sIx xs.length xs.length hi-HT.sIx xs.length 0 lo
theorem vM(xs:List V)(lo hi:Option Int):(aKN xs lo hi).length<=xs.length:=by unfold aKN;rw[cE,dY];lia
def rSlT(K:aB):V->Option Int->Option Int->Hp->VK->Prop:=λx lo hi H Q=>∃a xs,x=.ref a/\SqT K H a xs/\
 ¬ (HT.sIx xs.length 0 lo=0/\HT.sIx xs.length xs.length hi=xs.length)/\∀p,H p=none->Q (.ref p) (upd H p (.tup<|aKN xs lo hi))
def aOK:SlR X (rSlT X.K):=by
 intro za s σ H x v vl vu lo hi sl Q I rx hs pl pu h;obtain⟨a,xs,rfl,hx,hw,q⟩:=h;cases rx;obtain⟨its,r,ht,hz⟩:=I.tuple hx;have hlen:its.toArray.size=xs.length:=r.length.symm
 refine⟨"tuple",_,PyProof.Rows.slot_tuple_getitem.lookup,ht.typeIs,?_⟩;refine HT.getItem_tuple_cut ht hs pl pu (by rw[hlen];exact hw) ?_ (by rw[hlen];exact hz);rw[hlen];refine⟨.ref s.heap.objs.size,_,I.laid (λb ob q=>aD _ q) (aQ _) ?_,rfl,q _ (I.hok.fresh<|aQ _)⟩;exact⟨cJ (vM xs lo hi) hz,_,(r.drop<|HT.sIx xs.length 0 lo).take<|HT.sIx xs.length xs.length hi-HT.sIx xs.length 0 lo,IsTupD.new _ _⟩
def aRC(K:aB):R2:=λx y H Q=>∃a b xs ys,x=.ref a/\y=.ref b/\SqT K H a xs/\SqT K H b ys/\xs≠[]/\xs.length+ys.length<=AJ/\
 (ys=[]->Q (.ref a) H)/\(ys≠[]->∀p,H p=none->Q (.ref p) (upd H p (.tup<|xs++ys)))
def Vals.nil_iff(r:Vals xs us):us=[]↔xs=[]:=by
 cases r with
 |nil=>simp
 |cons _ _=>simp
def aMb:OpR X (Al .Add) (aRC X.K):=by intro za s σ H x y v u Q I rx ry h;obtain⟨a,b,xs,ys,rfl,rfl,ha,hb,hx,hz,q1,q2⟩:=h;cases rx;cases ry;obtain⟨its,r1,p1,_⟩:=I.tuple ha;obtain⟨its2,r2,p2,_⟩:=I.tuple hb;refine HT.cat_tup p1 p2 (λz=>hx<|r1.nil_iff.mp z) (λz=>⟨.ref a,H,I,rfl,q1<|r2.nil_iff.mp z⟩) (λz=>?_) (by rw[<-r1.length,<-r2.length];exact hz);refine⟨.ref s.heap.objs.size,_,I.laid (λb ob q=>aD _ q) (aQ _) ?_,rfl,q2 (λw=>z<|r2.nil_iff.mpr w) _ (I.hok.fresh<|aQ _)⟩;exact⟨by rw[aP];exact hz,_,r1.append r2,IsTupD.new _ _⟩
noncomputable def ixN(n:Nat)(i:Int):Option Nat:=if 0<=i then(if i<n then some i.toNat else none) else if -(n:Int)<=i then some (i+n).toNat else none
def atI{α:Type}(xs:List α)(i:Int):Option α:=(ixN xs.length i).bind λj=>xs[j]?
theorem aMn(h:ixN n i=some j):seqIndex? i n=some j/\j<n/\ -(n:Int)<=i/\i<n:=by
 unfold ixN at h
 by_cases h0:0<=i
 ·rw[zt h0] at h
  by_cases h1:i<n
  ·rw[zt h1] at h;have e:=bZ.inj h;exact⟨by rw[seqIndex_of h0 h1,e],by lia,by lia,h1⟩
  ·rw[zr h1] at h;cases h
 ·rw[zr h0] at h
  by_cases h1: -(n)<=i
  ·rw[zt h1] at h;have e:=bZ.inj h;exact⟨by rw[seqIndex_neg (by lia) h1,e],by lia,h1,by lia⟩
  ·rw[zr h1] at h;cases h
def aFn(h:atI xs i=some v):∃j,seqIndex? i xs.length=some j/\xs[j]? =some v/\j<xs.length/\ -(xs.length:Int)<=i/\i<xs.length:=by
 unfold atI at h;cases e:ixN xs.length i with
 |none=>rw[e] at h;cases h
 |some j=>rw[e] at h;obtain⟨h1,h2,h3,h4⟩:=aMn e;exact⟨j,h1,h,h2,h3,h4⟩
theorem aBs{j:Nat}{v:α}(h:xs[j]? =some v):atI xs (j:Int)=some v:=by
 have hj:=(aF.mp h).1
 have e:ixN xs.length (j)=some j:=by unfold ixN;rw[zt<|by lia,zt<|by lia];simp
 unfold atI;rw[e];exact h
def nD(b:Expr):Prop:=∀o i,subscripted b false o i=operate [o,i] (getItem o i)
def IxR(X:Cx)(r:R2):Prop:=
 ∀ (value slice:Expr) (za:List (BF×BI)) (s:BE) (σ:St) (H:Hp) (x y:V) (v u:BD) (Q:VK),Inv X za σ H s->RelV x v->RelV y u->r x y H Q->
  subscripted slice false v u=operate [v,u] (getItem v u)->AK (AG X.prog X.w) X.A (subscriptTail value slice v u) (EP X za σ Q) X.xe s
def MtR(X:Cx)(id:String)(r:V->List V->Hp->VK->Prop):Prop:=
 ∀ (za:List (BF×BI)) (s:BE) (σ:St) (H:Hp) (x:V) (xs:List V) (v:BD) (us:List BD) (Q:VK),Inv X za σ H s->RelV x v->Vals xs us->r x xs H Q->
  AK (AG X.prog X.w) X.A (call (.builtin id) (v::us)) (EP X za σ Q) X.xe s
section
variable {X:Cx}{a b:Expr}{ta tb:TE}{pos:Pos}
theorem aHK(hr:IxR X r)(ha:PE X a ta)(hb:PE X b tb)(hs:nD b):PE X (.Subscript a b pos) (tOp r ta tb):=by intro za s σ H Q I h;exact Subscript_ (aQL ha hb I h λv u s2 x y H2 I2 rx ry q=>hr a b za s2 σ H2 x y v u Q I2 rx ry q<|hs _ _)
def rIxL(K:aB):R2:=λx y H Q=>∃p xs i v,x=.ref p/\y=.int i/\SqL K H p xs/\atI xs i=some v/\Q v H
def rIxT(K:aB):R2:=λx y H Q=>∃p xs i v,x=.ref p/\y=.int i/\SqT K H p xs/\atI xs i=some v/\Q v H
theorem aBf:IxR X (rIxL X.K):=by
 intro value slice za s σ H x y v u Q I rx ry h hs;obtain⟨p,xs,i,z,rfl,rfl,hq,he,q⟩:=h;cases rx;obtain⟨t,rfl⟩:=ry;obtain⟨its,r,pl,hz⟩:=I.list hq;obtain⟨j,h1,h2,h3,h4,h5⟩:=aFn he;obtain⟨w,ew,rw'⟩:=r.get h2;have hl:=r.length;have hn:=aEN;have fin:EP X za σ Q w s:=⟨z,H,I,rw',q⟩
 by_cases h0:0<=i
 ·have hj:=by rw[seqIndex_of h0 h5] at h1;exact bZ.inj h1
  exact item_listR pl.isList h0 (by lia) (by rw[hj];simpa using ew) fin hs
 ·have hj:(i+(its.toArray.size)).toNat=j:=by rw[seqIndex_neg (by lia) h4] at h1;rw[bD,<-hl];exact bZ.inj h1
  exact subscriptTail_builtinR pl.isList.typeIs slot_list_getitem.lookup
   (wpAny_getItem_list_neg pl.isList (by lia) (by rw[bD]<;>lia) (by lia) (by rw[hj];simpa using ew) ⟨rfl,fin⟩) hs
theorem aPh:IxR X (rIxT X.K):=by
 intro value slice za s σ H x y v u Q I rx ry h hs;obtain⟨p,xs,i,z,rfl,rfl,hq,he,q⟩:=h;cases rx;obtain⟨t,rfl⟩:=ry;obtain⟨its,r,pl,hz⟩:=I.tuple hq;obtain⟨j,h1,h2,h3,h4,h5⟩:=aFn he;obtain⟨w,ew,rw'⟩:=r.get h2;have hl:=r.length;have hn:=aEN;have fin:EP X za σ Q w s:=⟨z,H,I,rw',q⟩
 exact subscriptTail_builtinR pl.typeIs slot_tuple_getitem.lookup
  (getItem_tuple pl (by lia) (by lia) (by rw[bD,<-hl];exact h1) (by simpa using ew) ⟨rfl,fin⟩) hs
theorem aAN(lo hi:Option Int)(n:Nat):(sliceBounds lo hi none n).1=((HT.sIx n 0 lo:Nat):Int)/\(sliceBounds lo hi none n).2.1=((HT.sIx n n hi:Nat):Int)/\(sliceBounds lo hi none n).2.2=1:=by
 refine⟨?_,?_,rfl⟩
 ·cases lo with
  |none=>simp[sliceBounds,HT.sIx]
  |some i=>
   simp only[sliceBounds,HT.sIx,aJs,show(1)>0 by decide,if_true]
   by_cases h:i<0
   ·simp only[h,if_true]<;>lia
   ·simp only[h,if_false]<;>lia
 ·cases hi with
  |none=>simp[sliceBounds,HT.sIx]
  |some i=>
   simp only[sliceBounds,HT.sIx,aJs,show(1)>0 by decide,if_true]
   by_cases h:i<0
   ·simp only[h,if_true]<;>lia
   ·simp only[h,if_false]<;>lia
def zV(its:List BD)(lo hi:Option Int):slicePick its.toArray lo hi none=((its.drop<|HT.sIx its.length 0 lo).take<|HT.sIx its.length its.length hi-HT.sIx its.length 0 lo).toArray:=by obtain⟨h1,h2,h3⟩:=aAN lo hi its.toArray.size;unfold slicePick;rw[h1,h2,h3];simp only[sliceRange_one,pick_run,bD]<;>rfl
def rSlL(K:aB):V->Option Int->Option Int->Hp->VK->Prop:=λx lo hi H Q=>∃a xs,x=.ref a/\SqL K H a xs/\∀p,H p=none->Q (.ref p) (upd H p (.lst<|aKN xs lo hi))
theorem aMY:SlR X (rSlL X.K):=by intro za s σ H x v vl vu lo hi sl Q I rx hs pl pu h;obtain⟨a,xs,rfl,hx,q⟩:=h;cases rx;obtain⟨its,r,ht,hz⟩:=I.list hx;have hlen:=r.length;refine⟨"list",_,slot_list_getitem.lookup,ht.isList.typeIs,?_⟩;refine wpAny_getItem_list_slice ht.isList hs pl pu .none (by simp) ?_ (by rw[bD]<;>lia);rw[zV,<-hlen];refine⟨.ref s.heap.objs.size,_,I.laid (λb ob q=>aD _ q) (aQ _) ?_,rfl,q _ (I.hok.fresh<|aQ _)⟩;exact⟨cJ (vM xs lo hi) hz,_,0,(r.drop<|HT.sIx xs.length 0 lo).take<|HT.sIx xs.length xs.length hi-HT.sIx xs.length 0 lo,bO _ rfl⟩
noncomputable def pG:V->Bool
 |.non=>true
 |.bl _=>true
 |.int _=>true
 |.str _=>true
 |_=>false
noncomputable def eqV:V->V->Bool
 |.non,.non=>true
 |.bl a,.bl b=>a==b
 |.bl a,.int b=>(if a then 1 else 0)==b
 |.int a,.bl b=>a==(if b then 1 else 0)
 |.int a,.int b=>a==b
 |.str a,.str b=>a==b
 |_,_=>false
def yR(ry:RelV y u)(rx:RelV x v)(fy:pG y=true)(fx:pG x=true):SeqAt.EqAt A s u v (eqV y x):=by
 cases y with
 |non=>
  cases ry;cases x with
  |non=>cases rx;exact SeqAt.EqAt.same _
  |bl b=>cases rx;exact SeqAt.EqAt.none_bool b
  |int b=>obtain⟨t,rfl⟩:=rx;exact SeqAt.EqAt.none_int b t
  |str b=>obtain⟨t,rfl⟩:=rx;exact SeqAt.EqAt.none_str b t
  |_=>exact absurd (fx) bM
 |bl a=>
  cases ry;cases x with
  |non=>cases rx;exact SeqAt.EqAt.bool_none a
  |bl b=>cases rx;exact SeqAt.EqAt.bool_bool a b
  |int b=>obtain⟨t,rfl⟩:=rx;exact SeqAt.EqAt.bool_int a b t
  |str b=>obtain⟨t,rfl⟩:=rx;exact SeqAt.EqAt.bool_str a b t
  |_=>exact absurd (fx) bM
 |int a=>
  obtain⟨t',rfl⟩:=ry;cases x with
  |non=>cases rx;exact SeqAt.EqAt.int_none a t'
  |bl b=>cases rx;exact SeqAt.EqAt.int_bool a t' b
  |int b=>obtain⟨t,rfl⟩:=rx;exact SeqAt.EqAt.int_int a t' b t
  |str b=>obtain⟨t,rfl⟩:=rx;exact SeqAt.EqAt.int_str a t' b t
  |_=>exact absurd (fx) bM
 |str a=>
  obtain⟨t',rfl⟩:=ry;cases x with
  |non=>cases rx;exact SeqAt.EqAt.str_none a t'
  |bl b=>cases rx;exact SeqAt.EqAt.str_bool a t' b
  |int b=>obtain⟨t,rfl⟩:=rx;exact SeqAt.EqAt.str_int a t' b t
  |str b=>obtain⟨t,rfl⟩:=rx;exact SeqAt.EqAt.str_str a t' b t
  |_=>exact absurd (fx) bM
 |_=>exact absurd (fy) bM
def eqU(x:V)(u:BD):Bool:=match u with
 |.none=>eqV .non x
 |.bool b=>eqV (.bl b) x
 |.int i _=>eqV (.int i) x
 |.str z _=>eqV (.str z) x
 |_=>false
def aKJ(r:RelV y u)(f:pG y=true):eqU x u=eqV y x:=by
 cases y with
 |non=>cases r;rfl
 |bl b=>cases r;rfl
 |int i=>obtain⟨t,rfl⟩:=r;rfl
 |str z=>obtain⟨t,rfl⟩:=r;rfl
 |_=>exact absurd (f) bM
theorem aBj:∀ {xs:List V}{us:List BD},Vals xs us->xs.all pG=true->us.any (eqU x)=xs.any λy=>eqV y x
 |_,_,.nil,_=>rfl
 |y::xs,u::us,.cons r t,f=>by rw[aQt,bU] at f;rw[lO,lO,aKJ r f.1,aBj t f.2]
theorem xU(rx:RelV x v)(fx:pG x=true):∀ {xs:List V}{us:List BD},Vals xs us->xs.all pG=true->∀u∈us,SeqAt.EqAt A s u v (eqU x u)
 |_,_,.nil,_=>λu hu=>by cases hu
 |y::xs,u::us,.cons r t,f=>λu' hu=>by
  rw[aQt,bU] at f
  rcases bL.mp hu with rfl|hu
  ·rw[aKJ r f.1];exact yR r rx f.1 fx
  ·exact xU rx fx t f.2 u' hu
def inV(x:V)(xs:List V):Bool:=xs.any λy=>eqV y x
def rIn(K:aB)(neg:Bool):R2:=λx y H Q=>∃p xs,y=.ref p/\(SqL K H p xs\/SqT K H p xs)/\pG x=true/\xs.all pG=true/\Q (.bl (if neg then !inV x xs else inV x xs)) H
def aGi:OpR X (AT .In) (rIn X.K false):=by
 intro za s σ H x y v u Q I rx ry h;obtain⟨p,xs,rfl,hq,fx,fs,q⟩:=h;cases ry
 rcases hq with hq|hq
 ·obtain⟨its,r,pl,hz⟩:=I.list hq;refine SeqAt.in_listAt (eqU x) pl.isList (λw hw=>xU rx fx r fs w<|by simpa using hw) ⟨.bl _,H,I,rfl,?_⟩;rw[show its.toArray.any (eqU x)=its.any (eqU x) by simp,aBj r fs];exact q
 ·obtain⟨its,r,pl,hz⟩:=I.tuple hq;refine SeqAt.in_tupleAt (eqU x) pl (λw hw=>xU rx fx r fs w<|by simpa using hw) ⟨.bl _,H,I,rfl,?_⟩;rw[show its.toArray.any (eqU x)=its.any (eqU x) by simp,aBj r fs];exact q
theorem oY:lA X (.builtin "len") (λxs H Q=>∃p ys,xs=[.ref p]/\(SqL X.K H p ys\/SqT X.K H p ys)/\Q (.int ys.length) H):=by
 intro za s σ H xs us Q I r h;obtain⟨p,ys,rfl,hq,q⟩:=h;obtain⟨u,rfl,rx⟩:=pF r;cases rx;have hn:=aEN
 rcases hq with hq|hq
 ·obtain⟨its,r',pl,hz⟩:=I.list hq;have hlen:=r'.length;exact Calls.call_len_list pl.isList (by simp <;>lia) ⟨.int ys.length,H,I.tok _,⟨s.toks+1,by rw[bD,hlen]⟩,q⟩
 ·obtain⟨its,r',pl,hz⟩:=I.tuple hq;have hlen:=r'.length;exact len_tuple pl (by simp <;>lia) ⟨.int ys.length,H,I.tok _,⟨s.toks+1,by rw[bD,hlen]⟩,q⟩
theorem aAL:lA X (.type "list") (λxs H Q=>∃p ys,xs=[.ref p]/\(SqL X.K H p ys\/SqT X.K H p ys)/\∀l,H l=none->Q (.ref l) (upd H l<|.lst ys)):=by
 intro za s σ H xs us Q I r h;obtain⟨p,ys,rfl,hq,q⟩:=h;obtain⟨u,rfl,rx⟩:=pF r;cases rx
 have fin:∀ (its:List BD),Vals ys its->ys.length<=AJ->∀ (h':BH) (c':Nat),(∀b o',s.heap.get? b=some o'->h'.get? b=some o')->
   h'.get? s.heap.objs.size=some {cls:=.type "list",dict:=none,data:=.seq its.toArray c',slots:= #[]}->EP X za σ Q (.ref s.heap.objs.size) {s with heap:=h'}:=λits r' hz h' c' kp e=>
  ⟨.ref s.heap.objs.size,_,I.laid kp (aQ _) (show ObjOk X.prog X.w _ h' _ (.lst ys) from⟨hz,its,c',r',e⟩),rfl,q _ (I.hok.fresh<|aQ _)⟩
 rcases hq with hq|hq
 ·obtain⟨its,r',pl,hz⟩:=I.list hq;have hlen:=r'.length;obtain⟨o,ho,hc,n,hd⟩:=pl.isList;exact call_list_seq p (.inl rfl) ho hc hd (λh' c' kp e=>fin its r' hz h' c' kp e) (by simp <;>lia)
 ·obtain⟨its,r',pl,hz⟩:=I.tuple hq;have hlen:=r'.length;obtain⟨o,ho,hc,n,hd⟩:=pl;exact call_list_seq p (.inr rfl) ho hc hd (λh' c' kp e=>fin its r' hz h' c' kp e) (by simp <;>lia)
theorem zX:lA X (.type "tuple") (λxs H Q=>∃p ys,xs=[.ref p]/\((SqL X.K H p ys/\∀l,H l=none->Q (.ref l) (upd H l<|.tup ys))\/(SqT X.K H p ys/\Q (.ref p) H))):=by
 intro za s σ H xs us Q I r h;obtain⟨p,ys,rfl,h⟩:=h;obtain⟨u,rfl,rx⟩:=pF r;cases rx
 rcases h with⟨hq,q⟩|⟨hq,q⟩
 ·obtain⟨its,r',pl,hz⟩:=I.list hq;have hlen:=r'.length;refine call_tuple_list pl.isList (λh' kp=>?_) (by simp <;>lia);have I1:Inv X za σ H {s with heap:=h'}:=I.kept kp
  have I2:Inv X za σ (upd H h'.objs.size<|.tup ys) {s with heap:=h'.push {cls:=.type "tuple",data:=.seq its.toArray}}:=
   I1.laid (λb o e=>aD _ e) (aQ _) (⟨hz,its,r',IsTupD.new _ _⟩)
  exact⟨.ref h'.objs.size,_,I2,rfl,q _ (I1.hok.fresh<|aQ _)⟩
 ·obtain⟨its,r',pl,hz⟩:=I.tuple hq;exact call_tuple_same pl ⟨.ref p,H,I,rfl,q⟩
def tyV(K:aB)(T:String)(x:V)(H:Hp):Prop:=match x with
 |.str _=>T="str"
 |.int _=>T="int"
 |.ref p=>(T="list"/\∃xs,SqL K H p xs)\/(T="tuple"/\∃o,K.lookup p=some o/\o.cls=.type "tuple"/\o.dict=none)\/
   (T="dict"/\((∃kvs,H p=some (.dK kvs))\/∃kvs,H p=some (.dT kvs)))\/(T="set"/\∃S n,H p=some (.set S n))
 |_=>False
def aPn{σ:St}(I:Inv X za σ H s)(r:RelV x v)(ty:tyV X.K T x H):s.TypeIs v T/\∀a,v=.ref a->∃ob,s.heap.get? a=some ob/\ob.dict=none:=by
 cases x with
 |str z=>obtain⟨t,rfl⟩:=r;cases(ty);exact⟨typeIs_str s z t,λ_ e=>nomatch e⟩
 |int i=>obtain⟨t,rfl⟩:=r;cases(ty);exact⟨typeIs_int s i t,λ_ e=>nomatch e⟩
 |ref p=>
  cases r
  rcases ty with⟨rfl,xs,hq⟩|⟨rfl,o,hk,hc,hd⟩|⟨rfl,hk⟩|⟨rfl,S,n,hk⟩
  ·obtain⟨its,_,pl,_⟩:=I.list hq;refine⟨pl.isList.typeIs,λa e=>?_⟩;cases e;obtain⟨o,n,e,c,hd,_⟩:=pl;exact⟨o,e,hd⟩
  ·refine⟨⟨o,I.kIn p o hk,hc⟩,λa e=>?_⟩;cases e;exact⟨o,I.kIn _ o hk,hd⟩
  ·have z:∃o,s.heap.get? p=some o/\o.ExactDict:=by
    rcases hk with⟨kvs,hk⟩|⟨kvs,hk⟩
    ·obtain⟨_,_,_,_,o,_,_,e,ex,_⟩:=I.hok p _ hk;exact⟨o,e,ex⟩
    ·obtain⟨_,_,_,_,o,_,_,e,ex,_⟩:=I.hok p _ hk;exact⟨o,e,ex⟩
   obtain⟨o,e,ex⟩:=z;refine⟨⟨o,e,ex.1⟩,λa e2=>?_⟩;cases e2;exact⟨o,e,ex.2.1⟩
  ·obtain⟨o,_,_,_,e,ex,_⟩:=I.hok p _ hk;refine⟨⟨o,e,ex.1⟩,λa e2=>?_⟩;cases e2;exact⟨o,e,ex.2.1⟩
 |_=>exact False.elim ty
def tBM(K:aB)(T:String)(r:V->List V->Hp->VK->Prop)(to:TE)(t:TA):TE:=λσ H Q=>to σ H λx H1=>tyV K T x H1/\t σ H1 λxs H2=>r x xs H2 Q
variable {o e:Expr}{es:List Expr}{to:TE}{t:TA}{name:Str}{apos cpos:Pos}{T id:String}{r:V->List V->Hp->VK->Prop}
theorem aLp(pa:PlainAttrs T)(slot:Slot T name id)(hty:typeOf (.builtin id)=pure (.type "method_descriptor"))(hm:MtR X id r)(ho:PE X o to)(ha:PA X (e::es) t)(hbase:Ag o name X.env (eval o X.env)=eval o X.env:=by rfl)(hfew:((AV cpos (AB (e::es) X.env)).all (fun x=> !x.1) && (backToKw cpos (keywordEach [] X.env)).all (fun x=>x.1.isSome)
  &&decide ((e::es).length+([]:List Keyword).length+(if([]:List Keyword).isEmpty then 0 else 1)<30))=true:=by rfl)
  (hline:(apos.endLine==cpos.line)=true:=by rfl) (hs:AB (e::es) X.env=(false,eval e X.env)::AB es X.env:=by rfl) (hplain:(AV cpos<|AB es X.env).any (·.1)=false:=by rfl):
  PE X (.Call (.Attribute o name apos) (e::es) [] cpos) (tBM X.K T r to t):=by
 intro za s σ H Q I h;refine wpAny_Call_method_late hbase hfew hline rfl<|thn (ho za s σ H _ I h) λv s1 ⟨x,H1,I1,r1,ty,q1⟩=>?_;obtain⟨h1,h2⟩:=aPn I1 r1 ty;refine⟨T,id,pa,slot,hty,h1,h2,?_⟩;have hA:=ha cpos za s1 σ H1 _ I1 q1;rw[hs] at hA ⊢;refine Calls.callWith_builtin (by show(false||(AV cpos<|AB es X.env).any (·.1))=false;rw[hplain]<;>rfl)<|Calls.evalArgs_plain ?_;exact thn hA λus s2 ⟨vs,H2,I2,r2,q2⟩=>hm za s2 σ H2 x vs v us Q I2 r1 r2 q2
/- xs.append(e),list.index on a module's tuple .. are MtR facts of 06m -/
end
def MtM(X:Cx)(id:String)(r:V->List V->Hp->VK->Prop):Prop:=
 ∀ (za:List (BF×BI)) (s:BE) (σ:St) (H:Hp) (x:V) (xs:List V) (v:BD) (us:List BD) (Q:VK),Inv X za σ H s->RelV x v->Vals xs us->r x xs H Q->
  AK (AG X.prog X.w) X.A (call (.builtin id) (v::us)) (EP X za σ Q) X.xe s
def Vals.one:∀ {x:V}{us:List BD},Vals [x] us->∃u,us=[u]/\RelV x u
 |_,_,.cons r .nil=>⟨_,rfl,r⟩
def Vals.rep(h:Vals xs us):∀k:Nat,Vals (bP k xs).flatten (bP k us).flatten
 |0=>.nil
 |k+1=>Vals.append h (Vals.rep h k)
theorem aAH(its:List BD):∀ (k:Nat) (acc:List BD),
  List.foldl (λx1 x2=>x1++x2) acc.toArray (bP k its.toArray)=(acc++(bP k its).flatten).toArray
 |0,acc=>by simp
 |k+1,acc=>by
  have e:acc.toArray++its.toArray=(acc++its).toArray:=by simp
  have e2:(acc++its)++(bP k its).flatten=acc++(bP (k+1) its).flatten:=by rw[jM,vO,dP]
  rw[<-e2,<-aAH its k (acc++its),<-e,jM,aNK]
variable {za:List (BF×BI)}{σ:St}{H:Hp}{s:BE}{l b:BF}{xs ys zs:List V}
def Inv.lset{its its':List BD}(I:Inv X za σ H s)(hH:H l=some (.lst xs))(e:s.heap.get? l=some {cls:=.type "list",data:=.seq its.toArray n}) (hf:f its.toArray=its'.toArray) (hv:Vals ys its') (hz:ys.length<=AJ):Inv X za σ (upd H l<|.lst ys) {s with heap:=s.heap.update l<|Obj.mapSeq f,toks:=t'}:=by
 have q:=PySem.IsL.update e f;rw[hf] at q;refine I.write (by rw[hH];exact trivial) (.inl rfl) (λb' u hb hu=>(cW s.heap (Obj.mapSeq f)<|Ne.symm hb).trans hu) ⟨_,q⟩ ?_;exact⟨hz,its',_,hv,q⟩
def Inv.lnew(I:Inv X za σ H s)(hv:Vals ys its)(hz:ys.length<=AJ):Inv X za σ (upd H s.heap.objs.size<|.lst ys) {s with heap:=s.heap.push {cls:=.type "list",data:=.seq its.toArray},toks:=t'}:=
 I.laid (λ_ _ q=>aD _ q) (aQ _) ⟨hz,its,0,hv,bO _ rfl⟩
def Inv.fresh(I:Inv X za σ H s):H s.heap.objs.size=none:=I.hok.fresh<|aQ _
def Inv.lstM(I:Inv X za σ H s)(hH:H l=some (.lst xs)):xs.length<=AJ/\∃ (its:List BD) (n:Nat),Vals xs its/\xs.length=its.length/\s.heap.get? l=some {cls:=.type "list",data:=.seq its.toArray n}:=by obtain⟨z,its,n,r,e⟩:=I.hok l _ hH;exact⟨z,its,n,r,r.length,e⟩
theorem aCH(h:n<=AJ):Builtin.List.listTooLong n=false:=decide_eq_false (by lia)
def wP:V->List V->Hp->VK->Prop:=λx vs H Q=>∃l xs y,x=.ref l/\vs=[y]/\H l=some (.lst xs)/\xs.length<AJ/\Q .non (upd H l (.lst<|xs++[y]))
theorem aAC:MtM X "list.append" wP:=by intro za s σ H x vs v us Q I rx rv h;obtain⟨l,xs,y,rfl,rfl,hH,hz,q⟩:=h;cases rx;obtain⟨u,rfl,ru⟩:=rv.one;obtain⟨z,its,n,r,hl,e⟩:=I.lstM hH;refine call_meets F.slot_list_append ⟨_,e,rfl⟩ F.entry_list_append (F.args_list_append_2 _ _) (PySem.list_append l its.toArray n u<|by rw[bD];lia) ⟨e,?_⟩;refine⟨.non,_,I.lset hH e (by simp) (r.append<|.cons ru .nil) ?_,rfl,q⟩;rw[aP,List.length_singleton];omega
def aFw:V->List V->Hp->VK->Prop:=λx vs H Q=>∃l b xs zs,x=.ref l/\vs=[.ref b]/\H l=some (.lst xs)/\H b=some (.lst zs)/\xs.length+zs.length<=AJ/\Q .non (upd H l (.lst<|xs++zs))
theorem aGS:MtM X "list.extend" aFw:=by
 intro za s σ H x vs v us Q I rx rv h;obtain⟨l,b,xs,zs,rfl,rfl,hH,hB,hz,q⟩:=h;cases rx;obtain⟨u,rfl,ru⟩:=rv.one;cases ru;obtain⟨z,its,n,r,hl,e⟩:=I.lstM hH;obtain⟨z2,its2,n2,r2,hl2,e2⟩:=I.lstM hB;have hsz:its.toArray.size+its2.toArray.size<=AJ:=by rw[bD,bD];lia
 have hlong:¬ (!its.toArray.isEmpty&&Builtin.List.listTooLong (its.toArray.size+its2.toArray.size))=true:=by rw[aCH hsz,Bool.and_false];exact bM
 refine call_meets F.slot_list_extend ⟨_,e,rfl⟩ F.entry_list_extend (F.args_list_extend_2 _ _)
  (AutoSeq1.list_extend_list_list_0 l its.toArray n b its2.toArray n2 hlong (by lia)<|by lia) ⟨e,e2,?_⟩
 refine⟨.non,_,I.lset hH e (by simp) (r.append r2) ?_,rfl,q⟩;rw[aP];omega
def rCat:R2:=λx y H Q=>∃l b xs zs,x=.ref l/\y=.ref b/\H l=some (.lst xs)/\H b=some (.lst zs)/\xs.length+zs.length<=AJ/\∀p,H p=none->Q (.ref p) (upd H p (.lst<|xs++zs))
theorem aQe:OpR X (Al .Add) rCat:=by
 intro za s σ H x y v u Q I rx ry h;obtain⟨l,b,xs,zs,rfl,rfl,hH,hB,hz,q⟩:=h;cases rx;cases ry;obtain⟨z,its,n,r,hl,e⟩:=I.lstM hH;obtain⟨z2,its2,n2,r2,hl2,e2⟩:=I.lstM hB;refine PySem.P.add_list e e2 ?_ (by rw[bD,bD];lia);have ea:its.toArray++its2.toArray=(its++its2).toArray:=by simp
 rw[ea];exact⟨.ref _,_,I.lnew (r.append r2) (by rw[aP];omega),rfl,q _ I.fresh⟩
def rRep:R2:=λx y H Q=>∃l k xs,x=.ref l/\y=.int k/\H l=some (.lst xs)/\ -(2^63)<=k/\k<2^63/\xs.length*k.toNat<=AJ/\
 ∀p,H p=none->Q (.ref p) (upd H p<|.lst (bP k.toNat xs).flatten)
def aMp{α:Type}(xs:List α)(k:Nat):(bP k xs).flatten.length=k*xs.length:=by
 induction k with
 |zero=>simp
 |succ k ih=>rw[jM,vO,aP,ih,aHl,aSA]
theorem aOV:OpR X (Al .Mult) rRep:=by
 intro za s σ H x y v u Q I rx ry h;obtain⟨l,k,xs,rfl,rfl,hH,h1,h2,hz,q⟩:=h;cases rx;obtain⟨t,rfl⟩:=ry;obtain⟨z,its,n,r,hl,e⟩:=I.lstM hH;have hlen:its.toArray.size*k.toNat<=AJ:=by rw[bD,<-hl];exact hz
 have hcap:¬ its.toArray.size*k.toNat>(2^63-1) / 8:=by
  have:(AJ)<=(2^63-1) / 8:=by decide
  lia
 have hfit:¬ (!Builtin.List.listFitsIndex k)=true:=by rw[fitsIndex_both h1 h2];exact bM
 have hlong:¬ Builtin.List.listTooLong (its.toArray.size*k.toNat)=true:=by rw[aCH hlen];exact bM
 have hnew:List.foldl (λx1 x2=>x1++x2) #[] (bP (if its.toArray.isEmpty=true then 0 else k.toNat) its.toArray)=(bP k.toNat its).flatten.toArray:=by
  have f0:=λm=>by have:=aAH its m [];rw[aNL] at this;exact this
  rw[f0];cases its with
  |nil=>simp
  |cons a r'=>rw[zr<|by simp]
 refine wpAny_binaryOp_repeat_ref (by decide) ⟨_,e,rfl⟩ (λs'=>typeIs_int s' k t) noFill_list_mul F.fills_int_mul F.slot_int_rmul repeat_list F.slot_int_index.lookup
  (call_meets F.slot_int_rmul (typeIs_int s k t) F.entry_int_rmul (F.args_int_rmul_2 _ _) (int___rmul___int_list k t l its.toArray n)
   ⟨e,rfl,⟨_,e,rfl⟩,call_meets F.slot_list_mul ⟨_,e,rfl⟩ F.entry_list_mul (F.args_list_mul_2 _ _) (AutoListH.list___mul___list_int_3 l its.toArray n k t hfit hcap hlong) ⟨e,?_⟩⟩)
 rw[hnew];exact⟨.ref _,_,I.lnew (r.rep k.toNat) (by rw[aMp,Nat.mul_comm];exact hz),rfl,q _ I.fresh⟩
section
variable {prog:AD}{w:AL}{A:BG}{E:BD->BE->Prop}{s:BE}
set_option maxRecDepth 100000 in
end
section
variable {κ:Type}[DecidableEq κ]
noncomputable def jG(kvs:List (κ×V))(k:κ):Option V:=(kvs.find? λkv=>decide<|kv.1=k).map (·.2)
noncomputable def tX(kvs:List (κ×V))(k:κ)(v:V):List (κ×V):=
 if(kvs.any λkv=>decide<|kv.1=k)=true then kvs.map (λkv=>if kv.1=k then(kv.1,v) else kv) else kvs++[(k,v)]
def jW{k:κ}(e:p.1=k):jG (p::r) k=some p.2:=by simp[jG,gT,e]
def iG{k:κ}(e:¬ p.1=k):jG (p::r) k=jG r k:=by simp[jG,gT,e]
theorem xI(k:κ):∀kvs:List (κ×V),(kvs.any λkv=>decide<|kv.1=k)=(jG kvs k).isSome
 |[]=>rfl
 |p::r=>by
  rw[lO]
  by_cases e:p.1=k
  ·simp only[jW e,decide_eq_true e,Bool.true_or,Option.isSome_some]
  ·rw[iG e,decide_eq_false e];exact xI k r
theorem vJ(kvs:List (κ×V))(k:κ)(v:V):(tX kvs k v).length<=kvs.length+1:=by
 unfold tX
 split
 ·rw[aC];lia
 ·rw[aP,bJ,iP];omega
def tH{k:κ}(v:V)(h:jG kvs k=none):tX kvs k v=kvs++[(k,v)]:=by unfold tX;rw[xI,h];exact zr<|by decide
def RelO.isSome_eq(r:RelO o u):o.isSome=u.isSome:=by
 cases o with
 |none=>cases u with
  |none=>rfl
  |some _=>exact(r).elim
 |some _=>cases u with
  |none=>exact(r).elim
  |some _=>rfl
def KV.val(r:KV kvs vs)(k:κ):RelO (jG kvs k) (valueAt vs k):=by
 induction r with
 |nil=>exact True.intro
 |@cons p q ps qs h t ih=>
  obtain⟨h1,h2⟩:=h
  by_cases e:p.1=k
  ·have e':=h1.symm.trans e;have b:valueAt (q::qs) k=some q.2:=by simp[valueAt,gT,e']
   rw[jW e,b];exact h2
  ·have e':¬ q.1=k:=λz=>e (h1.trans z)
   have b:valueAt (q::qs) k=valueAt qs k:=by simp[valueAt,gT,e']
   rw[iG e,b];exact ih
def KV.any(r:KV kvs vs)(k:κ):(kvs.any λkv=>decide<|kv.1=k)=vs.any λkv=>decide (kv.1=k):=by
 induction r with
 |nil=>rfl
 |cons h t ih=>rw[lO,lO,ih,h.1]
def KV.repl(r:KV kvs vs)(k:κ)(ry:RelV y u):KV (kvs.map λkv=>if kv.1=k then(kv.1,y) else kv) (vs.map λkv=>if kv.1=k then(kv.1,u) else kv):=by
 induction r with
 |nil=>exact .nil
 |@cons p q ps qs h t ih=>
  rw[cA,cA];refine .cons ?_ ih;obtain⟨h1,h2⟩:=h
  by_cases e:p.1=k
  ·rw[zt e,zt<|h1.symm.trans e];exact⟨h1,ry⟩
  ·rw[zr e,zr (λz=>e<|h1.trans z)];exact⟨h1,h2⟩
def KV.put(r:KV kvs vs)(k:κ)(ry:RelV y u):KV (tX kvs k y) (stored vs k u):=by
 unfold tX stored;rw[r.any k]
 by_cases e:(vs.any λkv=>decide<|kv.1=k)=true
 ·rw[zt e,zt e];exact r.repl k ry
 ·rw[zr e,zr e];exact Paired.snoc r ⟨rfl,ry⟩
def KV.length(r:KV kvs vs):kvs.length=vs.length:=Paired.length r
end
def aHz(r:RelV (kV k) u):(fA P w).is k u=true:=by
 cases k with
 |inl i=>obtain⟨t,e⟩:=(r);subst e;exact aBH P w i t
 |inr x=>obtain⟨t,e⟩:=(r);subst e;exact aBK P w x t
theorem aAz:∀ {ks:List Key}{us:List BD},Vals (ks.map kV) us->ItemsAre (fA P w) ks us
 |[],_,r=>by cases r;exact .nil
 |k::ks,_,r=>by
  cases r with
  |cons h t=>exact .cons (aHz h)<|aAz t
abbrev KT(H:Hp):List (List Key×V)->List (List Key×BF×BD)->Prop:=Paired λp q=>p.1=q.1/\H q.2.1=some (.tup<|p.1.map kV)/\RelV p.2 q.2.2
def KT.val{xs:List (List Key×BF×BD)}(r:KT H kvs xs)(k:List Key):RelO (jG kvs k) ((atKey xs k).map (·.2)):=by
 induction r with
 |nil=>exact True.intro
 |@cons p q ps qs h t ih=>
  obtain⟨h1,_,h2⟩:=h
  by_cases e:p.1=k
  ·have e':=h1.symm.trans e;have b:atKey (q::qs) k=some q.2:=by simp[atKey,gT,e']
   rw[jW e,b];exact h2
  ·have e':¬ q.1=k:=λz=>e (h1.trans z)
   have b:atKey (q::qs) k=atKey qs k:=by simp[atKey,gT,e']
   rw[iG e,b];exact ih
def KT.repl{xs:List (List Key×BF×BD)}(r:KT H kvs xs)(k:List Key)(ry:RelV y u):KT H (kvs.map λkv=>if kv.1=k then(kv.1,y) else kv) (xs.map<|putAt k u):=by
 induction r with
 |nil=>exact .nil
 |@cons p q ps qs h t ih=>
  rw[cA];refine .cons ?_ ih;obtain⟨h1,h2,h3⟩:=h;unfold putAt
  by_cases e:p.1=k
  ·rw[zt e,zt<|h1.symm.trans e];exact⟨h1,h2,ry⟩
  ·rw[zr e,zr (λz=>e<|h1.trans z)];exact⟨h1,h2,h3⟩
def KT.put{xs:List (List Key×BF×BD)}(r:KT H kvs xs)(k:List Key)(hb:H b=some (.tup<|k.map kV))(ry:RelV y u):KT H (tX kvs k y) (storedH xs k b u):=by
 have e:(kvs.any λkv=>decide<|kv.1=k)=(atKey xs k).isSome:=by rw[xI,(r.val k).isSome_eq,uL]
 unfold tX storedH;rw[e]
 by_cases q:(atKey xs k).isSome=true
 ·rw[zt q,zt q];exact r.repl k ry
 ·rw[zr q,zr q];exact Paired.snoc r ⟨rfl,hb,ry⟩
def KT.keeps{xs:List (List Key×BF×BD)}(r:KT H kvs xs)(ht:∀b ys,H b=some (.tup ys)->H' b=some (.tup ys)):KT H' kvs xs:=
 Paired.mapP r λ_ _ z=>⟨z.1,ht _ _ z.2.1,z.2.2⟩
variable {P:AD}{w:AL}{h:BH}{a:BF}
def aOj(ok:HOk P w H h)(e:Rd H a u):ObjOk P w H h a u:=e.ok ok
def aHB(ok:HOk P w H h)(e:Rd H a (.dK kvs)):kvs.length<=AJ/\(a==Aa)=false/\∃vs,KV kvs vs/\h.DictOf (fA P w) a vs:=
 aOj ok e
def aRI(ok:HOk P w H h)(e:H a=some (.dK kvs)):kvs.length<=AJ/\(a==Aa)=false/\∃vs,KV kvs vs/\h.DictOf (fA P w) a vs:=aHB ok<|.inl e
def nJ(ok:HOk P w H h)(e:H a=some (.tup<|ks.map kV)):(Ak<|fA P w).is h ks a:=by obtain⟨_,its,r,o,h1,h2,⟨n,h3⟩,_⟩:=(ok a _ e);exact⟨o,its.toArray,n,h1,h2,h3,by simpa using aAz r⟩
def aHH(ok:HOk P w H h)(e:Rd H a (.dT kvs)):kvs.length<=AJ/\(a==Aa)=false/\
  ∃xs,KT H kvs xs/\h.DictOfH (Ak<|fA P w) a xs:=by
 obtain⟨z,y,xs,r,o,es,ep,h1,h2,h3,h4,h5⟩:=(aOj ok e);refine⟨z,y,xs,r,o,es,ep,h1,h2,h3,h4,λx hx=>?_,h5⟩
 have all:∀ {l:List (List Key×V)}{m:List (List Key×BF×BD)},KT H l m->∀x∈m,(Ak<|fA P w).is h x.1 x.2.1:=by
  intro l m q
  induction q with
  |nil=>intro x hx;exact nomatch hx
  |@cons p q ps qs hq t ih=>
   intro x hx
   rcases bL.mp hx with e|hx
   ·subst e;exact nJ ok (by rw[<-hq.1];exact hq.2.1)
   ·exact ih x hx
 exact all r x hx
def aRj(ok:HOk P w H h)(e:H a=some (.dT kvs)):kvs.length<=AJ/\(a==Aa)=false/\
  ∃xs,KT H kvs xs/\h.DictOfH (Ak<|fA P w) a xs:=aHH ok<|.inl e
def aNC(H:Hp)(a:BF)(y:V)(r:Option V):Prop:=
 (∃kvs k,Rd H a (.dK kvs)/\y=kV k/\r=jG kvs k)\/∃kvs k b,Rd H a (.dT kvs)/\y=.ref b/\H b=some (.tup<|k.map kV)/\r=jG kvs k
def DPut(H:Hp)(a:BF)(y v:V)(H':Hp):Prop:=
 (∃kvs k,H a=some (.dK kvs)/\y=kV k/\kvs.length<AJ/\H'=upd H a (.dK<|tX kvs k v))\/
 ∃kvs k b,H a=some (.dT kvs)/\y=.ref b/\H b=some (.tup<|k.map kV)/\kvs.length<AJ/\H'=upd H a (.dT<|tX kvs k v)
def DPut.k{k:Key}(e:H a=some (.dK kvs))(hl:kvs.length<AJ):DPut H a (kV k) v (upd H a (.dK<|tX kvs k v)):=.inl ⟨kvs,k,e,rfl,hl,rfl⟩
variable {y v:V}{u r:BD}{o:Option V}{A:BG}{E:BD->BE->Prop}
def Inv.big(I:Inv X za σ H s):Aa<s.heap.objs.size:=by have h:=(I.mod.glob.keeps I.bk).lt;exact qF (by decide) h
def aHa(hu:A.units+1<AR)(I:Inv X za σ H s)(g:aNC H a y (some v))(ry:RelV y u)(h:∀w' s',Inv X za σ H s'->RelV v w'->Q w' s'):AK (AG X.prog X.w) A (getItem (.ref a) u) Q E s:=by
 rcases g with⟨kvs,k,e,ey,l⟩|⟨kvs,k,b,e,ey,eb,l⟩
 ·subst ey;obtain⟨z,hd,vs,rel,dd⟩:=aHB I.hok e;obtain⟨w',hw,rw'⟩:=RelO.some_of (by rw[l];exact rel.val k);exact wpAny_getItem_of (aHz ry) dd.mapOf hw<|h w' _ (I.tok _) rw'
 ·subst ey;cases(ry);obtain⟨z,hd,xs,rel,dd⟩:=aHH I.hok e;obtain⟨w',hw,rw'⟩:=RelO.some_of (by rw[l];exact rel.val k);obtain⟨p,hp,hp2⟩:=eV.mp hw;refine wpAny_getItem_heap (Af hu) (nJ I.hok eb) dd hp ?_;rw[hp2];exact h w' _ (I.tok _) rw'
def aLK(hu:A.units+1<AR)(I:Inv X za σ H s)(g:aNC H a y o)(ry:RelV y u)(h:∀s',Inv X za σ H s'->Q (.bool<|!o.isSome) s'):AK (AG X.prog X.w) A (AT .NotIn u<|.ref a) Q E s:=by
 rcases g with⟨kvs,k,e,ey,l⟩|⟨kvs,k,b,e,ey,eb,l⟩
 ·subst ey;obtain⟨z,hd,vs,rel,dd⟩:=aHB I.hok e;refine wpAny_notIn_of (aHz ry) hd dd.mapOf ?_;rw[<-(rel.val k).isSome_eq,<-l];exact h _<|I.tok _
 ·subst ey;cases(ry);obtain⟨z,hd,xs,rel,dd⟩:=aHH I.hok e;refine wpAny_notIn_heap (Af hu) (nJ I.hok eb) hd dd ?_;have q:=(rel.val k).isSome_eq;rw[uL] at q;rw[<-q,<-l];exact h _<|I.tok _
def qK(I:Inv X za σ H s)(mu:Mut (H a))(hs:Heap.SameBut a s.heap h')(he:∃q,h'.get? a=some q)(new:ObjOk X.prog X.w (upd H a ob) h' a ob):Inv X za σ (upd H a ob) {s with heap:=h',toks:=t'}:=
 I.write mu (.inl rfl) (λb q hb z=>(hs.2 b hb).trans z) he new
def aOR(z:kvs.length<=AJ)(hd:(a==Aa)=false)(rel:KV kvs vs)(dd:h'.DictOf (fA P w) a vs):ObjOk P w H' h' a (.dK kvs):=⟨z,hd,vs,rel,dd⟩
theorem aGR(hu:A.units+1<AR)(I:Inv X za σ H s)(g:DPut H a y v H')(ry:RelV y u)(rv:RelV v r)(h:∀s',Inv X za σ H' s'->Q () s'):AK (AG X.prog X.w) A (setItem (.ref a) u r) Q E s:=by
 rcases g with⟨kvs,k,e,ey,l,eH⟩|⟨kvs,k,b,e,ey,eb,l,eH⟩
 ·subst ey eH;obtain⟨z,hd,vs,rel,dd⟩:=aRI I.hok e;have hz:vs.length<=AJ:=by rw[<-rel.length];exact z
  have hl:(tX kvs k v).length<=AJ:=by have:=vJ kvs k v;lia
  refine wpAny_setItem_pairs (hsz:=hz) (aHz ry) dd λh' dd' hs=>h _ ?_
  have he:∃q,h'.get? a=some q:=let ⟨q,_,_,hq,_⟩:=dd';⟨q,hq⟩
  exact qK I (by rw[e];exact True.intro) hs he<|aOR hl hd (rel.put k rv) dd'
 ·subst ey eH;cases(ry);obtain⟨z,hd,xs,rel,dd⟩:=aRj I.hok e;have hz:xs.length<=AJ:=by rw[<-Paired.length rel];exact z
  have hl:(tX kvs k v).length<=AJ:=by have:=vJ kvs k v;lia
  refine wpAny_setItem_heap (hsz:=hz) (Af hu) (nJ I.hok eb) dd λh' dd' hs=>h _ ?_
  obtain⟨q,es,ep,hq,h2,h3,h4,_,h5⟩:=dd';refine qK I (by rw[e];exact True.intro) hs ⟨q,hq⟩ ⟨hl,hd,_,(rel.put k eb rv).keeps λc ys ec=>?_,q,es,ep,hq,h2,h3,h4,h5⟩;rw[aW<|aRD ec e λz=>nomatch z];exact ec
def aQl(i:Expr):Prop:=∀ov iv,subscripted i false ov iv=operate [ov,iv] (getItem ov iv)
def aEZ{T id:String}(hl:typeLookup (.type T) "__getitem__"=pure (some<|.builtin id)) (hs:aQl slice)(h:AK (AG prog w) A (eval value env) (λo s₁=>AK (AG prog w) A (eval slice env) (λi s₂=>s₂.TypeIs o T/\AK (AG prog w) A (getItem o i) Q E s₂) E s₁) E s):AK (AG prog w) A (eval (.Subscript value slice pos) env) Q E s:=by
 refine Subscript_<|AU h (λo s₁ h₁=>AU h₁ (λi s₂ h₂=>?_) λ_ _ x=>x) λ_ _ x=>x;obtain⟨hT,h₂⟩:=h₂;refine AA ?_;refine AA<|wpAny_specialOf hT hl ?_
 have fin:AK (AG prog w) A (subscripted slice false o i) (λr s₃=>AK (AG prog w) A (letTemporaryGo value o r>>=λ_=>pure r) Q E s₃) E s₂:=by rw[hs o i];exact wpAny_operating<|AU h₂ (λr s₃ h₃=>AA (wpAny_letTemporaryGo<|AC h₃)) λ_ _ x=>x
 first
  |exact AC (AA fin)
  |exact AA (AC<|AA fin)
  |exact AA fin
def aBN(I:Inv X za σ H s)(g:aNC H a y o):s.TypeIs (.ref a) "dict":=by
 rcases g with⟨kvs,k,e,_,_⟩|⟨kvs,k,b,e,_,_,_⟩
 ·obtain⟨_,_,vs,_,dd⟩:=aHB I.hok e;exact dd.typeIs
 ·obtain⟨_,_,xs,_,dd⟩:=aHH I.hok e;exact dd.typeIs
def aQZ(td ty:TE):TE:=λσ H Q=>td σ H λx H1=>ty σ H1 λy H2=>∃a v,x=.ref a/\aNC H2 a y (some v)/\Q v H2
def aMR(ty td:TE):TE:=λσ H Q=>ty σ H λy H1=>td σ H1 λx H2=>∃a o,x=.ref a/\aNC H2 a y o/\Q (.bl<|!o.isSome) H2
def aRg(td ty tv:TE):TS:=λD σ H=>tv σ H λv H1=>td σ H1 λx H2=>ty σ H2 λy H3=>∃a H4,x=.ref a/\DPut H3 a y v H4/\D.nx σ H4
variable {o i value:Expr}{pos' tpos:Pos}{td ty tv:TE}
theorem aMf(hu:X.A.units+1<AR)(ho:PE X o td)(hi:PE X i ty)(hs:aQl i):PE X (.Subscript o i pos) (aQZ td ty):=by intro za s σ H Q I h;refine aEZ zQ.lookup hs<|thn (ho za s σ H _ I h) λu s1 ⟨x,H1,I1,rx,q1⟩=>thn (hi za s1 σ H1 _ I1 q1) λiv s2 ⟨y,H2,I2,ry,a,v,ex,g,q2⟩=>?_;subst ex;obtain rfl:u=Value.ref a:=rx;exact⟨aBN I2 g,aHa hu I2 g ry λw' s3 I3 rw'=>⟨v,H2,I3,rw',q2⟩⟩
theorem aGY(hu:X.A.units+1<AR)(hi:PE X i ty)(ho:PE X o td):PC X .NotIn i o (aMR ty td):=by
 intro za s σ H Q I h;refine thn (hi za s σ H _ I h) λiv s1 ⟨y,H1,I1,ry,q1⟩=>thn (ho za s1 σ H1 _ I1 q1) λu s2 ⟨x,H2,I2,rx,a,ov,ex,g,q2⟩=>?_
 subst ex;obtain rfl:u=Value.ref a:=rx;exact aLK hu I2 g ry λs3 I3=>⟨.bl<|!ov.isSome,H2,I3,rfl,q2⟩
theorem aMN(hu:X.A.units+1<AR)(ho:PE X o td)(hi:PE X i ty)(hv:PE X value tv)(hs:Ab value (some<|.Subscript o i pos') pos.line X.env=pure false):PS X (.Assign [.Subscript o i pos'] value pos) (aRg td ty tv):=by
 intro za s σ H D I h;refine wpAny_Assign_Subscript (thn (hv za s σ H _ I h) λr s1 ⟨v,H1,I1,rv,q1⟩=>thn (ho za s1 σ H1 _ I1 q1) λu s2 ⟨x,H2,I2,rx,q2⟩=>thn (hi za s2 σ H2 _ I2 q2) λiv s3 ⟨y,H3,I3,ry,a,H4,ex,g,q3⟩=>?_) hs;subst ex;obtain rfl:u=Value.ref a:=rx;exact aGR hu I3 g ry rv λs4 I4=>⟨σ,H4,I4,q3⟩
def aIb(h:BH)(hb:Aa<h.objs.size):ObjOk P w H (h.push {cls:=.type "dict",data:=.dict #[]}) h.objs.size (.dK []):=
 ⟨bQ _,beq_eq_false_iff_ne.mpr (Ne.symm<|bR hb),[],.nil,Heap.DictOf.new h⟩
def aPB:TE:=λ_ H Q=>∀p,H p=none->Q (.ref p) (upd H p<|.dK [])
def aIS:PE X (.Dict [] [] pos) aPB:=λza s σ H Q I h=>wpAny_Dict_empty ⟨.ref s.heap.objs.size,_,I.laid (λ_ _ q=>aD _ q) (aQ _)<|aIb s.heap I.big,rfl,h _ (I.hok.fresh<|aQ _)⟩
abbrev VV:List (V×V)->List (BD×BD)->Prop:=Paired λp q=>RelV p.1 q.1/\RelV p.2 q.2
structure M1(X:Cx)(o:Expr)(m:Str)(apos:Pos)(e:Expr)(cpos:Pos):Prop where
 base:Ag o m X.env (eval o X.env)=eval o X.env
 few:((AV cpos (AB [e] X.env)).all (fun x=> !x.1) && (backToKw cpos (keywordEach [] X.env)).all (fun x=>x.1.isSome)
 &&decide (([e]:List Expr).length+([]:List Keyword).length+(if([]:List Keyword).isEmpty then 0 else 1)<30))=true
 line:(apos.endLine==cpos.line)=true
 trees:AV cpos (AB [e] X.env)=[(false,eval e X.env)]
structure M2(X:Cx)(o:Expr)(m:Str)(apos:Pos)(e f:Expr)(cpos:Pos):Prop where
 base:Ag o m X.env (eval o X.env)=eval o X.env
 few:((AV cpos (AB [e,f] X.env)).all (fun x=> !x.1) && (backToKw cpos (keywordEach [] X.env)).all (fun x=>x.1.isSome)
 &&decide (([e,f]:List Expr).length+([]:List Keyword).length+(if([]:List Keyword).isEmpty then 0 else 1)<30))=true
 line:(apos.endLine==cpos.line)=true
 trees:AV cpos (AB [e,f] X.env)=[(false,eval e X.env),(false,eval f X.env)]
end L2
namespace Att
open PySem PySem.W PySem.Calls PyProof.Rows
def vT:∀ (ns:List Int) (vs:List BD),WellAll P h vs (ns.map WData.int)->IntsAre vs ns:=by
 intro ns
 induction ns with
 |nil=>intro vs w;cases w;exact .nil
 |cons n ns ih=>
  intro vs w;cases w with
  |cons a b=>cases a;exact .cons _ _<|ih _ b
def aGP{l:OpenLaw}(hn:l.most=some n)(hpre:l.row.toRowW.claim.pre args=true) (hwl:WellAll P h vals args):∃a vs ns,vals=[Value.ref a]/\args=[WData.list<|ns.map WData.int]/\h.get? a=some {cls:=.type "list",data:=.seq vs.toArray}/\IntsAre vs ns/\ns.length<=n:=by
 have hsh:=(pre_splitW hpre).1;have hc:=(pre_splitW hpre).2;obtain⟨d,r,rfl,h1,h2⟩:=hasAllW_cons hsh;obtain rfl:=hasAllW_nil h2;obtain⟨xs,rfl,h3⟩:=hasW_list h1;obtain⟨ns,rfl⟩:=items_int h3
 have hlen:ns.length<=n:=by
  have h4:=by have h4:=(holds_andW hc).1;rw[hn] at h4;exact h4
  have h5:=condW_of h4 (w_not<|w_lt w_lit (w_len_list<|w_arg rfl));refine Nat.le_of_not_lt λq=>?_
  first
   |(exact absurd h5<|by decide)
   |(simp at h5;lia)
 cases hwl with
 |cons w1 w2=>
  cases w2;cases w1 with
  |list ho hall=>exact⟨_,_,ns,rfl,rfl,ho,vT ns _ hall,hlen⟩
def aGf(l:OpenLaw)(args:List WData):l.row.toRowW.claim.post args (.bool true) args=true:=
 postW_of
  (by first|rfl|decide|simp[WShape.has,WShape.arms,WShape.armsAll])
  (w_eq_bool (w_res rfl) w_lit) rfl
def attach_call{l:OpenLaw}(hn:l.most=some n) (hdf:d.params.defaults=[])(call:∀ (w:AL) (s₀ s₁:BE) (mg mb:Str→Option BD) (fa:BF) (o:BI) (pm cd doc:BD) (a:BF) (vs:List BD) (ns:List Int),
   Ground q loose [] XP w s₀ mg mb s₁.heap->YP w s₁.heap->
   s₁.heap.get? fa=some o->o.data=.func (docDef d.name d.params d.body d.scope pm cd doc)->s₁.heap.CodeRec cd d.name->mg d.name=some (.ref fa)->
   s₁.heap.get? a=some {cls:=.type "list",data:=.seq vs.toArray}->IntsAre vs ns->ns.length<=n->s₁.gens= #[]->
   codeAny (AG l.prog w) callerA (.call (.ref fa) ⟨[.ref a],[]⟩) (λr s'=>r=.ok (.ret (.bool true))/\OldK s₁.heap s'.heap/\s'.os=s₁.os/\AllBare s'.gens) s₁):
  WalkO q loose XP YP l.row.toRowW d [] (λf vs=>PySem.call f vs):=by
 intro w s₀ s₁ mg mb G Y fa o pm cd doc dV kV ho hd hcd hD hmg hg args vals as hpre hlay hrd hwl hlo;obtain rfl:dV=.none:=Dflts.none hD hdf;obtain rfl:kV=.none:=Dflts.noKw hD;obtain⟨a,vs,ns,rfl,rfl,hobj,hints,hlen⟩:=aGP hn hpre hwl;refine enter_call<|Aq (call w s₀ s₁ mg mb fa o pm cd doc a vs ns G Y ho (fd_plain hd) hcd hmg hobj hints hlen hg) λr s' hq=>?_;obtain⟨rfl,h2,h3,h4⟩:=hq;exact⟨.inl ⟨.bool true,.bool true,[],rfl,λ_=>rfl,.bool true,aGf l _,λ_=>⟨List.Pairwise.nil,λ_ hm=>(nomatch hm)⟩⟩,h2,h3,h4⟩
end Att
namespace L2
open PySem PySem.Spec PyProof.Rows
theorem aAF:∀ {vs:List BD}{ns:List Int},IntsAre vs ns->Vals (ns.map V.int) vs
 |_,_,.nil=>.nil
 |_,_,.cons n t h=>.cons ⟨t,rfl⟩<|aAF h
def aQm(H:Hp):Prop:=∀b,H b=none\/∃o xs,H b=some (.frz o<|.lst xs)
def aIs{K:aB}(KX:K.In s₁.heap) (hns:s₁.heap.Ns AQ mg) (hb:s₁.heap.Ns builtinsNs mb) (hbb:∀x:Str,x≠"__name__"->mb x=Ah x) (hlim:s₁.heap.NoLimit) (hg:s₁.gens= #[])(ha:s₁.heap.get? a=some {cls:=.type "list",data:=.seq vs.toArray}) (hi:IntsAre vs ns) (hl:ns.length<=AJ) (hr:Room k callerA)(F:∀base:BH,K.In base->base.Ns AQ mg->FnOk P w K mg base CX k fa fd [x] sp) (hbind:∀ (s:BE) (u:BD),BindsTo s fd ⟨[u],[]⟩ [(x,u)])(hsp:∀H:Hp,aQm H->SqL K H a (ns.map V.int)->sp [.ref a] H (λv _=>v=.bl true) λ_ _ _=>False)(hCX:∀H e s',CX [] H s₁ (λ_ _ _=>False) e s'->False):codeAny (AG P w) callerA (.call (.ref fa) ⟨[.ref a],[]⟩) (λr s'=>r=.ok (.ret<|.bool true)/\OldK s₁.heap s'.heap/\s'.os=s₁.os/\AllBare s'.gens) s₁:=by
 have rv:=aAF hi;have lenV:=hi.length
 have core:∀H,aQm H->SqL K H a (ns.map V.int)->HOk P w H s₁.heap->(∀b,H b≠none->b=a)->(H a≠none->K.lookup a=none)->
   codeAny (AG P w) callerA (.call (.ref fa) ⟨[.ref a],[]⟩) (λr s'=>r=.ok (.ret<|.bool true)/\OldK s₁.heap s'.heap/\s'.os=s₁.os/\AllBare s'.gens) s₁:=by
  intro H hO hS hok hA hK;have base_of:∀ {b:BF}{o:BI},s₁.heap.get? b=some o->H b=none->(aJx s₁.heap H).get? b=some o:=λe n=>aID e n
  have noA:∀ {b:BF}{o:BI}{es:Array DictEntry}{ep:Nat},s₁.heap.get? b=some o->o.data=.dict es ep->H b=none:=λ{b o es ep} e d=>by
   cases q:H b with
   |none=>rfl
   |some u=>have e':=hA b (by rw[q];simp);subst e';rw[ha] at e;cases e;have d':=d;cases d'
  have nsK:∀ {b:BF}{m:Str->Option BD},s₁.heap.Ns b m->(aJx s₁.heap H).Ns b m:=λ{b m} ⟨o,es,ep,e,d,r⟩=>⟨o,es,ep,base_of e<|noA e d,d,r⟩
  have hKb:=fun b o e=>base_of (KX b o e) (by
   cases q:H b with
   |none=>rfl
   |some u=>
    have e':=hA b (by rw[q];simp);subst e'
    rw[hK (by rw[q];simp)] at e;cases e)
  have hM:Mod K mg (aJx s₁.heap H):=⟨hKb,nsK hns,⟨mb,nsK hb,hbb⟩,let ⟨mc,h1,h2⟩:=hlim;⟨mc,nsK h1,h2⟩⟩;have e0:Env0 P w K mg (aJx s₁.heap H) callerA [] s₁ H:=⟨rfl,hM,λb o e=>aNe e,vX<|aGc _ _,trivial,λb hb=>absurd (show b∈([]) from hb)<|by simp,hok,.of_eq hg⟩;refine Aq ((F _ hKb<|nsK hns).run callerA [] s₁ H ⟨[.ref a],[]⟩ [.ref a] [.ref a] _ _ hr e0 (hbind s₁<|.ref a) (.cons rfl .nil)<|hsp H hO hS) λr s' h=>?_
  cases r with
  |error e=>exact(hCX H e s' h).elim
  |ok fl=>
   cases fl with
   |next=>exact False.elim h
   |brk=>exact False.elim h
   |cont=>exact False.elim h
   |ret u=>
    obtain⟨v,H',os,bare,un,hok',r',q⟩:=h;have q':=q;subst q';obtain rfl:u=Value.bool true:=r';refine⟨rfl,OldK.of_keep λb o e=>?_,os,bare⟩;cases q:H b with
    |none=>exact un.keep b o e q (by intro z;exact absurd (show b∈([]) from z)<|by simp)<|by simp
    |some u=>
     rcases hO b with z|⟨ob,xs,z⟩
     ·rw[q] at z;cases z
     ·have z2:=un.frzs b ob _ z;obtain⟨e1,_⟩:=hok b _ z;obtain⟨e2,_⟩:=hok' b _ z2;rw[e] at e1;cases e1;exact e2
 cases hk:K.lookup a with
 |some o=>
  have e:=KX a o hk;rw[ha] at e;cases e;refine core (λ_=>none) (λ_=>.inl rfl) (.inr ⟨_,vs.toArray,_,hk,rfl,rfl,rfl,by rw[bD,lenV];exact hl,by simpa using rv⟩) (λb u z=>by have z':=z;cases z') (λb z=>absurd rfl z) λz=>absurd rfl z
 |none=>
  refine core (λb=>if b=a then some (.frz {cls:=.type "list",data:=.seq vs.toArray} (.lst<|ns.map V.int)) else none) (λb=>?_) (.inl<|.inr ⟨{cls:=.type "list",data:=.seq vs.toArray},zt rfl⟩) (λb u z=>?_) (λb z=>?_) λ_=>hk
  ·by_cases hb:b=a
   ·exact .inr ⟨_,_,zt hb⟩
   ·exact .inl<|zr hb
  ·by_cases hb:b=a
   ·have z':=(zt hb).symm.trans z;cases z';subst hb;exact⟨ha,by rw[aC];exact hl,vs,_,rv,ha⟩
   ·have z':=(zr hb).symm.trans z;cases z'
  ·by_cases hb:b=a
   ·exact hb
   ·exact absurd (zr hb) z
abbrev KOf{K:aB}{h:BH}(_:K.In h):aB:=K
def walk_of{l:PySem.W.OpenLaw}{K:Params->aB}{CX:AL->CXT}{sp:AL->Sp}(hn:l.most=some n) (hn2:n<=AJ) (hdf:d.params.defaults=[]) (hr:Room k callerA)(hY:∀ (w:AL) (h:BH),YP w h->(K w.params).In h)(F:∀ (w:AL) (mg:Str→Option BD) (fa:BF) (h:BH),(K w.params).In h→h.Ns AQ mg→mg d.name=some (.ref fa)→∃fd:AN,(∀ (s:BE) (u:BD),BindsTo s fd ⟨[u],[]⟩ [(x,u)])/\
    ∀base:BH,(K w.params).In base->base.Ns AQ mg->FnOk l.prog w (K w.params) mg base (CX w) k fa fd [x] (sp w))
  (hsp:∀ (w:AL) (H:Hp) (a:BF) (ns:List Int),ns.length<=n->aQm H->SqL (K w.params) H a (ns.map V.int)->sp w [.ref a] H (λv _=>v=.bl true) λ_ _ _=>False)
  (hCX:∀ (w:AL) (H:Hp) (s:BE) (e:BD) (s':BE),CX w [] H s (λ_ _ _=>False) e s'->False):
  PySem.W.WalkO q loose XP YP l.row.toRowW d [] (λf vs=>PySem.call f vs):=by
 refine Att.attach_call hn hdf λw s₀ s₁ mg mb fa o pm cd doc a vs ns G Y ho hd hcd hmg hobj hints hlen hg=>?_
 have KX:=hY w _ Y;obtain⟨fd,hb,hF⟩:=F w mg fa _ KX G.T.g hmg;exact aIs KX G.T.g G.T.b G.T.builtins G.T.nolimit hg hobj hints (cJ hlen hn2) hr hF hb (λH hO hS=>hsp w H a ns hlen hO hS) λH e s'=>hCX w H s₁ e s'
noncomputable def aFa(s:BJ)(j:Nat):BJ:=match s with
 |.ClassDef _ _ _ body _ _ _ _ _ _ _=>body.getD j<|.Pass ⟨0,0,0,0⟩
 |_=> .Pass ⟨0,0,0,0⟩
noncomputable def eP(s:BJ):Arguments:=match s with
 |.FunctionDef _ a _ _ _ _ _ _ _ _=>a
 |_=>{posonlyargs:=[],args:=[],vararg:=none,kwonlyargs:=[],kw_defaults:=[],kwarg:=none,defaults:=[]}
noncomputable def cF(s:BJ):List BJ:=match s with
 |.FunctionDef _ _ b _ _ _ _ _ _ _=>b
 |_=>[]
noncomputable def aN(s:BJ):Scope:=match s with
 |.FunctionDef _ _ _ _ _ _ sc _ _ _=>sc
 |_=>{kind:=.function,names:=[],isGenerator:=false,isCoroutine:=false}
abbrev CX0:CXT:=λ_ _ _ _ _ _=>False
abbrev E0:XK:=λ_ _ _=>False
def tR:yF CX0 X E0:=λ_ _ _ _ _ _ _ h=>h.elim
structure Fun(K:aB)(x qual:Str)(st:BJ)(f:BF)(fd:AN):Prop where
 ex:∃ (oc:BD) (od:Option BF) (kV doc pm:BD) (an:Option BF) (cdv ct:BD) (osl:Array (Option BD)),
  fd=cD x qual (eP st) (cF st) (aN st) .none kV doc pm an cdv ct/\K.lookup f=some ⟨oc,od,.func fd,osl⟩/\eI K cdv qual=true
 kp:cK K (.ref f)=true
variable {P:AD}{w:AL}{K:aB}{mg:Str->Option BD}{base:BH}
def Fun.ok{st:BJ}(F:Fun K x qual st f fd)(S:iD N ps (aN st))(len:∀vs H Q E,sp vs H Q E->vs.length=ps.length)(hbody:∀ (cdv:BD) (A:BG) (outer:List Env) (s:BE) (H:Hp) (vs:List V) (Q:VK) (E:XK),Room k (A.deeper (Ad qual (aN st) s.heap.objs.size f cdv))→sp vs H Q E→∃t,PSs (gO CX0 P w K mg base N qual (aN st) f cdv A outer s H E).nox (cF st) t/\t {nx:=λ_ H'=>Q .non H',rt:=Q} (start N vs) H):FnOk P w K mg base CX0 (k+1) f fd ps sp:=by
 obtain⟨oc,od,kV,doc,pm,an,cdv,ct,osl,rfl,lk,hcd⟩:=F.ex;refine aHN lk hcd S len λA outer s H vs Q E hr hsp=>?_
 obtain⟨t,h,q⟩:=hbody cdv A outer s H vs Q E hr hsp;exact⟨t,h.nox,q⟩
def Fun.binds{st:BJ}(F:Fun K x qual st f fd)(h:∀ (kV doc pm:BD) (an:Option BF) (cdv ct:BD) (us:List BD),us.length=ps.length->bindArgs (cD x qual (eP st) (cF st) (aN st) .none kV doc pm an cdv ct) ⟨us,[]⟩=pure (ps.zip us)):Binds K fd ps []:=by
 obtain⟨oc,od,kV,doc,pm,an,cdv,ct,osl,rfl,lk,hcd⟩:=F.ex;exact .all<|h kV doc pm an cdv ct
def aCb{st:BJ}{kV doc pm cdv ct:BD}(l:K.lookup f=some ⟨oc,od,.func<|cD x qual (eP st) (cF st) (aN st) .none kV doc pm an cdv ct,osl⟩)(c:eI K cdv qual=true) (k:cK K (.ref f)=true):Fun K x qual st f (cD x qual (eP st) (cF st) (aN st) .none kV doc pm an cdv ct):=⟨⟨oc,od,kV,doc,pm,an,cdv,ct,osl,rfl,l,c⟩,k⟩
def eY(h:n<=10000):n<AJ:=dD h<|by decide
variable {X:Cx}
def pv(i:Nat){pos:Pos}(hN:X.N[i]? =some x:=by rfl)(hv:Vis X.env.scope x:=by first|exact Or.inl rfl|exact Or.inr jb|exact Or.inr (Or.inr rfl))(hd:(x==("__debug__":Str))=false:=by decide)(hcd:(x==("__classdict__":Str))=false:=by decide):PE X (.Name x pos) (iQ i):=aPO hN hv hd hcd
def aJw{A B:Prop}(h:B):if false=true then A else B:=h
def aJA{A B:Prop}(h:A):if true=true then A else B:=h
def Same(H H':Hp):Prop:=∀b o,H b=some o->H' b=some o
def Same.refl(H:Hp):Same H H:=λ_ _ h=>h
def Same.trans(a:Same H H1)(b:Same H1 H2):Same H H2:=λc o h=>b c o<|a c o h
def Same.free(e:Same H H')(h:H' l=aQx):H l=aQx:=by
 cases q:H l with
 |none=>rfl
 |some o=>rw[e l o q] at h;cases h
def Same.seq(e:Same H H')(h:SqL K H a xs):SqL K H' a xs:=by
 rcases h with(h|⟨o,h⟩)|h
 ·exact .inl (.inl<|e _ _ h)
 ·exact .inl<|.inr ⟨o,e _ _ h⟩
 ·exact .inr h
def wE(X:Cx)(e:Expr):TE:=λσ H Q=>∀ (za:List (BF×BI)) (s:BE),Inv X za σ H s->AK (AG X.prog X.w) X.A (eval e X.env) (EP X za σ Q) X.xe s
def wT(X:Cx)(e:Expr):TT:=λσ H Q=>∀ (za:List (BF×BI)) (s:BE),Inv X za σ H s->AK (AG X.prog X.w) X.A (isTrue e X.env<|eval e X.env) (TP X za σ Q) X.xe s
def wW(X:Cx)(e:Expr):TT:=λσ H Q=>∀ (whole:Sem BD) (za:List (BF×BI)) (s:BE),Inv X za σ H s->AK (AG X.prog X.w) X.A (isTrue e X.env whole) (TP X za σ Q) X.xe s
def wA(X:Cx)(es:List Expr):TA:=λσ H Q=>∀ (pos:Pos) (za:List (BF×BI)) (s:BE),Inv X za σ H s->AK (AG X.prog X.w) X.A (spliced (AV pos<|AB es X.env)) (AP X za σ Q) X.xe s
def wS(X:Cx)(st:BJ):TS:=λD σ H=>∀ (za:List (BF×BI)) (s:BE),Inv X za σ H s->AK (AG X.prog X.w) X.A (exec st X.env) (SP X za D) X.xe s
def wSs(X:Cx)(sts:List BJ):TS:=λD σ H=>∀ (za:List (BF×BI)) (s:BE),Inv X za σ H s->AK (AG X.prog X.w) X.A (execs sts X.env) (SP X za D) X.xe s
def wG(X:Cx)(tg:Expr):TG:=λv σ H Q=>∀ (za:List (BF×BI)) (s:BE) (u:BD),Inv X za σ H s->RelV v u->
  AK (AG X.prog X.w) X.A (assign tg X.env u) (λ_ s'=>∃σ' H',Inv X za σ' H' s'/\Q σ' H') X.xe s
noncomputable def wI(X:Cx)(tg iter:Expr):TI:=λσ H R=>∀ (za:List (BF×BI)) (s:BE),Inv X za σ H s->
  AK (AG X.prog X.w) X.A (eval iter X.env) (λv s1=>AK (AG X.prog X.w) X.A (pyIter v) (PIE X za σ tg R) X.xe s1) X.xe s
variable {e:Expr}{es:List Expr}{st:BJ}{sts:List BJ}{tg iter:Expr}{σ:St}{H:Hp}
def eO:PE X e (wE X e):=λza s _ _ _ I h=>h za s I
def aJz:PT X e (wT X e):=λza s _ _ _ I h=>h za s I
def aQN:PW X e (wW X e):=λw za s _ _ _ I h=>h w za s I
def pN:PA X es (wA X es):=λpos za s _ _ _ I h=>h pos za s I
def aSn:PS X st (wS X st):=λza s _ _ _ I h=>h za s I
def pss_w:PSs X sts (wSs X sts):=λza s _ _ _ I h=>h za s I
def aQj:PG X tg (wG X tg):=λza s _ _ _ u _ I r h=>h za s u I r
def aRQ:PI X tg iter (wI X tg iter):=λza s _ _ _ I h=>h za s I
def PE.to(h:PE X e t)(q:t σ H Q):wE X e σ H Q:=λza s I=>h za s σ H Q I q
def PT.to(h:PT X e t)(q:t σ H Q):wT X e σ H Q:=λza s I=>h za s σ H Q I q
def PW.to(h:PW X e t)(q:t σ H Q):wW X e σ H Q:=λw za s I=>h w za s σ H Q I q
def PA.to(h:PA X es t)(q:t σ H Q):wA X es σ H Q:=λpos za s I=>h pos za s σ H Q I q
def PS.to(h:PS X st t)(q:t D σ H):wS X st D σ H:=λza s I=>h za s σ H D I q
def PSs.to(h:PSs X sts t)(q:t D σ H):wSs X sts D σ H:=λza s I=>h za s σ H D I q
def wE.imp(h:wE X e σ H Q)(k:∀v H',Q v H'->Q' v H'):wE X e σ H Q':=λza s I=>thn (h za s I) λu s' ⟨v,H',I',r,q⟩=>⟨v,H',I',r,k v H' q⟩
def wT.imp(h:wT X e σ H Q)(k:∀v H',Q v H'->Q' v H'):wT X e σ H Q':=λza s I=>thn (h za s I) λu s' ⟨H',I',q⟩=>⟨H',I',k u H' q⟩
def wW.imp(h:wW X e σ H Q)(k:∀v H',Q v H'->Q' v H'):wW X e σ H Q':=λw za s I=>thn (h w za s I) λu s' ⟨H',I',q⟩=>⟨H',I',k u H' q⟩
def wA.imp(h:wA X es σ H Q)(k:∀v H',Q v H'->Q' v H'):wA X es σ H Q':=λpos za s I=>thn (h pos za s I) λu s' ⟨v,H',I',r,q⟩=>⟨v,H',I',r,k v H' q⟩
def SP.imp(h:SP X za D f s)(k1:∀σ H,D.nx σ H->D'.nx σ H)(k2:∀v H,D.rt v H->D'.rt v H)(k3:∀σ H,D.bk σ H->D'.bk σ H)(k4:∀σ H,D.ct σ H->D'.ct σ H):SP X za D' f s:=by
 cases f with
 |next=>obtain⟨σ',H',I,q⟩:=h;exact⟨σ',H',I,k1 _ _ q⟩
 |brk=>obtain⟨σ',H',I,q⟩:=h;exact⟨σ',H',I,k3 _ _ q⟩
 |cont=>obtain⟨σ',H',I,q⟩:=h;exact⟨σ',H',I,k4 _ _ q⟩
 |ret u=>obtain⟨v,σ',H',I,r,q⟩:=h;exact⟨v,σ',H',I,r,k2 _ _ q⟩
def wSs.imp(h:wSs X sts D σ H)(k1:∀σ H,D.nx σ H->D'.nx σ H)(k2:∀v H,D.rt v H->D'.rt v H)(k3:∀σ H,D.bk σ H->D'.bk σ H)(k4:∀σ H,D.ct σ H->D'.ct σ H):wSs X sts D' σ H:=
 λza s I=>thn (h za s I) λf s' q=>q.imp k1 k2 k3 k4
def wG.imp(h:wG X tg v σ H Q)(k:∀σ' H',Q σ' H'->Q' σ' H'):wG X tg v σ H Q':=λza s u I r=>thn (h za s u I r) λ_ s' ⟨σ',H',I',q⟩=>⟨σ',H',I',k _ _ q⟩
variable {za:List (BF×BI)}{F:Hp}{s:BE}
def HOk.track(ok:HOk P w H h)(hn:H a=none)(new:ObjOk P w (upd H a o) h a o):HOk P w (upd H a o) h:=λb u e=>by
 by_cases hb:b=a
 ·subst hb;rw[bH] at e;cases e;exact new
 ·rw[aW hb] at e;exact(ok b u e).stay (λ_ _ _ q=>q) (λc q=>by rw[aW<|cC q hn];exact q) λc xs q=>by rw[aW<|cC q hn];exact q
def Inv.track(I:Inv X za σ H s)(hn:H a=none)(h0:X.s₀.heap.objs.size<=a)(hL:a≠X.env.locals)(hc:∀x c,X.env.cells.lookup x=some c->c≠a)(hp:∀p∈X.pn++za,p.1≠a) (new:ObjOk X.prog X.w (upd H a o) s.heap a o):Inv X za σ (upd H a o) s:=by
 refine⟨I.ok,I.os,I.bare,⟨I.base.keep,I.base.slot,λb u e n hx=>?_,I.base.there,λb xs e=>?_,λb u xs e=>?_,λb ps e=>?_⟩,I.loc,I.cell,?_,λx c e=>?_,λp hp'=>?_,I.hok.track hn new,I.len⟩
 ·rw[aW (bR<|aZ (aU e) h0)];exact I.base.free b u e n hx
 ·have q:=I.base.tups b xs e;rw[aW<|cC q hn];exact q
 ·have q:=I.base.frzs b u xs e;rw[aW<|cC q hn];exact q
 ·obtain⟨m,q⟩:=I.base.tbls b ps e;exact⟨m,by rw[aW<|cC q hn];exact q⟩
 ·rw[aW<|Ne.symm hL];exact I.free
 ·rw[aW<|hc x c e];exact I.freeC x c e
 ·obtain⟨e,n,r⟩:=I.pin p hp';exact⟨e,by rw[aW<|hp p hp'];exact n,r⟩
def aQs:HO->Prop
 |.lst _=>True
 |.tup _=>True
 |.dK _=>True
 |.frz _ (.lst _)=>True
 |.frz _ (.dK _)=>True
 |.ext _=>True
 |_=>False
def Smp(H:Hp):Prop:=∀b o,H b=some o->aQs o
def ObjOk.smp(z:aQs o)(x:ObjOk P w H h a o):ObjOk P w F h a o:=by
 cases o with
 |lst xs=>exact x
 |tup xs=>exact x
 |dK kvs=>exact x
 |frz ob u=>cases u with
  |lst xs=>exact x
  |dK kvs=>exact x
  |_=>exact absurd z λq=>q
 |ext φ=>exact x
 |_=>exact absurd z λq=>q
def Smp.sub(h:Smp H)(s:Same F H):Smp F:=λb o e=>h b o<|s b o e
def Inv.less(I:Inv X za σ H s)(hF:Same F H)(h0:Same X.B₀ F)(hs:Smp F):Inv X za σ F s:=by
 refine⟨I.ok,I.os,I.bare,⟨I.base.keep,I.base.slot,λb u e n hx=>hF.free<|I.base.free b u e n hx,I.base.there,λb xs e=>h0 _ _<|X.hB _ _ e trivial,λb u xs e=>h0 _ _<|X.hB _ _ e trivial,λb ps e=>⟨#[],?_⟩⟩,I.loc,I.cell,hF.free I.free,λx c e=>hF.free<|I.freeC x c e,λp hp=>?_,λb o e=>(I.hok b o<|hF b o e).smp<|hs b o e,I.len⟩
 ·have q:=h0 _ _<|X.hB _ _ e trivial;rw[q];simp
 ·obtain⟨e,n,r⟩:=I.pin p hp;exact⟨e,hF.free n,r⟩
noncomputable def clo(cells:List (Str×BF)):List (Str×NameKind)->List (Str×BF)->List (Str×BF)
 |[],cs=>cs
 |(n,k)::r,cs=>clo cells r (if(k==NameKind.free)=true then(n,(cells.lookup n).getD 0)::cs else cs)
theorem rW:∀ (names:List (Str×NameKind)) (cs:List (Str×BF)),(∀y∈names,y.2=.free->∃c,env.cells.lookup y.1=some c)->(forIn names cs (λ(x:Str×NameKind) (r:List (Str×BF))=>if(x.2==NameKind.free)=true then(do let c <-cellOf env x.1;pure (ForInStep.yield ((x.1,c)::r))) else pure (ForInStep.yield r)):Sem (List<|Str×BF))=pure (clo env.cells names cs)
 |[],cs,_=>rfl
 |(n,k)::r,cs,h=>by
  rw[List.forIn_cons]
  by_cases hk:(k==NameKind.free)=true
  ·obtain⟨c,hc⟩:=h (n,k) aO (by simpa using hk)
   have e:cellOf env n=pure c:=by unfold cellOf;have hc':=hc;rw[hc']
   simp only[hk,if_true,e,pure_bind,clo];have hc':=hc;rw[hc'];exact rW r _ λy hy=>h y<|aH _ hy
  ·simp only[hk,cV,if_false,pure_bind,clo];exact rW r _ λy hy=>h y<|aH _ hy
def yX(h:∀y∈scope.names,y.2=.free->∃c,env.cells.lookup y.1=some c):closureFor scope env=pure (clo env.cells scope.names []):=by simp only[closureFor];have e:=rW scope.names [] h;simp only[bind_pure] ;exact e
theorem aCw(cells:List (Str×BF)):∀ (names:List (Str×NameKind)) (cs:List (Str×BF)) (x:Str) (c:BF),(clo cells names cs).lookup x=some c->cs.lookup x=some c\/((x,NameKind.free)∈names/\c=(cells.lookup x).getD 0)
 |[],cs,x,c,h=>.inl h
 |(n,k)::r,cs,x,c,h=>by
  rcases aCw cells r _ x c h with q|⟨q1,q2⟩
  ·by_cases hk:(k==NameKind.free)=true
   ·rw[zt hk,eW] at q;have ek:=by simpa using hk
    by_cases hx:(x==n)=true
    ·simp only[hx] at q;have e:=by simpa using hx
     subst e;exact .inr ⟨by rw[ek];exact aO,(bZ.inj q).symm⟩
    ·have hx':(x==n)=false:=by simpa using hx
     simp only[hx'] at q;exact .inl q
   ·rw[zr hk] at q;exact .inl q
  ·exact .inr ⟨aH _ q1,q2⟩
theorem aFl(cells:List (Str×BF)):∀ (names:List (Str×NameKind)) (cs:List (Str×BF)) (x:Str),(x,NameKind.free)∈names\/(∃c,cs.lookup x=some c)->∃c,(clo cells names cs).lookup x=some c
 |[],cs,x,h=>h.elim (λz=>nomatch z) λz=>z
 |(n,k)::r,cs,x,h=>by
  refine aFl cells r _ x ?_
  by_cases hk:(k==NameKind.free)=true
  ·rw[zt hk]
   by_cases hx:(x==n)=true
   ·exact .inr ⟨(cells.lookup n).getD 0,by rw[eW];simp only[hx]⟩
   ·have hx':(x==n)=false:=by simpa using hx
    rcases h with q|⟨c,q⟩
    ·rcases bL.mp q with z|z
     ·cases z;exact absurd (by simp) hx
     ·exact .inl z
    ·exact .inr ⟨c,by rw[eW];simp only[hx'];exact q⟩
  ·rw[zr hk]
   rcases h with q|q
   ·rcases bL.mp q with z|z
    ·cases z;exact absurd rfl hk
    ·exact .inl z
   ·exact .inr q
theorem tO{env:Env}:∀ {names:List (Str × NameKind)} {x:Str},((names.map fun (n,k)=>if (k==NameKind.free && env.scope.kind== .function && env.kindOf n==some .cell) then (n,NameKind.cell) else (n,k)).lookup x=some .cell∨
   (names.map λ(n,k)=>if(k==NameKind.free&&env.scope.kind==.function&&env.kindOf n==some .cell) then(n,NameKind.cell) else(n,k)).lookup x=some .free)->names.lookup x=some .cell\/names.lookup x=some .free
 |[],x,h=>by simp at h
 |(n,k)::r,x,h=>by
  have ih:= @tO env r x;rw[cA] at h;rw[eW]
  by_cases hc:(k==NameKind.free&&env.scope.kind==.function&&env.kindOf n==some .cell)=true
  ·simp only[hc,if_true,eW] at h;cases hx:x==n with
   |true=>
    have hk:=by have:=hc;simp at this;exact this.1.1
    exact .inr (by rw[hk])
   |false=>simp only[hx] at h ⊢;exact ih h
  ·have hc':(k==NameKind.free&&env.scope.kind==.function&&env.kindOf n==some .cell)=false:=by simpa using hc
   simp only[hc',cV,if_false,eW] at h;cases hx:x==n with
   |true=>simp only[hx] at h ⊢;exact h
   |false=>simp only[hx] at h ⊢;exact ih h
def aGv(Ξ:BD->BE->Prop)(hΞ:∀e s,Ξ e s->notedBy (AG prog w) A env (λe s'=>R (.error e) s') e s)(J:Nat->BE->Prop)(turn:∀n s,J n s→AK (AG prog w) A (pyNext it) (fun r s₁=>match r with
   |none=>R (.ok .next) s₁
   | some v=>AK (AG prog w) A (letOwnedTupleGo target it v) (fun _ s₂=>AK (AG prog w) A (assign target env v) (fun _ s₃=>
     AK (AG prog w) A (forIn ifs true fun c r=>if r=true then do let ok ← isTrue c env (eval c env); pure (ForInStep.yield ok) else pure (ForInStep.yield r)) (fun ok s₄=>
      if ok=true then AK (AG prog w) A (eval elt env) (λx s₅=>AK (AG prog w) A (call (.builtin "list.append") [acc,x]) (λ_ s₆=>∃m,m<n/\J m s₆) Ξ s₅) Ξ s₄
      else ∃m,m<n/\J m s₄) Ξ s₃) Ξ s₂) Ξ s₁) Ξ s)
  (n:Nat) (h:J n s):codeAny (AG prog w) A (.compLoop (.ListComp elt [⟨target,iter,ifs,0⟩] scope pos) 0 it acc env) R s:=by
 refine codeAny_loop rfl J (λn s hI=>?_) n h;show AK _ A ((compTurn (.ListComp elt [⟨target,iter,ifs,0⟩] scope pos) 0 it acc env).onRaise λx=>do noteFrame x env;theTreesLotGoes x) _ _ s;refine wpAny_noted ?_;refine AA<|wpAny_standAt (AA<|AU (turn n s hI) (λr s₁ h₁=>?_) λe s z=>hΞ e s z);cases r with
 |none=>exact AC h₁
 |some v=>
  refine AA<|AU h₁ (λ_ s₂ h₂=>?_) λe s z=>hΞ e s z;refine AA<|AU h₂ (λ_ s₃ h₃=>?_) λe s z=>hΞ e s z;refine AA<|AU h₃ (λok s₄ h₄=>?_) λe s z=>hΞ e s z;cases ok with
  |false=>exact AC ⟨rfl,h₄⟩
  |true=>exact AA (AA<|AU h₄ (λx s₅ h₅=>AA<|AU h₅ (λ_ s₆ h₆=>AC<|AC ⟨rfl,h₆⟩) λe s z=>hΞ e s z) λe s z=>hΞ e s z)
def aQp(X:Cx)(ifs:List Expr):TT:=λσ H Q=>∀ (za:List (BF×BI)) (s:BE),Inv X za σ H s->
 AK (AG X.prog X.w) X.A (forIn ifs true λc r=>if r=true then do let ok <-isTrue c X.env (eval c X.env);pure (ForInStep.yield ok) else pure (ForInStep.yield r)) (TP X za σ Q) X.xe s
def aCl(h:Q true H):aQp X [] σ H Q:=λ_ _ I=>wpAny_tests_nil ⟨H,I,h⟩
def aCS(h:wT X c σ H Q):aQp X [c] σ H Q:=λza s I=>wpAny_tests_one<|h za s I
noncomputable def cxB(X:Cx)(N:List Str)(scope:Scope)(cl:List (Str×BF))(C:BF)(ex:List BF)(s:BE)(H:Hp):Cx:=
 {prog:=X.prog,w:=X.w,K:=X.K,mg:=X.mg,base:=X.base,A:=X.A,N:=N,s₀:=s,H₀:=H,env:=compEnvC scope cl C X.env,outer:=X.stack,stack:=X.stack,ex:=ex,fn:=λ_=>false,calm:=true,pn:=[],xe:=λ_ _=>False}
def rB(X:Cx)(N:List Str)(scope:Scope)(cl:List (Str×BF))(C:BF)(ex:List BF)(s:BE)(H:Hp)(ξ:BD->BE->Prop):Cx:={cxB X N scope cl C ex s H with xe:=ξ}
noncomputable def zF(cap:List (Option Nat))(σ:St):St:=cap.map λo=>o.bind λk=>(σ[k]?).join
noncomputable def oJ(scope sc:Scope):Bool:=scope.names.all λy=>(!(y.2==NameKind.free)||sc.names.lookup y.1==some NameKind.cell)&&!(y.2==NameKind.cell)&&(!(y.2==NameKind.local)||scope.names.lookup y.1==some NameKind.local)
noncomputable def mI(N M:List Str)(scope sc:Scope)(cap:List (Option Nat)):Bool:=cap.length==N.length&&(cap.zip N).all λy=>match y.1 with
 |none=>true
 |some k=>M[k]? ==some y.2&&sc.names.lookup y.2==some NameKind.cell&&scope.names.lookup y.2==some NameKind.free
theorem jE{env:Env}(hf:env.scope.kind=.function):∀ {names:List (Str×NameKind)}{x:Str},names.lookup x=some .free->env.kindOf x=some .cell->(names.map λ(n,k)=>if(k==NameKind.free&&env.scope.kind==.function&&env.kindOf n==some .cell) then(n,NameKind.cell) else(n,k)).lookup x=some .cell
 |[],x,h,_=>by simp at h
 |(n,k)::r,x,h,hc=>by
  rw[cA];cases hx:x==n with
  |true=>
   have e:=by simpa using hx
   subst e;rw[eW] at h;simp only[beq_self_eq_true] at h;have ek:=bZ.inj h;subst ek;have hb:(NameKind.free==NameKind.free&&env.scope.kind==.function&&env.kindOf x==some .cell)=true:=by rw[hf,hc];rfl
   show jC x ((if(NameKind.free==NameKind.free&&env.scope.kind==.function&&env.kindOf x==some .cell)=true then(x,NameKind.cell) else(x,NameKind.free))::_)=_;rw[zt hb];simp
  |false=>
   rw[eW] at h;simp only[hx] at h;have ih:=jE hf h hc
   by_cases hb:(k==NameKind.free&&env.scope.kind==.function&&env.kindOf n==some .cell)=true
   ·simp only[hb,if_true,eW,hx];exact ih
   ·have hb':(k==NameKind.free&&env.scope.kind==.function&&env.kindOf n==some .cell)=false:=by simpa using hb
    simp only[hb',cV,if_false,eW,hx];exact ih
def Inv.low(I:Inv X za σ H s):∀b∈frs X.stack,b<s.heap.objs.size:=λb hb=>by obtain⟨_,o,ho,_⟩:=I.stack.mem hb;exact aU ho
theorem aGh{tt:TT}(ξ:List (Str×BF)->BF->BD->BE->Prop)(ξ':List (Str×BF)->BF->BD->Hp->BE->Prop)(hc:X.calm=true) (hsc:X.env.scope=sc) (hcn:oJ scope sc=true) (hcap:mI N X.N scope sc cap=true) (hk:scope.kind=.function)(I:Inv X za σ H s) (T:aKS X.prog X.w X.K tg J fp it tn) (st:tn 0 s.heap) (hfp:∀b∈fp,yB X za H b)(hg:∀cl C,PG (rB X N scope cl C fp s H<|ξ cl C) tg g) (ht:∀cl C pi s2 σ2 H2 Q,Inv (rB X N scope cl C fp s H<|ξ cl C) pi σ2 H2 s2->tt σ2 H2 Q->AK (AG X.prog X.w) X.A (forIn ifs true λc r=>if r=true then do let ok <-isTrue c (compEnvC scope cl C X.env) (eval c<|compEnvC scope cl C X.env);pure (ForInStep.yield ok) else pure (ForInStep.yield r)) (TP (rB X N scope cl C fp s H<|ξ cl C) pi σ2 Q) (ξ cl C) s2)(he:∀cl C,PE (rB X N scope cl C fp s H<|ξ cl C) elt te) (W:Nat->Nat->List V->St->Hp->Prop) (m0:Nat) (w0:W 0 m0 [] (zF cap σ) H)(RR:BD->BF->Result->BE->Prop)(hξ:∀cl C e s',ξ cl C e s'->∃pi σb H',Inv (rB X N scope cl C fp s H<|ξ cl C) pi σb H' s'/\ξ' cl C e H' s')(hx:∀cl D C e H' s',ξ' cl C e H' s'->H' C=none->X.s₀.heap.objs.size<=C->C≠X.env.locals->(∀x c,X.env.cells.lookup x=some c->c≠C)->(∀p∈X.pn++za,p.1≠C)->C∉frs X.stack->(∃m,s'.heap.Ns C m)->Inv X za σ H' s'->notedBy (AG X.prog X.w) X.A (compEnvC scope cl C X.env) (λe s''=>RR (.ref D) C (.error e) s'') e s')(turn:∀i m ys σb H2,W i m ys σb H2→(J.stop i H2/\∀D C s',H2 D=none->H2 C=none->D≠C->X.s₀.heap.objs.size<=C->C≠X.env.locals->(∀x c,X.env.cells.lookup x=some c->c≠C)->(∀p∈X.pn++za,p.1≠C)->C∉frs X.stack->(∃m,s'.heap.Ns C m)->Inv X za σ (upd H2 D<|.lst ys) s'->RR (.ref D) C (.ok .next) s')\/
   (J.go i H2∧ys.length<AJ∧∃Nx:List V→St→Hp→Prop,(∀ys' σ' H',Nx ys' σ' H'→∃m',m'<m∧W (i+1) m' ys' σ' H')∧
    ∀x H',J.yld i H2 x H'->g x σb H' λσ2 H3=>tt σ2 H3 λb H4=>if b=true then te σ2 H4 λv H5=>Nx (ys++[v]) σ2 H5 else Nx ys σ2 H4)):
  AK (AG X.prog X.w) X.A (newList []) (fun acc s₃=>AK (AG X.prog X.w) X.A (newFunctionEnv scope X.env.globals (clo X.env.cells scope.names []) [] X.env.qual none .none (some X.env)) (fun cenv s₄=>
   codeAny (AG X.prog X.w) X.A (.compStart (.ListComp elt [⟨tg,iter,ifs,0⟩] scope pos) 0 (.ref it) acc {cenv with scope:=relabel scope X.env}) (RR acc cenv.locals) s₄) E s₃) E s:=by
 have nm:∀y∈scope.names,(y.2=NameKind.free->sc.names.lookup y.1=some NameKind.cell)/\y.2≠NameKind.cell/\(y.2=NameKind.local->scope.names.lookup y.1=some NameKind.local):=λy hy=>by have q:=fG.mp hcn y hy;simp only[bU,aNR,aKL,beq_eq_false_iff_ne,ne_eq,beq_iff_eq] at q;exact⟨λe=>q.1.1.resolve_left λz=>z e,q.1.2,λe=>q.2.resolve_left λz=>z e⟩
 have fre:∀y∈scope.names,y.2=.free->∃c,X.env.cells.lookup y.1=some c:=λy hy e=>I.ok.has y.1 (.inl<|by show X.env.scope.names.lookup y.1=_;rw[hsc];exact(nm y hy).1 e)
 generalize hcl:clo X.env.cells scope.names []=cl
 have csub:∀x c,cl.lookup x=some c->X.env.cells.lookup x=some c:=λx c e=>by
  rw[<-hcl] at e
  rcases aCw _ _ _ _ _ e with z|⟨z1,z2⟩
  ·simp at z
  ·obtain⟨c',q⟩:=fre _ z1 rfl;rw[q] at z2;rw[q,z2];rfl
 have chas:∀x,((relabel scope X.env).names.lookup x=some .cell\/(relabel scope X.env).names.lookup x=some .free)->∃c,cl.lookup x=some c:=λx e=>by
  rcases tO e with z|z
  ·exact absurd rfl (nm _<|PySem.mem_of_lookup z).2.1
  ·rw[<-hcl];exact aFl _ _ _ _ (.inl<|PySem.mem_of_lookup z)
 have cexi:∀x c,cl.lookup x=some c->c<s.heap.objs.size:=λx c e=>by obtain⟨v,o,ho,_⟩:=I.cell x c<|csub x c e;exact aU ho
 have cexX:∀x c,X.env.cells.lookup x=some c->c<s.heap.objs.size:=λx c e=>by obtain⟨v,o,ho,_⟩:=I.cell x c e;exact aU ho
 have pexX:=λp hp=>aU (I.pin p hp).1
 have flow:∀b∈fp,b<s.heap.objs.size:=λb hb=>by obtain⟨o,ho,_⟩:=T.obj 0 _ st b hb;exact aU ho
 have fstk:∀b∈fp,b∉frs X.stack:=λb hb z=>by
  obtain⟨_,f1,f2,_⟩:=hfp b hb
  rcases bL.mp (I.stkSub b z) with q|q
  ·exact f1 q
  ·exact f2 q
 have hkr:=hk;refine AZ<|wpAny_newFunctionEnv (λy hy=>(nm y hy).2.1) (by intro y hy;simp at hy) (λh₁ hns₁ hsb₁=>?_) hk;dsimp only at hns₁ hsb₁ ⊢;generalize hH2:s.heap.push {cls:=.type "list",dict:=none,data:=.seq ([]).toArray}=G2 at hns₁ hsb₁ ⊢;have hC:G2.objs.size=s.heap.objs.size+1:=by rw[<-hH2,nG]
 have hDC:s.heap.objs.size≠G2.objs.size:=by rw[hC];exact bR<|iE _
 have hCle:s.heap.objs.size<=G2.objs.size:=by rw[hC];exact iL _
 have neC:∀b,b<s.heap.objs.size->b≠G2.objs.size:=λb hb=>by rw[hC];exact bR<|oQ hb
 have old:=λb o e=>hsb₁.extBut b o (neC b<|aU e) (aD _<|hH2▸aD _ e)
 have hacc:=hsb₁.extBut _ _ hDC (aD _<|hH2▸bO _ rfl);have env_eq:({newEnv scope G2.objs.size X.env.globals cl X.env.qual none .none (some X.env) 0 with scope:=relabel scope X.env}:Env)=compEnvC scope cl G2.objs.size X.env:=rfl;generalize hDD:s.heap.objs.size=D at *;generalize hCC:G2.objs.size=C at *
 have okX:(rB X N scope cl C fp s H<|ξ cl C).Ok:=by
  refine⟨I.mod,hkr,I.ok.glob,I.ok.blt,?_,λx y c a b=>I.ok.inj x y c (csub x c a)<|csub y c b,chas,(λx c z=>nomatch z),λ_=>I.ok.hd hc,I.ok.frames,jb,λb hb=>⟨neC b<|flow b hb,λx c e=>(hfp b hb).2.2.2.2.1 x c<|csub x c e⟩,I.bs,?_,λb o e hb=>?_,fstk,I.stack,I.stkFree⟩
  ·show s.heap.objs.size<=C;rw[hDD];exact hCle
  ·exact cJ I.ok.bsz I.sz
  ·rcases(hfp b hb).2.2.2.1 with z|z
   ·exact I.ok.noex b o e z
   ·exact absurd (aZ (aU e)<|cJ I.ok.bsz z)<|eU _
 have capE:∀ (i:Nat) (x:Str) (v:V),N[i]? =some x->(zF cap σ)[i]? =some (some v)->∃k:Nat,X.N[k]? =some x/\σ[k]? =some (some v)/\sc.names.lookup x=some .cell/\scope.names.lookup x=some .free:=λi x v e1 e2=>by
  unfold mI at hcap;rw[bU] at hcap;unfold zF at e2;rw[bE] at e2;cases q:cap[i]? with
  |none=>rw[q] at e2;cases e2
  |some o=>
   rw[q] at e2;have e2:(o.bind λk=>(σ[k]?).join)=some v:=bZ.inj e2;cases o with
   |none=>cases e2
   |some k=>
    have e2:(σ[k]?).join=some v:=e2
    have mz:(some k,x)∈cap.zip N:=by refine bC (i:=i) ?_;rw[aAT];exact⟨q,e1⟩
    have z:=fG.mp hcap.2 _ mz;simp only[bU,beq_iff_eq] at z;refine⟨k,z.1.1,?_,z.1.2,z.2⟩;cases w:σ[k]? with
    |none=>rw[w] at e2;cases e2
    |some o'=>rw[w] at e2;have e2:o'=some v:=e2;rw[e2]
 have I0:Inv (rB X N scope cl C fp s H<|ξ cl C) [(D,{cls:=.type "list",dict:=none,data:=.seq ([]:List BD).toArray})] (zF cap σ) H {s with heap:=h₁,toks:=s.toks+([]:List (Str×BD)).length}:=by
  have dfree:H D=none:=I.hok.fresh<|vX hDD;refine⟨okX,rfl,I.bare,Un.kept old,⟨_,hns₁,λi x v e1 e2 e3=>?_⟩,λx c e=>?_,I.hok.fresh (by rw[hDD];exact hCle),λx c e=>I.freeC x c<|csub x c e,λp hp=>?_,I.hok.kept old,?_⟩
  ·obtain⟨k,q1,q2,q3,q4⟩:=capE i x v e1 e2;have q3':X.env.scope.names.lookup x=some .cell:=by rw[hsc];exact q3
   obtain⟨m,_,hl⟩:=I.loc;obtain⟨u,ru,lk⟩:=hl k x v q1 q2 (.inr<|.inl q3');refine⟨u,ru,.inr ⟨.inl<|jE I.ok.kind q4 q3',?_⟩⟩
   rcases lk with⟨z,_⟩|⟨_,c,z,ic⟩
   ·have z':X.env.scope.names.lookup x=some .local:=z;rw[q3'] at z';cases z'
   ·obtain⟨c',hc'⟩:=chas x (.inl<|jE I.ok.kind q4 q3');have:=csub x c' hc';rw[z] at this;have ec:c=c':=bZ.inj this;subst ec;obtain⟨o,ho,hd⟩:=ic;exact⟨c,hc',o,old c o ho,hd⟩
  ·obtain⟨v,o,ho,hd⟩:=I.cell x c<|csub x c e;exact⟨v,o,old c o ho,hd⟩
  ·have hp':p=(D,{cls:=.type "list",dict:=none,data:=.seq ([]:List BD).toArray}):=by simpa[rB,cxB] using hp
   subst hp';refine⟨hacc,dfree,hDC,λz=>?_,λv z=>by cases z⟩;have:=I.low D z;rw[hDD] at this;exact eU _ this
  ·show(zF cap σ).length=N.length;unfold mI at hcap;rw[bU] at hcap;unfold zF;rw[aC];simpa using hcap.1
 have dlow:∀b,b<D->b≠D:=λb hb=>bR hb
 have loop:∀s₃:BE,s₃={s with heap:=h₁,toks:=s.toks+([]:List (Str×BD)).length}->
   codeAny (AG X.prog X.w) X.A (.compLoop (.ListComp elt [⟨tg,iter,ifs,0⟩] scope pos) 0 (.ref it) (.ref D)<|compEnvC scope cl C X.env) (RR (.ref D) C) s₃:=by
  rintro s₃ rfl
  refine aGv (ξ cl C) (λe s' z=>?_) (λn s'=>∃ (i:Nat) (ys:List V) (σb:St) (H2:Hp) (its:List BD) (nn:Nat),Inv (rB X N scope cl C fp s H<|ξ cl C) [(D,{cls:=.type "list",dict:=none,data:=.seq its.toArray nn})] σb H2 s'/\tn i s'.heap/\(∀b∈fp,H2 b=none)/\Vals ys its/\ys.length<=AJ/\W i n ys σb H2) ?_ m0
   ⟨0,[],zF cap σ,H,[],0,I0,T.keep 0 _ _ st λb hb o e=>old b o e,λb hb=>(hfp b hb).1,.nil,bQ _,w0⟩
  ·obtain⟨pi,σb,H',I',z'⟩:=hξ cl C e s' z;obtain⟨m4,ns4,_⟩:=id I'.loc;have J0:Inv X za σ H' s':=I.call' I'.os I'.base I'.hok I'.bare λb hb=>⟨(hfp b hb).2.2.2.1,(hfp b hb).2.1,(hfp b hb).2.2.2.2.1,(hfp b hb).2.2.2.2.2⟩
   have hLD:X.env.locals<D:=by rw[<-hDD];exact I.lt
   exact hx cl D C e H' s' z' I'.free (cJ I.sz<|by rw[hDD];exact hCle) (kP<|aZ hLD hCle) (λx c e=>neC c<|cexX x c e) (λp hp=>neC _<|pexX p hp) (λz=>absurd (I.low C z)<|by rw[hDD];exact qG.mpr hCle) ⟨m4,ns4⟩ J0
  rintro n s3 ⟨i,ys,σ3,H3,its,nn,I3,st3,fr3,rv3,hlen,w3⟩
  have fpX:∀ {H':Hp}{its':List BD}{nn':Nat},(∀b∈fp,H' b=none)->∀b∈fp,yB (rB X N scope cl C fp s H<|ξ cl C) [(D,{cls:=.type "list",dict:=none,data:=.seq its'.toArray nn'})] H' b:=λ{H' its' nn'} hn b hb=>by
   refine⟨hn b hb,neC b<|flow b hb,fstk b hb,.inl hb,λx c e=>(hfp b hb).2.2.2.2.1 x c<|csub x c e,λp hp=>?_⟩
   have hp':p.1=D:=by have q:p∈([]:List (BF×BI))++[(D,{cls:=.type "list",dict:=none,data:=.seq its'.toArray nn'})]:=hp;rw[aNL,aK] at q;rw[q]
   rw[hp'];exact Ne.symm (dlow b<|flow b hb)
  rcases turn i n ys σ3 H3 w3 with⟨stop,fin⟩|⟨go,hsz,Nx,hN,step⟩
  ·refine thn (T.done (rB X N scope cl C fp s H<|ξ cl C) rfl rfl rfl rfl i _ s3 σ3 H3 (ξ cl C) I3 (fpX fr3) st3 stop) λr s4 ⟨hr,I4⟩=>?_
   subst hr;obtain⟨m4,ns4,_⟩:=id I4.loc;have J0:Inv X za σ H3 s4:=I.call' I4.os I4.base I4.hok I4.bare λb hb=>⟨(hfp b hb).2.2.2.1,(hfp b hb).2.1,(hfp b hb).2.2.2.2.1,(hfp b hb).2.2.2.2.2⟩
   obtain⟨pd,pn,_⟩:=I4.pin (D,_)<|aJ _ aO;have hLD:X.env.locals<D:=by rw[<-hDD];exact I.lt
   refine fin D C s4 pn I4.free hDC (cJ I.sz<|by rw[hDD];exact hCle) (kP<|aZ hLD hCle) (λx c e=>neC c<|cexX x c e) (λp hp=>neC _<|pexX p hp) (λz=>absurd (I.low C z)<|by rw[hDD];exact qG.mpr hCle) ⟨m4,ns4⟩ ?_;refine J0.track pn (by rw[<-hDD];exact I.sz) (kP hLD) (λx c e=>dlow c<|cexX x c e) (λp hp=>dlow _<|pexX p hp) ?_;exact⟨hlen,its,nn,rv3,pd⟩
  ·refine thn (T.item (rB X N scope cl C fp s H<|ξ cl C) rfl rfl rfl rfl i _ s3 σ3 H3 (ξ cl C) I3 (fpX fr3) st3 go) λr s4 ⟨u,hr,h4⟩=>?_
   subst hr;refine thn h4 λ_ s5 ⟨x,H5,I5,r5,y5,st5,fr5⟩=>?_
   have I5':=I5.pinned (fpX fr5)<|T.obj _ _ st5;refine thn (hg cl C _ s5 σ3 H5 x u _ I5' r5<|step x H5 y5) λ_ s6 ⟨σ6,H6,I6,q6⟩=>?_
   refine thn (ht cl C _ s6 σ6 H6 _ I6 q6) λb s7 ⟨H7,I7,q7⟩=>?_
   have tnK:∀ {σ7:St}{H7:Hp}{s7:BE},Inv (rB X N scope cl C fp s H<|ξ cl C) ([(D,{cls:=.type "list",dict:=none,data:=.seq its.toArray nn})]++pQ fp s5.heap) σ7 H7 s7->tn (i+1) s7.heap/\∀b∈fp,H7 b=none:=λ{σ7 H7 s7} I7=>by refine⟨T.keep _ _ _ st5 λb hb o e=>(I7.pin (b,o)<|aJ _ (aJ _<|jQ hb e)).1,λb hb=>?_⟩;obtain⟨o,e,d⟩:=T.obj _ _ st5 b hb;exact(I7.pin (b,o)<|aJ _ (aJ _<|jQ hb e)).2.1
   cases b with
   |false=>have q7':Nx ys σ6 H7:=q7;obtain⟨m',hm,w7⟩:=hN _ _ _ q7';obtain⟨t7,f7⟩:=tnK I7;exact⟨m',hm,i+1,ys,σ6,H7,its,nn,I7.unpinned,t7,f7,rv3,hlen,w7⟩
   |true=>
    have q7':te σ6 H7 λv H5=>Nx (ys++[v]) σ6 H5:=q7
    refine thn (he cl C _ s7 σ6 H7 _ I7 q7') λy s8 ⟨v,H8,I8,r8,q8⟩=>?_
    obtain⟨m',hm,w8⟩:=hN _ _ _ q8;obtain⟨pd,pn,pL,pf,pc⟩:=I8.pin (D,{cls:=.type "list",dict:=none,data:=.seq its.toArray nn}) (aJ _<|bN _ aO);have hits:its.length=ys.length:=rv3.length.symm;refine wpAny_list_append_plain ⟨nn,pd⟩ (λh9 pl9 sb9=>?_) (by rw[bD,hits];exact cZ hsz);obtain⟨n9,e9⟩:=pl9
    have e9':h9.get? D=some {cls:=.type "list",dict:=none,data:=.seq (its++[y]).toArray n9}:=by rw[e9];simp
    have I8':Inv (rB X N scope cl C fp s H<|ξ cl C) (pQ fp s5.heap) σ6 H8 s8:=I8.pins_of λp hp=>I8.pin p (aJ _<|aJ _ hp)
    have I9:Inv (rB X N scope cl C fp s H<|ξ cl C) (pQ fp s5.heap) σ6 H8 {s8 with heap:=h9,toks:=s8.toks}:=I8'.turned (λb o hb e=>sb9.extBut b o hb e) pn hDC (.inr<|by rw[<-hDD];exact aQ _) (λx c e=>dlow c<|cexi x c e) λp hp=>by
     have hp':p∈pQ fp s5.heap:=by simpa[rB,cxB] using hp
     exact dlow _<|flow _ (uO hp').1
    have tn9:tn (i+1) h9:=T.keep _ _ _ st5 λb hb o e=>(I9.pin (b,o) (aJ _<|jQ hb e)).1
    have fr9:∀b∈fp,H8 b=none:=λb hb=>by obtain⟨o,e,d⟩:=T.obj _ _ st5 b hb;exact(I9.pin (b,o) (aJ _<|jQ hb e)).2.1
    refine⟨m',hm,i+1,ys++[v],σ6,H8,its++[y],n9,I9.pins_of λp hp=>?_,tn9,fr9,Vals.append rv3<|.cons r8 .nil,by rw[aP];exact hsz,w8⟩;have hp':p=(D,{cls:=.type "list",dict:=none,data:=.seq (its++[y]).toArray n9}):=aK.mp hp;subst hp';exact⟨e9',pn,pL,pf,λv z=>by cases z⟩
 exact codeAny_compStart_list (loop _ rfl) (T.self _ 0 _ _ _ (T.keep 0 _ _ st λb hb o e=>old b o e)<|loop _ rfl)
def aCk{tt:TT}(hc:X.calm=true) (hsc:X.env.scope=sc) (hcn:oJ scope sc=true) (hcap:mI N X.N scope sc cap=true) (hk:scope.kind=.function)(I:Inv X za σ H s) (T:aKS X.prog X.w X.K tg J fp it tn) (st:tn 0 s.heap) (hfp:∀b∈fp,yB X za H b)(hg:∀cl C,PG (cxB X N scope cl C fp s H) tg g) (ht:∀cl C pi s2 σ2 H2 Q,Inv (cxB X N scope cl C fp s H) pi σ2 H2 s2->tt σ2 H2 Q->AK (AG X.prog X.w) X.A (forIn ifs true λc r=>if r=true then do let ok <-isTrue c (compEnvC scope cl C X.env) (eval c<|compEnvC scope cl C X.env);pure (ForInStep.yield ok) else pure (ForInStep.yield r)) (TP (cxB X N scope cl C fp s H) pi σ2 Q) (λ_ _=>False) s2)(he:∀cl C,PE (cxB X N scope cl C fp s H) elt te) (W:Nat->Nat->List V->St->Hp->Prop) (m0:Nat) (w0:W 0 m0 [] (zF cap σ) H)(RR:BD->BF->Result->BE->Prop)(turn:∀i m ys σb H2,W i m ys σb H2→(J.stop i H2/\∀D C s',H2 D=none->H2 C=none->D≠C->X.s₀.heap.objs.size<=C->C≠X.env.locals->(∀x c,X.env.cells.lookup x=some c->c≠C)->(∀p∈X.pn++za,p.1≠C)->C∉frs X.stack->(∃m,s'.heap.Ns C m)->Inv X za σ (upd H2 D<|.lst ys) s'->RR (.ref D) C (.ok .next) s')\/
   (J.go i H2∧ys.length<AJ∧∃Nx:List V→St→Hp→Prop,(∀ys' σ' H',Nx ys' σ' H'→∃m',m'<m∧W (i+1) m' ys' σ' H')∧
    ∀x H',J.yld i H2 x H'->g x σb H' λσ2 H3=>tt σ2 H3 λb H4=>if b=true then te σ2 H4 λv H5=>Nx (ys++[v]) σ2 H5 else Nx ys σ2 H4)):
  AK (AG X.prog X.w) X.A (newList []) (fun acc s₃=>AK (AG X.prog X.w) X.A (newFunctionEnv scope X.env.globals (clo X.env.cells scope.names []) [] X.env.qual none .none (some X.env)) (fun cenv s₄=>
   codeAny (AG X.prog X.w) X.A (.compStart (.ListComp elt [⟨tg,iter,ifs,0⟩] scope pos) 0 (.ref it) acc {cenv with scope:=relabel scope X.env}) (RR acc cenv.locals) s₄) E s₃) E s:=
 aGh (λ_ _ _ _=>False) (λ_ _ _ _ _=>False) hc hsc hcn hcap hk I T st hfp hg ht he W m0 w0 RR (λ_ _ _ _ z=>z.elim) (λ_ _ _ _ _ _ z=>z.elim) turn
end L2
namespace DL
open PySem PySem.Spec PyProof.Rows L2
abbrev St:=L2.St
inductive D where
 |non|bl (b:Bool)|int (i:Int)|str (x:Str)|tup (ds:List D)|lst (ds:List D)|dic|scr (ns:List Int)|dki (ks:List Key) (ds:List D)|any (G:V->Hp->Prop)
mutual
def Rep(K:aB)(H:Hp):D->V->Prop
 |.non,v=>v=.non
 |.bl b,v=>v=.bl b
 |.int i,v=>v=.int i
 |.str x,v=>v=.str x
 |.tup ds,v=>∃a xs,v=.ref a/\H a=some (.tup xs)/\RepL K H ds xs
 |.lst ds,v=>∃a xs,v=.ref a/\H a=some (.lst xs)/\RepL K H ds xs
 |.dic,v=>∃a,v=.ref a/\H a=some (.dK [])
 |.dki ks ds,v=>∃a xs,v=.ref a/\(∃ob,H a=some (.frz ob (.dK<|ks.zip xs)))/\ks.length=ds.length/\RepL K H ds xs
 |.scr ns,v=>∃a,v=.ref a/\SqL K H a (ns.map V.int)
 |.any G,v=>(∃a,v=.ref a)/\∀H',Same H H'->G v H'
def RepL(K:aB)(H:Hp):List D->List V->Prop
 |[],xs=>xs=[]
 |d::ds,xs=>∃y ys,xs=y::ys/\Rep K H d y/\RepL K H ds ys
end
mutual
theorem Rep.mono{K:aB}{H H':Hp}(h:Same H H'):∀ {d:D}{v:V},Rep K H d v->Rep K H' d v
 |.non,_,r=>by simpa only[Rep] using r
 |.bl _,_,r=>by simpa only[Rep] using r
 |.int _,_,r=>by simpa only[Rep] using r
 |.str _,_,r=>by simpa only[Rep] using r
 |.tup ds,v,r=>by obtain⟨a,xs,e,q,rl⟩:=r;exact⟨a,xs,e,h _ _ q,RepL.mono h rl⟩
 |.lst ds,v,r=>by obtain⟨a,xs,e,q,rl⟩:=r;exact⟨a,xs,e,h _ _ q,RepL.mono h rl⟩
 |.dki ks ds,v,r=>by obtain⟨a,xs,e,⟨ob,q⟩,l,rl⟩:=r;exact⟨a,xs,e,⟨ob,h _ _ q⟩,l,RepL.mono h rl⟩
 |.dic,v,r=>by obtain⟨a,e,q⟩:=r;exact⟨a,e,h _ _ q⟩
 |.any G,v,r=>by exact⟨r.1,λH2 s=>r.2 H2<|h.trans s⟩
 |.scr ns,v,r=>by obtain⟨a,e,q⟩:=r;exact⟨a,e,h.seq q⟩
theorem RepL.mono{K:aB}{H H':Hp}(h:Same H H'):∀ {ds:List D}{xs:List V},RepL K H ds xs->RepL K H' ds xs
 |[],_,r=>by simpa only[RepL] using r
 |d::ds,xs,r=>by simp only[RepL] at r ⊢;obtain⟨y,ys,e,q,rl⟩:=r;exact⟨y,ys,e,Rep.mono h q,RepL.mono h rl⟩
end
def RepL.len{K:aB}:∀ {ds:List D}{xs:List V},RepL K H ds xs->xs.length=ds.length
 |[],_,r=>by rw[r];rfl
 |d::ds,xs,r=>by obtain⟨y,ys,rfl,_,q⟩:=r;simp only[bJ,RepL.len q]
def RepL.get{K:aB}:∀ {ds:List D}{xs:List V}{i:Nat}{d:D},RepL K H ds xs->ds[i]? =some d->∃v,xs[i]? =some v/\Rep K H d v
 |[],_,i,d,r,e=>by simp at e
 |d'::ds,xs,i,d,r,e=>by
  obtain⟨y,ys,rfl,q,rl⟩:=r;cases i with
  |zero=>simp at e;subst e;exact⟨y,rfl,q⟩
  |succ i=>
   have e':=by simpa using e
   obtain⟨v,h1,h2⟩:=RepL.get rl e';exact⟨v,by simpa using h1,h2⟩
def RepL.app{K:aB}:∀ {ds es:List D}{xs ys:List V},RepL K H ds xs->RepL K H es ys->RepL K H (ds++es) (xs++ys)
 |[],es,xs,ys,r,q=>by subst r;exact q
 |d::ds,es,xs,ys,r,q=>by obtain⟨y,zs,rfl,a,rl⟩:=r;exact⟨y,_,rfl,a,RepL.app rl q⟩
def RepL.nil{K:aB}:RepL K H [] []:=by simp only[RepL]
def RepL.cons{K:aB}(a:Rep K H d x)(b:RepL K H ds xs):RepL K H (d::ds) (x::xs):=⟨x,xs,rfl,a,b⟩
def RepL.one{K:aB}(a:Rep K H d x):RepL K H [d] [x]:=.cons a .nil
def RepL.uncons{K:aB}(r:RepL K H (d::ds) xs):∃y ys,xs=y::ys/\Rep K H d y/\RepL K H ds ys:=by simpa only[RepL] using r
def RepL.take{K:aB}:∀ {ds:List D}{xs:List V} (n:Nat),RepL K H ds xs->RepL K H (ds.take n) (xs.take n)
 |_,_,0,_=>.nil
 |[],xs,n+1,r=>by subst r;exact .nil
 |d::ds,xs,n+1,r=>by obtain⟨y,ys,rfl,a,rl⟩:=r.uncons;exact .cons a<|RepL.take n rl
def RepL.drop{K:aB}:∀ {ds:List D}{xs:List V} (n:Nat),RepL K H ds xs->RepL K H (ds.drop n) (xs.drop n)
 |_,_,0,r=>by simpa using r
 |[],xs,n+1,r=>by subst r;exact .nil
 |d::ds,xs,n+1,r=>by obtain⟨y,ys,rfl,a,rl⟩:=r.uncons;exact RepL.drop n rl
def RepL.ints{K:aB}:∀ {ns:List Int}{xs:List V},RepL K H (ns.map D.int) xs->xs=ns.map V.int
 |[],xs,r=>by simpa only[gB,RepL] using r
 |n::ns,xs,r=>by obtain⟨y,ys,rfl,a,rl⟩:=r.uncons;rw[a,RepL.ints rl];rfl
inductive Slot where
 |un|val (d:D)|own (l:BF) (ds:List D)|gh (d:D) (G:V->Hp->Prop)|od (l:BF) (ks:List Key) (ds:List D)|ox (ls:List BF) (G:V->Hp->Hp->Prop)
def Wr(l:BF):HO->Prop
 |.lst _=>True
 |.dK _=>True
 |.ext φ=>∃o:BI,φ=(λh=>h.get? l=some o)/\∀v,o.data≠ .cell v
 |_=>False
def eF(K:aB)(F H:Hp):Slot->Option V->Prop
 |.un,_=>True
 |.val d,o=>∃v,o=some v/\Rep K F d v
 |.own l ds,o=>o=some (.ref l)/\F l=none/\∃xs,H l=some (.lst xs)/\RepL K F ds xs
 |.od l ks ds,o=>o=some (.ref l)/\F l=none/\∃xs,H l=some (.dK<|ks.zip xs)/\ks.length=ds.length/\RepL K F ds xs
 |.gh d G,o=>∃v,o=some v/\Rep K F d v/\∀F',Same F F'->G v F'
 |.ox ls G,o=>∃v,o=some v/\(∀l∈ls,F l=none/\∃ob,H l=some ob/\Wr l ob)/\∀F' H',Same F F'->(∀l∈ls,∀ob,H l=some ob->H' l=some ob)->G v F' H'
def SlotsOk(K:aB)(F H:Hp):List Slot->St->Prop
 |[],σ=>σ=[]
 |z::zs,σ=>∃o r,σ=o::r/\eF K F H z o/\SlotsOk K F H zs r
noncomputable def iM:Slot->List BF
 |.own l _=>[l]
 |.od l _ _=>[l]
 |.ox ls _=>ls
 |_=>[]
def cS(sd:List Slot):List BF:=sd.flatMap iM
def mJ(z:Slot)(zs:List Slot):cS (z::zs)=iM z++cS zs:=rfl
structure StF(K:aB)(H₀ F H:Hp)(σ:St)(sd:List Slot):Prop where
 base:Same H₀ F
 sub:Same F H
 smp:Smp H
 slots:SlotsOk K F H sd σ
 nd:(cS sd).Nodup
variable {K:aB}{H₀ F F' H H':Hp}{σ:St}{sd:List Slot}
def SlotsOk.get:∀ {sd:List Slot}{σ:St}{i:Nat}{z:Slot},SlotsOk K F H sd σ->sd[i]? =some z->∃o,σ[i]? =some o/\eF K F H z o
 |[],_,_,_,_,e=>by simp at e
 |z'::zs,σ,i,z,h,e=>by
  obtain⟨o,r,rfl,a,b⟩:=h;cases i with
  |zero=>simp at e;subst e;exact⟨o,rfl,a⟩
  |succ i=>obtain⟨o',h1,h2⟩:=SlotsOk.get b (by simpa using e);exact⟨o',by simpa using h1,h2⟩
def SlotsOk.set(q:eF K F H z o):∀ {sd:List Slot}{σ:St} (i:Nat),SlotsOk K F H sd σ->SlotsOk K F H (sd.set i z) (σ.set i o)
 |[],_,_,h=>by subst h;rfl
 |z'::zs,σ,i,h=>by
  obtain⟨o',r,rfl,a,b⟩:=h;cases i with
  |zero=>exact⟨o,r,rfl,q,b⟩
  |succ i=>exact⟨o',_,rfl,a,SlotsOk.set q i b⟩
theorem SlotsOk.mono(hF:Same F F'):∀ {sd:List Slot}{σ:St},(∀l∈cS sd,F' l=none/\∀xs,H l=some xs->H' l=some xs)->SlotsOk K F H sd σ->SlotsOk K F' H' sd σ
 |[],_,_,h=>h
 |z::zs,σ,ho,h=>by
  obtain⟨o,r,rfl,a,b⟩:=h;refine⟨o,r,rfl,?_,SlotsOk.mono hF (λl hl=>ho l ?_) b⟩
  ·cases z with
   |un=>trivial
   |val d=>obtain⟨v,e,q⟩:=a;exact⟨v,e,q.mono hF⟩
   |gh d G=>obtain⟨v,e,q,g⟩:=a;exact⟨v,e,q.mono hF,λF2 s2=>g F2<|hF.trans s2⟩
   |own l ds=>obtain⟨e,n,xs,q,rl⟩:=a;have:=ho l (by simp[mJ,iM]);exact⟨e,this.1,xs,this.2 _ q,rl.mono hF⟩
   |od l ks ds=>obtain⟨e,n,xs,q,ln,rl⟩:=a;have:=ho l (by simp[mJ,iM]);exact⟨e,this.1,xs,this.2 _ q,ln,rl.mono hF⟩
   |ox ls G=>
    obtain⟨v,e,h,g⟩:=a;have ho':=λl hl=>ho l<|bN _ hl
    exact⟨v,e,λl hl=>⟨(ho' l hl).1,let ⟨ob,q,w⟩:=(h l hl).2;⟨ob,(ho' l hl).2 _ q,w⟩⟩,λF2 H2 s2 k=>g F2 H2 (hF.trans s2) λl hl ob q=>k l hl ob<|(ho' l hl).2 _ q⟩
  ·exact aJ _ hl
def SlotsOk.owns:∀ {sd:List Slot}{σ:St}{l:BF},SlotsOk K F H sd σ->l∈cS sd->F l=none/\∃ob,H l=some ob/\Wr l ob
 |[],_,_,_,e=>by simp[cS] at e
 |z::zs,σ,l,h,e=>by
  obtain⟨o,r,rfl,a,b⟩:=h
  rcases aV.mp (e) with e|e
  ·cases z with
   |un=>cases e
   |val d=>cases e
   |gh d G=>cases e
   |own l' ds=>rw[aK.mp e];obtain⟨_,n,xs,q,_⟩:=a;exact⟨n,_,q,trivial⟩
   |od l' ks ds=>rw[aK.mp e];obtain⟨_,n,xs,q,_⟩:=a;exact⟨n,_,q,trivial⟩
   |ox ls G=>obtain⟨v,_,h,_⟩:=a;exact h l e
  ·exact SlotsOk.owns b e
def StF.lay(S:StF K H₀ F H σ sd)(hp:H p=none)(ho:aQs o):StF K H₀ (upd F p o) (upd H p o) σ sd/\Same F (upd F p o):=by
 have fp:=S.sub.free hp;have s1:Same F (upd F p o):=λb u e=>by rw[aW<|cC e fp];exact e
 refine⟨⟨λb u e=>s1 _ _<|S.base _ _ e,λb u e=>?_,λb u e=>?_,S.slots.mono s1 λl hl=>?_,S.nd⟩,s1⟩
 ·by_cases h:b=p
  ·subst h;rw[bH] at e ⊢;exact e
  ·rw[aW h] at e ⊢;exact S.sub _ _ e
 ·by_cases h:b=p
  ·subst h;rw[bH] at e;cases e;exact ho
  ·rw[aW h] at e;exact S.smp _ _ e
 ·obtain⟨n,xs,q,_⟩:=S.slots.owns hl;have hne:=cC q hp;exact⟨by rw[aW hne];exact n,λys e=>by rw[aW hne];exact e⟩
def StF.layO(S:StF K H₀ F H σ sd)(hp:H p=none):StF K H₀ F (upd H p<|.lst xs) σ sd/\F p=none/\p∉cS sd:=by
 have fp:=S.sub.free hp;refine⟨⟨S.base,λb u e=>?_,λb u e=>?_,S.slots.mono (Same.refl _) λl hl=>?_,S.nd⟩,fp,λhl=>?_⟩
 ·rw[aW<|cC e fp];exact S.sub _ _ e
 ·by_cases h:b=p
  ·subst h;rw[bH] at e;cases e;trivial
  ·rw[aW h] at e;exact S.smp _ _ e
 ·obtain⟨n,ys,q,_⟩:=S.slots.owns hl;have hne:=cC q hp;exact⟨n,λys e=>by rw[aW hne];exact e⟩
 ·obtain⟨n,ys,q,_⟩:=S.slots.owns hl;rw[hp] at q;cases q
def StF.freeze(S:StF K H₀ F H σ sd)(hp:H p=some (.lst xs))(fp:F p=none)(ho:p∉cS sd):StF K H₀ (upd F p<|.lst xs) H σ sd/\Same F (upd F p<|.lst xs):=by
 have s1:Same F (upd F p<|.lst xs):=λb u e=>by rw[aW<|cC e fp];exact e
 refine⟨⟨λb u e=>s1 _ _<|S.base _ _ e,λb u e=>?_,S.smp,S.slots.mono s1 λl hl=>?_,S.nd⟩,s1⟩
 ·by_cases h:b=p
  ·subst h;rw[bH] at e;rw[hp];exact e
  ·rw[aW h] at e;exact S.sub _ _ e
 ·obtain⟨n,ys,q,_⟩:=S.slots.owns hl;have hne:l≠p:=λz=>ho (z▸hl)
  exact⟨by rw[aW hne];exact n,λys e=>e⟩
def SlotsOk.len:∀ {sd:List Slot}{σ:St},SlotsOk K F H sd σ->σ.length=sd.length
 |[],_,h=>by rw[h];rfl
 |z::zs,σ,h=>by obtain⟨o,r,rfl,_,b⟩:=h;simp[SlotsOk.len b]
inductive R where
 |val (d:D)|own (ds:List D)|bor (ds:List D)|pr (d:D) (ls:List D)|ox (G:V->List BF->Hp->Hp->Prop)
def LOk(K:aB)(F H:Hp)(sd:List Slot)(v:V)(ds:List D):Prop:=
 ∃l xs,v=.ref l/\H l=some (.lst xs)/\RepL K F ds xs/\(F l=some (.lst xs)\/Slot.own l ds∈sd)
def ResOk(K:aB)(F H:Hp)(sd:List Slot):R->V->Prop
 |.val d,v=>Rep K F d v
 |.own ds,v=>∃l xs,v=.ref l/\F l=none/\H l=some (.lst xs)/\RepL K F ds xs/\l∉cS sd
 |.bor ds,v=>LOk K F H sd v ds
 |.pr d ls,v=>∃t l xs y,v=.ref t/\F t=some (.tup [y,.ref l])/\Rep K F d y/\F l=none/\H l=some (.lst xs)/\RepL K F ls xs/\l∉cS sd
 |.ox G,v=>∃ls:List BF,ls.Nodup/\(∀l∈ls,F l=none/\(∃ob,H l=some ob/\Wr l ob)/\l∉cS sd)/\∀F' H',Same F F'->(∀l∈ls,∀ob,H l=some ob->H' l=some ob)->G v ls F' H'
def R.keeps:R->Prop
 |.own _=>False
 |.pr _ _=>False
 |.ox _=>False
 |_=>True
variable {r:R}{v:V}
def ResOk.keep(hr:r.keeps)(h:ResOk K F H sd r v)(S':StF K H₀ F' H' σ sd)(s:Same F F'):ResOk K F' H' sd r v:=by
 cases r with
 |val d=>exact Rep.mono s h
 |own ds=>exact hr.elim
 |pr d ls=>exact hr.elim
 |ox G=>exact hr.elim
 |bor ds=>
  obtain⟨l,xs,e,hl,rl,q⟩:=h
  rcases q with q|q
  ·exact⟨l,xs,e,S'.sub _ _<|s _ _ q,rl.mono s,.inl<|s _ _ q⟩
  ·obtain⟨i,hi⟩:=eL q;obtain⟨o,_,e2,_,ys,h1,h2⟩:=S'.slots.get hi;exact⟨l,ys,e,h1,h2,.inr q⟩
structure PEd(X:Cx)(sd:List Slot)(e:Expr)(r:R):Prop where
 run:∀ (σ:St) (F H:Hp),StF X.K X.B₀ F H σ sd->
 wE X e σ H λv H'=>∃F',StF X.K X.B₀ F' H' σ sd/\Same F F'/\ResOk X.K F' H' sd r v
instance {X:Cx}{sd:List Slot}{e:Expr}{r:R}:CoeFun (PEd X sd e r) (fun _=>∀ (σ:St) (F H:Hp),StF X.K X.B₀ F H σ sd→
 wE X e σ H λv H'=>∃F',StF X.K X.B₀ F' H' σ sd/\Same F F'/\ResOk X.K F' H' sd r v):=⟨PEd.run⟩
structure PTd(X:Cx)(sd:List Slot)(e:Expr)(b:Bool):Prop where
 run:∀ (σ:St) (F H:Hp),StF X.K X.B₀ F H σ sd->
 wT X e σ H λc H'=>c=b/\∃F',StF X.K X.B₀ F' H' σ sd/\Same F F'
instance {X:Cx}{sd:List Slot}{e:Expr}{b:Bool}:CoeFun (PTd X sd e b) (fun _=>∀ (σ:St) (F H:Hp),StF X.K X.B₀ F H σ sd→
 wT X e σ H λc H'=>c=b/\∃F',StF X.K X.B₀ F' H' σ sd/\Same F F'):=⟨PTd.run⟩
structure PWd(X:Cx)(sd:List Slot)(e:Expr)(b:Bool):Prop where
 run:∀ (σ:St) (F H:Hp),StF X.K X.B₀ F H σ sd->
 wW X e σ H λc H'=>c=b/\∃F',StF X.K X.B₀ F' H' σ sd/\Same F F'
instance {X:Cx}{sd:List Slot}{e:Expr}{b:Bool}:CoeFun (PWd X sd e b) (fun _=>∀ (σ:St) (F H:Hp),StF X.K X.B₀ F H σ sd→
 wW X e σ H λc H'=>c=b/\∃F',StF X.K X.B₀ F' H' σ sd/\Same F F'):=⟨PWd.run⟩
inductive RsOk(K:aB)(F H:Hp)(sd:List Slot):List R->List V->Prop
 |nil:RsOk K F H sd [] []
 |cons {r v rs vs}:ResOk K F H sd r v->RsOk K F H sd rs vs->RsOk K F H sd (r::rs) (v::vs)
structure PAd(X:Cx)(sd:List Slot)(es:List Expr)(rs:List R):Prop where
 run:∀ (σ:St) (F H:Hp),StF X.K X.B₀ F H σ sd->
 wA X es σ H λvs H'=>∃F',StF X.K X.B₀ F' H' σ sd/\Same F F'/\RsOk X.K F' H' sd rs vs
instance {X:Cx}{sd:List Slot}{es:List Expr}{rs:List R}:CoeFun (PAd X sd es rs) (fun _=>∀ (σ:St) (F H:Hp),StF X.K X.B₀ F H σ sd→
 wA X es σ H λvs H'=>∃F',StF X.K X.B₀ F' H' σ sd/\Same F F'/\RsOk X.K F' H' sd rs vs):=⟨PAd.run⟩
structure gX where
 nx:List Slot->Prop
 rt:R->Prop
 bk:List Slot->Prop:=λ_=>False
 ct:List Slot->Prop:=λ_=>False
def aHA(K:aB)(H₀ H:Hp)(r:R)(v:V):Prop:=∃F,Same H₀ F/\Same F H/\Smp H/\ResOk K F H [] r v
noncomputable def lft(X:Cx)(F₀:Hp)(E:gX):vV where
 nx:=λσ H=>∃sd F,StF X.K X.B₀ F H σ sd/\Same F₀ F/\E.nx sd
 rt:=λv H=>∃r,aHA X.K X.B₀ H r v/\E.rt r
 bk:=λσ H=>∃sd F,StF X.K X.B₀ F H σ sd/\Same F₀ F/\E.bk sd
 ct:=λσ H=>∃sd F,StF X.K X.B₀ F H σ sd/\Same F₀ F/\E.ct sd
structure PSd(X:Cx)(sd:List Slot)(sts:List BJ)(E:gX):Prop where
 run:∀ (σ:St) (F H:Hp),StF X.K X.B₀ F H σ sd->wSs X sts (lft X F E) σ H
instance {X:Cx}{sd:List Slot}{sts:List BJ}{E:gX}:CoeFun (PSd X sd sts E) (λ_=>∀ (σ:St) (F H:Hp),StF X.K X.B₀ F H σ sd->wSs X sts (lft X F E) σ H):=⟨PSd.run⟩
structure PSd1(X:Cx)(sd:List Slot)(st:BJ)(E:gX):Prop where
 run:∀ (σ:St) (F H:Hp),StF X.K X.B₀ F H σ sd->wS X st (lft X F E) σ H
instance {X:Cx}{sd:List Slot}{st:BJ}{E:gX}:CoeFun (PSd1 X sd st E) (λ_=>∀ (σ:St) (F H:Hp),StF X.K X.B₀ F H σ sd->wS X st (lft X F E) σ H):=⟨PSd1.run⟩
variable {X:Cx}{e a b c:Expr}{es:List Expr}{pos:Pos}{ra rb:R}{d:D}{ds:List D}
def PEd.val(h:PEd X sd e (.own ds)):PEd X sd e (.val<|.lst ds):=.mk λσ F H S=>(h σ F H S).imp λv H' ⟨F',S',s,l,xs,e,n,q,rl,no⟩=>by obtain⟨S2,s2⟩:=S'.freeze q n no;refine⟨_,S2,s.trans s2,?_⟩;exact⟨l,xs,e,bH,rl.mono s2⟩
def PEd.bor(h:PEd X sd e (.val<|.lst ds)):PEd X sd e (.bor ds):=.mk λσ F H S=>(h σ F H S).imp λv H' ⟨F',S',s,q⟩=>by obtain⟨l,xs,e,q,rl⟩:=q;exact⟨F',S',s,l,xs,e,S'.sub _ _ q,rl,.inl q⟩
def oU(i:Nat)(hs:sd[i]? =some (.val d))(h:PE X (.Name x pos) (iQ i)):PEd X sd (.Name x pos) (.val d):= .mk fun σ F H S=>h.to (by
 obtain⟨o,h1,v,h2,q⟩:=S.slots.get hs
 exact⟨v,by rw[h1,h2],F,S,Same.refl _,q⟩)
def uB(i:Nat)(hs:sd[i]? =some (.own l ds))(h:PE X (.Name x pos) (iQ i)):PEd X sd (.Name x pos) (.bor ds):= .mk fun σ F H S=>h.to (by
 obtain⟨o,h1,h2,n,xs,q,rl⟩:=S.slots.get hs
 exact⟨.ref l,by rw[h1,h2],F,S,Same.refl _,l,xs,rfl,q,rl,.inr (bC hs)⟩)
def bS:PEd X sd (.Constant (.int i) j pos) (.val<|.int i):=.mk λσ F H S=>pe_int.to ⟨F,S,Same.refl _,by simp only[ResOk,Rep]⟩
def aEk:PEd X sd (.Constant (.bool i) j pos) (.val<|.bl i):=.mk λσ F H S=>pe_bl.to ⟨F,S,Same.refl _,by simp only[ResOk,Rep]⟩
def fD:PEd X sd (.Constant .none j pos) (.val .non):=.mk λσ F H S=>pe_non.to ⟨F,S,Same.refl _,by simp only[ResOk,Rep]⟩
def fE:PEd X sd (.Constant (.str i) j pos) (.val<|.str i):=.mk λσ F H S=>pe_str.to ⟨F,S,Same.refl _,by simp only[ResOk,Rep]⟩
def aIV(hg:Gl X x)(hm:X.mg x=some u)(ru:RelV (.int i) u)(hd:(x==("__debug__":Str))=false:=by decide):PEd X sd (.Name x pos) (.val<|.int i):=.mk λσ F H S=>(wV hg hm ru hd).to ⟨F,S,Same.refl _,by simp only[ResOk,Rep]⟩
def aE:PAd X sd [] []:=.mk λσ F H S=>pa_nil.to ⟨F,S,Same.refl _,.nil⟩
theorem aA(h1:PEd X sd e r)(h2:PAd X sd es rs)(hk:r.keeps:=by trivial)(hs:AB (e::es) X.env=(false,eval e X.env)::AB es X.env:=by rfl):PAd X sd (e::es) (r::rs):=.mk λσ F H S=>(cO eO pN hs).to<|(h1 σ F H S).imp λv H1 ⟨F1,S1,s1,q1⟩=>(h2 σ F1 H1 S1).imp λvs H2 ⟨F2,S2,s2,q2⟩=>⟨F2,S2,s1.trans s2,.cons (q1.keep hk S2 s2) q2⟩
def RsOk.vals:∀ {ds:List D}{vs:List V},RsOk K F H sd (ds.map R.val) vs->RepL K F ds vs
 |[],_,.nil=>.nil
 |_::_,_,.cons q t=>.cons q<|RsOk.vals t
theorem xP(h:PAd X sd es (ds.map R.val))(hl:ds.length<=10000):PEd X sd (.Tuple es x1 pos) (.val<|.tup ds):=.mk λσ F H S=>
 (aEy pN).to ((h σ F H S).imp fun vs H1 ⟨F1,S1,s1,q1⟩=>by
  have rl:=q1.vals;refine⟨by rw[rl.len];exact cZ<|eY hl,λp hp=>?_⟩;obtain⟨S2,s2⟩:=S1.lay (o:=.tup vs) hp trivial;refine⟨_,S2,s1.trans s2,?_⟩
  exact⟨p,vs,rfl,bH,rl.mono s2⟩)
theorem lH(h:PAd X sd es (ds.map R.val))(hl:ds.length<=10000):PEd X sd (.List es pos) (.own ds):=.mk λσ F H S=>
 (aPP pN).to ((h σ F H S).imp fun vs H1 ⟨F1,S1,s1,q1⟩=>by
  have rl:=q1.vals;refine⟨by rw[rl.len];exact cZ<|eY hl,λp hp=>?_⟩;obtain⟨S2,fp,no⟩:=S1.layO hp
  exact⟨_,S2,s1,p,vs,rfl,fp,bH,rl,no⟩)
theorem yE(ho:OpR X (Al op) r2)(ha:PEd X sd a ra)(hb:PEd X sd b rb)(hk:ra.keeps)(h:∀ (σ:St) (F H:Hp) (v u:V) (Q:VK),StF X.K X.B₀ F H σ sd->ResOk X.K F H sd ra v->ResOk X.K F H sd rb u->(∀w F' H',StF X.K X.B₀ F' H' σ sd->Same F F'->ResOk X.K F' H' sd r w->Q w H')->r2 v u H Q):PEd X sd (.BinOp a op b pos) r:=.mk λσ F H S=>
 (aRE ho eO eO).to ((ha σ F H S).imp λv H1 ⟨F1,S1,s1,q1⟩=>(hb σ F1 H1 S1).imp λu H2 ⟨F2,S2,s2,q2⟩=>h σ F2 H2 v u _ S2 (q1.keep hk S2 s2) q2 λw F' H' S' s' q'=>⟨F',S',(s1.trans s2).trans s',q'⟩)
theorem nE(ho:OpR X (AT op) r2)(ha:PEd X sd a ra)(hb:PEd X sd b rb)(hk:ra.keeps)(hm:AX op b=false)(h:∀ (σ:St) (F H:Hp) (v u:V) (Q:VK),StF X.K X.B₀ F H σ sd->ResOk X.K F H sd ra v->ResOk X.K F H sd rb u->(∀F' H',StF X.K X.B₀ F' H' σ sd->Same F F'->Q (.bl k) H')->r2 v u H Q):PEd X sd (.Compare a [op] [b] pos) (.val<|.bl k):=.mk λσ F H S=>
 (aFL ho eO eO hm).to ((ha σ F H S).imp λv H1 ⟨F1,S1,s1,q1⟩=>(hb σ F1 H1 S1).imp λu H2 ⟨F2,S2,s2,q2⟩=>h σ F2 H2 v u _ S2 (q1.keep hk S2 s2) q2 λF' H' S' s'=>⟨F',S',(s1.trans s2).trans s',by simp only[ResOk,Rep]⟩)
theorem oV(h:PEd X sd e (.val<|.bl k))(he:∀whole,isTrue e X.env whole=(do let v <-whole;standAt e.pos;holding [v] (truthy v)):=by intro _;rfl):PTd X sd e k:=.mk λσ F H S=>(aPK eO he).to<|(h σ F H S).imp λv H1 ⟨F1,S1,s1,q1⟩=>⟨k,q1,rfl,F1,S1,s1⟩
theorem iY(ho:OpR X (AT op) r2)(ha:PEd X sd a ra)(hb:PEd X sd b rb)(hk:ra.keeps)(hm:AX op b=false)(h:∀ (σ:St) (F H:Hp) (v u:V) (Q:VK),StF X.K X.B₀ F H σ sd->ResOk X.K F H sd ra v->ResOk X.K F H sd rb u->(∀F' H',StF X.K X.B₀ F' H' σ sd->Same F F'->Q (.bl k) H')->r2 v u H Q):PTd X sd (.Compare a [op] [b] pos) k:=.mk λσ F H S=>
 (aBq ho eO eO hm).to ((ha σ F H S).imp λv H1 ⟨F1,S1,s1,q1⟩=>(hb σ F1 H1 S1).imp λu H2 ⟨F2,S2,s2,q2⟩=>h σ F2 H2 v u _ S2 (q1.keep hk S2 s2) q2 λF' H' S' s'=>⟨k,rfl,rfl,F',S',(s1.trans s2).trans s'⟩)
variable {st:BJ}{rest:List BJ}{E:gX}
def wS.imp{D D':vV}(h:wS X st D σ H)(k1:∀σ H,D.nx σ H->D'.nx σ H)(k2:∀v H,D.rt v H->D'.rt v H)(k3:∀σ H,D.bk σ H->D'.bk σ H)(k4:∀σ H,D.ct σ H->D'.ct σ H):wS X st D' σ H:=
 λza s I=>thn (h za s I) λf s' q=>q.imp k1 k2 k3 k4
def wQ(h:PTd X sd e k):PTd X sd (.UnaryOp .Not e pos) (!k):=.mk λσ F H S=>(aOY aJz).to<|(h σ F H S).imp λc H' ⟨e,q⟩=>⟨by rw[e],q⟩
def sL(h:PTd X sd a k):PWd X sd (.BoolOp .And [a] pos) k:=.mk λσ F H S=>(aLY aJz).to<|h σ F H S
def qU(h:PTd X sd a k):PWd X sd (.BoolOp .Or [a] pos) k:=.mk λσ F H S=>(aPF aJz).to<|h σ F H S
theorem qS(h:PTd X sd a k)(h2:k=true->PWd X sd (.BoolOp .And (b::es) pos) j):PWd X sd (.BoolOp .And (a::b::es) pos) (k&&j):=.mk λσ F H S=>
 (aPs aJz aQN).to ((h σ F H S).imp fun c H' ⟨e,F',S',s'⟩=>by
  subst e;cases c with
  |false=>exact aJw ⟨rfl,F',S',s'⟩
  |true=>exact aJA ((h2 rfl σ F' H' S').imp λc2 H2 ⟨e2,F2,S2,s2⟩=>⟨by rw[e2];rfl,F2,S2,s'.trans s2⟩))
theorem uS(h:PTd X sd a k)(h2:k=false->PWd X sd (.BoolOp .Or (b::es) pos) j):PWd X sd (.BoolOp .Or (a::b::es) pos) (k||j):=.mk λσ F H S=>
 (aRk aJz aQN).to ((h σ F H S).imp fun c H' ⟨e,F',S',s'⟩=>by
  subst e;cases c with
  |true=>exact aJA ⟨rfl,F',S',s'⟩
  |false=>exact aJw ((h2 rfl σ F' H' S').imp λc2 H2 ⟨e2,F2,S2,s2⟩=>⟨by rw[e2];rfl,F2,S2,s'.trans s2⟩))
def PWd.pt(h:PWd X sd e k):PTd X sd e k:=.mk λσ F H S=>(aQN).pt.to<|h σ F H S
def aBS(h:PEd X sd a r):PEd X sd (.BoolOp op [a] pos) r:=.mk λσ F H S=>(aPH eO).to<|h σ F H S
theorem xC(h:PEd X sd a (.val<|.bl k))(h2:k=true->PEd X sd (.BoolOp .And (b::es) pos) (.val<|.bl j)):PEd X sd (.BoolOp .And (a::b::es) pos) (.val (.bl<|k&&j)):=.mk λσ F H S=>
 (aOJ eO eO).to ((h σ F H S).imp fun v H' ⟨F',S',s',q⟩=>by
  subst q;refine⟨k,rfl,?_⟩;cases k with
  |false=>exact aJw ⟨F',S',s',by simp only[ResOk,Rep,aQh]⟩
  |true=>exact aJA ((h2 rfl σ F' H' S').imp λv2 H2 ⟨F2,S2,s2,q2⟩=>⟨F2,S2,s'.trans s2,by simpa using q2⟩))
def xF(h:PEd X sd a (.val<|.bl k)):PEd X sd (.UnaryOp .Not a pos) (.val (.bl<|!k)):=.mk λσ F H S=>(aPm eO).to<|(h σ F H S).imp λv H' ⟨F',S',s',q⟩=>⟨k,q,F',S',s',by simp only[ResOk,Rep]⟩
theorem aEC(h:PTd X sd c k)(h1:k=true->PEd X sd a r)(h2:k=false->PEd X sd b r):PEd X sd (.IfExp c a b pos) r:=.mk λσ F H S=>
 (aII aJz eO eO).to ((h σ F H S).imp fun k' H' ⟨e,F',S',s'⟩=>by
  subst e;cases k' with
  |true=>exact aJA<|(h1 rfl σ F' H' S').imp λv2 H2 ⟨F2,S2,s2,q2⟩=>⟨F2,S2,s'.trans s2,q2⟩
  |false=>exact aJw ((h2 rfl σ F' H' S').imp λv2 H2 ⟨F2,S2,s2,q2⟩=>⟨F2,S2,s'.trans s2,q2⟩))
def fO{g:Int->Int->Int}(ho:OpR X (Al op) (rI0 λi j=>.int<|g i j))(ha:PEd X sd a (.val<|.int i))(hb:PEd X sd b (.val<|.int j)):PEd X sd (.BinOp a op b pos) (.val (.int<|g i j)):=
 yE ho ha hb trivial λσ F H v u Q S q1 q2 k=>⟨i,j,q1,q2,k _ F H S (Same.refl _)<|by simp only[ResOk,Rep]⟩
def dJ{g:Int->Int->Int}(ho:OpR X (Al op) (rI C λi j=>.int<|g i j))(ha:PEd X sd a (.val<|.int i))(hb:PEd X sd b (.val<|.int j))(hc:C i j):PEd X sd (.BinOp a op b pos) (.val (.int<|g i j)):=
 yE ho ha hb trivial λσ F H v u Q S q1 q2 k=>⟨i,j,q1,q2,hc,k _ F H S (Same.refl _)<|by simp only[ResOk,Rep]⟩
def iN:OpR X (Al .Mult) (rI IntMulOk λi j=>.int<|i*j):=opI λ_ _ _ _ _ _ _ hc q=>mul_int q hc
theorem sD:OpR X (Al .FloorDiv) (rI (λ_ j=>0<j/\j.natAbs.log2<9000) λi j=>.int<|i / j):=opI λi j _ _ _ _ _ hc q=>floordiv_int (by lia) (by rw[aAW i<|by lia];exact q) (.inl<|PyProof.noPylong_of_log2 hc.2)
def aKY{g:Int->Int->Bool}(ho:OpR X (AT op) (rI0 λi j=>.bl<|g i j))(ha:PEd X sd a (.val<|.int i))(hb:PEd X sd b (.val<|.int j))(hm:AX op b=false):PEd X sd (.Compare a [op] [b] pos) (.val (.bl<|g i j)):=
 nE ho ha hb trivial hm λσ F H v u Q S q1 q2 k=>⟨i,j,q1,q2,k F H S<|Same.refl _⟩
def pY{g:Int->Int->Bool}(ho:OpR X (AT op) (rI0 λi j=>.bl<|g i j))(ha:PEd X sd a (.val<|.int i))(hb:PEd X sd b (.val<|.int j))(hm:AX op b=false):PTd X sd (.Compare a [op] [b] pos) (g i j):=
 iY ho ha hb trivial hm λσ F H v u Q S q1 q2 k=>⟨i,j,q1,q2,k F H S<|Same.refl _⟩
noncomputable def flt:D->Option V
 |.non=>some .non
 |.bl b=>some<|.bl b
 |.int i=>some<|.int i
 |.str x=>some<|.str x
 |_=>none
def lX(h:flt d=some x)(q:Rep K H d v):v=x:=by
 cases d with
 |non=>rw[q];exact bZ.inj h
 |bl=>rw[q];exact bZ.inj h
 |int=>rw[q];exact bZ.inj h
 |str=>rw[q];exact bZ.inj h
 |tup=>cases h
 |lst=>cases h
 |dic=>cases h
 |dki=>cases h
 |any=>cases h
 |scr=>cases h
def jY(ha:PEd X sd a (.val d1))(hb:PEd X sd b (.val d2))(h1:flt d1=some x)(h2:flt d2=some y)(hs:aNz x y=true)(hk:decide (x=y)=k):PTd X sd (.Compare a [.Eq] [b] pos) k:=
 iY aOG ha hb trivial (fN _) λσ F H v u Q S q1 q2 kk=>by have e1:=lX h1 q1;have e2:=lX h2 q2;subst e1 e2;exact⟨hs,by rw[hk];exact kk F H S<|Same.refl _⟩
def wL(ha:PEd X sd a (.val d1))(hb:PEd X sd b (.val d2))(h1:flt d1=some x)(h2:flt d2=some y)(hs:aNz x y=true)(hk:(!decide (x=y))=k):PTd X sd (.Compare a [.NotEq] [b] pos) k:=
 iY aOC ha hb trivial (fN _) λσ F H v u Q S q1 q2 kk=>by have e1:=lX h1 q1;have e2:=lX h2 q2;subst e1 e2;exact⟨hs,by rw[hk];exact kk F H S<|Same.refl _⟩
def aBw(ha:PEd X sd a (.val<|.int i))(hb:PEd X sd b (.val<|.int j)):PTd X sd (.Compare a [.Eq] [b] pos) (decide<|i=j):=jY ha hb rfl rfl rfl (by rw[aBC,aEg])
def aPz:OpR X (AT .Is) (λx y H Q=>∃p q:Bool,x=.bl p/\y=.bl q/\Q (.bl<|p==q) H):=by intro za s σ H x y v u Q I rx ry h;obtain⟨p,q,rfl,rfl,h⟩:=h;cases(rx);cases(ry);refine wpAny_is_plain (by cases p<;>cases q<;>rfl) ⟨.bl<|p==q,H,I,?_,h⟩;cases p<;>cases q<;>rfl
def aPc(ha:PEd X sd a (.val<|.bl p))(hb:PEd X sd b (.val<|.bl q)):PEd X sd (.Compare a [.Is] [b] pos) (.val (.bl<|p==q)):=
 nE aPz ha hb trivial (fN _) λσ F H v u Q S q1 q2 k=>⟨p,q,q1,q2,k F H S<|Same.refl _⟩
def tK(ha:PEd X sd a (.val<|.bl p))(hb:PEd X sd b (.val<|.bl q)):PTd X sd (.Compare a [.NotEq] [b] pos) (!decide (p=q)):=wL ha hb rfl rfl rfl (by rw[aEW,aEg])
theorem rZ{n:Nat}(ha:PEd X sd a (.val<|.tup ds))(hb:PEd X sd b (.val<|.int (n:Int)))(hd:ds[n]? =some d)(hs:nD b):PEd X sd (.Subscript a b pos) (.val d):=.mk λσ F H S=>
 (aHK aPh eO eO hs).to ((ha σ F H S).imp fun v H1 ⟨F1,S1,s1,q1⟩=>(hb σ F1 H1 S1).imp fun u H2 ⟨F2,S2,s2,q2⟩=>by
  have q1:=Rep.mono s2 q1;obtain⟨p,xs,e1,hp,rl⟩:=q1;obtain⟨w,hw,rw'⟩:=rl.get hd
  exact⟨p,xs,(n),w,e1,q2,.of (S2.sub _ _ hp),aBs hw,F2,S2,s1.trans s2,rw'⟩)
theorem nI{n:Nat}(ha:PEd X sd a (.bor ds))(hb:PEd X sd b (.val<|.int (n:Int)))(hd:ds[n]? =some d)(hs:nD b):PEd X sd (.Subscript a b pos) (.val d):=.mk λσ F H S=>
 (aHK aBf eO eO hs).to ((ha σ F H S).imp fun v H1 ⟨F1,S1,s1,q1⟩=>(hb σ F1 H1 S1).imp fun u H2 ⟨F2,S2,s2,q2⟩=>by
  obtain⟨p,xs,e1,hp,rl,_⟩:=ResOk.keep (r:=.bor ds) trivial q1 S2 s2;obtain⟨w,hw,rw'⟩:=rl.get hd
  exact⟨p,xs,(n),w,e1,q2,.of hp,aBs hw,F2,S2,s1.trans s2,rw'⟩)
theorem aKE{n:Nat}(ha:PEd X sd a (.val<|.scr ns))(hb:PEd X sd b (.val<|.int (n:Int)))(hd:ns[n]? =some z)(hs:nD b):PEd X sd (.Subscript a b pos) (.val<|.int z):=.mk λσ F H S=>
 (aHK aBf eO eO hs).to ((ha σ F H S).imp fun v H1 ⟨F1,S1,s1,q1⟩=>(hb σ F1 H1 S1).imp fun u H2 ⟨F2,S2,s2,q2⟩=>by
  have q1:=Rep.mono (s2.trans S2.sub) q1;obtain⟨p,e1,hp⟩:=q1
  exact⟨p,_,(n),.int z,e1,q2,hp,aBs (by rw[bE,hd];rfl),F2,S2,s1.trans s2,by simp only[ResOk,Rep]⟩)
theorem mL{p:Pos}{id:String}(hc:lA X (.builtin id) rr)(hg:Gl X x)(hm:X.mg x=none)(hv:Ah x=some (.builtin id))(ha:PAd X sd (e::es) rs)(h:∀ (σ:St) (F H:Hp) (vs:List V) (Q:VK),StF X.K X.B₀ F H σ sd->RsOk X.K F H sd rs vs->(∀w F' H',StF X.K X.B₀ F' H' σ sd->Same F F'->ResOk X.K F' H' sd r w->Q w H')->rr vs H Q)(hn:x≠"__name__":=by decide) (hdb:(x==("__debug__":Str))=false:=by decide) (he:AB (e::es) X.env=(false,eval e X.env)::AB es X.env:=by rfl) (hpl:(AV pos<|AB es X.env).any (·.1)=false:=by rfl):PEd X sd (.Call (.Name x p) (e::es) [] pos) r:=.mk λσ F H S=>
 (oK hc hg hm hv pN hn hdb he hpl).to ((ha σ F H S).imp λvs H1 ⟨F1,S1,s1,q1⟩=>h σ F1 H1 vs _ S1 q1 λw F' H' S' s' q'=>⟨F',S',s1.trans s',q'⟩)
theorem uW{p:Pos}(hc:lA X (.type T) rr)(hg:Gl X x)(hm:X.mg x=none)(hv:Ah x=some (.type T))(ha:PAd X sd (e::es) rs)(h:∀ (σ:St) (F H:Hp) (vs:List V) (Q:VK),StF X.K X.B₀ F H σ sd->RsOk X.K F H sd rs vs->(∀w F' H',StF X.K X.B₀ F' H' σ sd->Same F F'->ResOk X.K F' H' sd r w->Q w H')->rr vs H Q)(hn:x≠"__name__":=by decide) (hdb:(x==("__debug__":Str))=false:=by decide) (he:AB (e::es) X.env=(false,eval e X.env)::AB es X.env:=by rfl) (hpl:(AV pos<|AB es X.env).any (·.1)=false:=by rfl):PEd X sd (.Call (.Name x p) (e::es) [] pos) r:=.mk λσ F H S=>
 (aGp hc hg hm hv pN hn hdb he hpl).to ((ha σ F H S).imp λvs H1 ⟨F1,S1,s1,q1⟩=>h σ F1 H1 vs _ S1 q1 λw F' H' S' s' q'=>⟨F',S',s1.trans s',q'⟩)
def sE(hg:Gl X "len")(hm:X.mg "len"=none)(ha:PEd X sd e (.val<|.tup ds))(hst:AB [e] X.env=(false,eval e X.env)::AB [] X.env:=by rfl):PEd X sd (.Call (.Name "len" p) [e] [] pos) (.val<|.int ds.length):=
 mL (he:=hst) oY hg hm PySem.boot_len (aA ha aE trivial hst) λσ F H vs Q S q k=>by
  cases q with
  |cons q1 q2=>cases q2;obtain⟨p,xs,rfl,hp,rl⟩:=q1;refine⟨p,xs,rfl,.inr (.of<|S.sub _ _ hp),k _ F H S (Same.refl _) ?_⟩;simp only[ResOk,Rep,rl.len]
def mS(hg:Gl X "len")(hm:X.mg "len"=none)(ha:PEd X sd e (.bor ds))(hst:AB [e] X.env=(false,eval e X.env)::AB [] X.env:=by rfl):PEd X sd (.Call (.Name "len" p) [e] [] pos) (.val<|.int ds.length):=
 mL (he:=hst) oY hg hm PySem.boot_len (aA ha aE trivial hst) λσ F H vs Q S q k=>by
  cases q with
  |cons q1 q2=>cases q2;obtain⟨p,xs,rfl,hp,rl,_⟩:=q1;refine⟨p,xs,rfl,.inl<|.of hp,k _ F H S (Same.refl _) ?_⟩;simp only[ResOk,Rep,rl.len]
def aFU(hg:Gl X "len")(hm:X.mg "len"=none)(ha:PEd X sd e (.val<|.scr ns))(hst:AB [e] X.env=(false,eval e X.env)::AB [] X.env:=by rfl):PEd X sd (.Call (.Name "len" p) [e] [] pos) (.val<|.int ns.length):=
 mL (he:=hst) oY hg hm PySem.boot_len (aA ha aE trivial hst) λσ F H vs Q S q k=>by
  cases q with
  |cons q1 q2=>cases q2;have q1:=Rep.mono S.sub q1;obtain⟨p,rfl,hp⟩:=q1;refine⟨p,_,rfl,.inl hp,k _ F H S (Same.refl _) ?_⟩;simp only[ResOk,Rep,aC]
noncomputable def tyD:D->BD
 |.non=>.type "NoneType"
 |.bl _=>.type "bool"
 |.int _=>.type "int"
 |.str _=>.type "str"
 |.tup _=>.type "tuple"
 |.lst _=>.type "list"
 |.dic=>.type "dict"
 |.dki _ _=>.type "dict"
 |.any _=>.type "dict"
 |.scr _=>.type "list"
def aRe(h:∀ns,d≠ .scr ns)(hA:∀G,d≠ .any G)(q:Rep K H d v):sZ K H v (tyD d):=by
 cases d with
 |non=>subst q;exact .non
 |bl b=>subst q;exact .bl b
 |int b=>subst q;exact .int b
 |str b=>subst q;exact .str b
 |tup ds=>obtain⟨a,xs,rfl,h,_⟩:=q;exact .tup h
 |lst ds=>obtain⟨a,xs,rfl,h,_⟩:=q;exact .lst h
 |dic=>obtain⟨a,rfl,h⟩:=q;exact .dK<|.of h
 |dki ks ds=>obtain⟨a,xs,rfl,h,_⟩:=q;exact .dK<|.inr h
 |scr ns=>exact absurd rfl<|h ns
 |any G=>exact absurd rfl<|hA G
def aGK:lA X (.builtin "isinstance") (λxs H Q=>∃x t n k,xs=[x,.ty n]/\sZ X.K H x t/\cU X.K t (.type n)=some k/\Q (.bl k) H):=by intro za s σ H xs us Q I r h;obtain⟨x,t,n,k,rfl,ty,e,q⟩:=h;obtain⟨u,u',rfl,ru,ru'⟩:=aLl r;cases(ru');exact aGD I ru ty e λtk=>⟨.bl k,H,I.tok tk,rfl,q⟩
def aEY(hg:Gl X x)(hm:X.mg x=none)(hv:Ah x=some (.type n))(hn:x≠"__name__":=by decide)(hd:(x==("__debug__":Str))=false:=by decide):PE X (.Name x pos) (tC<|.ty n):=aMF hg hm hv rfl hn hd
theorem sY{p p2:Pos}(hg:Gl X "isinstance")(hm:X.mg "isinstance"=none)(hgx:Gl X x)(hmx:X.mg x=none)(hv:Ah x=some (.type n))(ha:PEd X sd e (.val d))(hd:∀ns,d≠ .scr ns)(hk:cU X.K (tyD d) (.type n)=some k) (hA:∀G,d≠ .any G:=by(intro _ h;cases h)) (hn:x≠"__name__":=by decide) (hdb:(x==("__debug__":Str))=false:=by decide)(he:AB (e::[.Name x p2]) X.env=(false,eval e X.env)::AB [.Name x p2] X.env:=by rfl) (hpl:(AV pos<|AB [.Name x p2] X.env).any (·.1)=false:=by rfl) (hs2:AB [.Name x p2] X.env=(false,eval (.Name x p2) X.env)::AB [] X.env:=by rfl):PEd X sd (.Call (.Name "isinstance" p) [e, .Name x p2] [] pos) (.val<|.bl k):=.mk λσ F H S=>
 (oK aGK hg hm boot_isinstance (cO eO (cO (aEY hgx hmx hv hn hdb) pa_nil hs2) he) (by decide) (by decide) he hpl).to ((ha σ F H S).imp λv H1 ⟨F1,S1,s1,q1⟩=>⟨v,tyD d,n,k,rfl,aRe hd hA<|Rep.mono S1.sub q1,hk,F1,S1,s1,by simp only[ResOk,Rep]⟩)
def eA(h:E.nx sd):PSd X sd [] E:=.mk λσ F H S=>pss_nil.to ⟨sd,F,S,Same.refl _,h⟩
theorem aG(h:PSd1 X sd st {E with nx:=λsd'=>PSd X sd' rest E}):PSd X sd (st::rest) E:=.mk λσ F H S=>
 (yO aSn pss_w).to (wS.imp (h σ F H S) (fun σ' H' ⟨sd',F',S',s',q⟩=>(q σ' F' H' S').imp (fun σ2 H2 ⟨sd2,F2,S2,s2,q2⟩=>⟨sd2,F2,S2,s'.trans s2,q2⟩) (fun v H2 q2=>q2)
  (λσ2 H2 ⟨sd2,F2,S2,s2,q2⟩=>⟨sd2,F2,S2,s'.trans s2,q2⟩) λσ2 H2 ⟨sd2,F2,S2,s2,q2⟩=>⟨sd2,F2,S2,s'.trans s2,q2⟩) (λv H q=>q) (λσ H q=>q) λσ H q=>q)
def aR(h:PSd1 X sd st E):PSd X sd [st] E:=.mk λσ F H S=>(aFK aSn).to<|h σ F H S
def eE(h:PEd X sd e r)(hr:match r with | .bor _=>False|_=>True)(hE:E.rt r):PSd1 X sd (.Return (some e) pos) E:=.mk λσ F H S=>
 (rN eO).to ((h σ F H S).imp fun v H' ⟨F',S',s',q⟩=>⟨r,⟨F',S'.base,S'.sub,S'.smp,by
  cases r with
  |val d=>exact q
  |own ds=>obtain⟨l,xs,a,b,c,d,_⟩:=q;exact⟨l,xs,a,b,c,d,by simp[cS]⟩
  |pr d ls=>obtain⟨t,l,xs,y,a,b,c,d,e,f,_⟩:=q;exact⟨t,l,xs,y,a,b,c,d,e,f,by simp[cS]⟩
  |ox G=>obtain⟨ls,nd,h,g⟩:=q;exact⟨ls,nd,λl hl=>⟨(h l hl).1,(h l hl).2.1,by simp[cS]⟩,g⟩
  |bor ds=>exact hr.elim⟩,hE⟩)
def sJ(i:Nat)(hs:sd[i]? =some (.own l ds))(h:PE X (.Name x p) (iQ i))(hE:E.rt (.own ds)):PSd1 X sd (.Return (some<|.Name x p) pos) E:=.mk λσ F H S=>
 (rN h).to (by
  obtain⟨o,h1,h2,n,xs,q,rl⟩:=S.slots.get hs
  exact⟨.ref l,by rw[h1,h2],.own ds,⟨F,S.base,S.sub,S.smp,l,xs,rfl,n,q,rl,by simp[cS]⟩,hE⟩)
theorem fX{a o:List BJ}(h:PTd X sd c k)(h1:k=true->PSd X sd a E)(h2:k=false->PSd X sd o E):PSd1 X sd (.If c a o pos) E:=.mk λσ F H S=>
 (aRa aJz pss_w pss_w).to ((h σ F H S).imp fun k' H' ⟨e,F',S',s'⟩=>by
  have up:∀ {sts:List BJ},PSd X sd sts E->wSs X sts (lft X F E) σ H':=λh=>(h σ F' H' S').imp (λσ2 H2 ⟨sd2,F2,S2,s2,q2⟩=>⟨sd2,F2,S2,s'.trans s2,q2⟩) (λv H2 q2=>q2)
   (λσ2 H2 ⟨sd2,F2,S2,s2,q2⟩=>⟨sd2,F2,S2,s'.trans s2,q2⟩) λσ2 H2 ⟨sd2,F2,S2,s2,q2⟩=>⟨sd2,F2,S2,s'.trans s2,q2⟩
  subst e;cases k' with
  |true=>exact aJA (up<|h1 rfl)
  |false=>exact aJw (up (h2 rfl)))
def jB:∀ {sd:List Slot}{z:Slot} (i:Nat),(cS sd).Nodup->(∀l,l∈iM z->l∉cS sd\/(∃z',sd[i]? =some z'/\l∈iM z'))->(hz:(iM z).Nodup:=by simp[iM])->(cS<|sd.set i z).Nodup/\∀l,l∈cS (sd.set i z)->l∈cS sd\/l∈iM z
 |[],z,i,h,_,_=>⟨h,λl hl=>.inl hl⟩
 |z'::zs,z,0,h,hz,nz=>by
  obtain⟨n1,n2,n3⟩:=bK.mp<|h;refine⟨bK.mpr ⟨nz,n2,λa ha b hb e=>?_⟩,λl hl=>?_⟩
  ·subst e
   rcases hz a ha with y|⟨z2,e2,y⟩
   ·exact y<|aJ _ hb
   ·have:=by simpa using e2
    subst this;exact n3 a y a hb rfl
  ·rcases aV.mp hl with y|y
   ·exact .inr y
   ·exact .inl<|aJ _ y
 |z'::zs,z,i+1,h,hz,nz=>by
  obtain⟨n1,n2,n3⟩:=bK.mp<|h
  obtain ⟨i1,i2⟩:=jB i n2 (fun l hl=>by
   rcases hz l hl with y|⟨z2,e2,y⟩
   ·exact .inl λq=>y<|aJ _ q
   ·exact .inr ⟨z2,by simpa using e2,y⟩) nz
  refine⟨bK.mpr ⟨n1,i1,λa ha b hb e=>?_⟩,λl hl=>?_⟩
  ·subst e
   rcases i2 a hb with y|y
   ·exact n3 a ha a y rfl
   ·rcases hz a y with y|⟨z2,e2,y⟩
    ·exact y<|bN _ ha
    ·have m:=dZ.mpr ⟨z2,bC (by simpa using e2),y⟩;exact n3 a ha a m rfl
  ·rcases aV.mp hl with y|y
   ·exact .inl<|bN _ y
   ·rcases i2 l y with y|y
    ·exact .inl<|aJ _ y
    ·exact .inr y
def StF.set(S:StF K H₀ F H σ sd)(i:Nat)(q:Rep K F d v):StF K H₀ F H (σ.set i (some v)) (sd.set i<|.val d):=
 ⟨S.base,S.sub,S.smp,S.slots.set (z:=.val d) ⟨v,rfl,q⟩ i,(jB i S.nd λl e=>by simp[iM] at e).1⟩
def StF.setO(S:StF K H₀ F H σ sd)(i:Nat)(n:F l=none)(h:H l=some (.lst xs))(q:RepL K F ds xs)(no:l∉cS sd):StF K H₀ F H (σ.set i (some<|.ref l)) (sd.set i<|.own l ds):=
 ⟨S.base,S.sub,S.smp,S.slots.set (z:=.own l ds) ⟨rfl,n,xs,h,q⟩ i,(jB i S.nd λl' e=>by rw[aK.mp e];exact .inl no).1⟩
def gY(i:Nat)(hN:X.N.Nodup)(hi:X.N[i]? =some x)(hx:Loc X.env.scope x)(h:PEd X sd e (.val d))(hE:E.nx (sd.set i<|.val d))(hs:Ab e (some<|.Name x p) pos.line X.env=pure false:=by rfl)(hf:X.fn x=true\/X.env.scope.names.lookup x=some .local:=by first|exact .inl rfl|exact .inr rfl|assumption):PSd1 X sd (.Assign [.Name x p] e pos) E:=.mk λσ F H S=>
 (rP hN hi hx eO hs hf).to ((h σ F H S).imp λv H' ⟨F',S',s',q⟩=>⟨_,F',S'.set i q,s',hE⟩)
def sX(i:Nat)(hN:X.N.Nodup)(hi:X.N[i]? =some x)(hx:Loc X.env.scope x)(h:PEd X sd e (.own ds))(hE:∀l,E.nx (sd.set i<|.own l ds))(hs:Ab e (some<|.Name x p) pos.line X.env=pure false:=by rfl)(hf:X.fn x=true\/X.env.scope.names.lookup x=some .local:=by first|exact .inl rfl|exact .inr rfl|assumption):PSd1 X sd (.Assign [.Name x p] e pos) E:=.mk λσ F H S=>
 (rP hN hi hx eO hs hf).to ((h σ F H S).imp λv H' ⟨F',S',s',l,xs,e,n,q,rl,no⟩=>⟨_,F',by subst e;exact S'.setO i n q rl no,s',hE l⟩)
def Le:List Slot->List Slot->Prop
 |[],[]=>True
 |x::xs,y::ys=>(y=.un\/x=y)/\Le xs ys
 |_,_=>False
def Le.refl:∀ (sd:List Slot),Le sd sd
 |[]=>trivial
 |_::xs=>⟨ja,Le.refl xs⟩
def Le.own:∀ {sd sd':List Slot},Le sd sd'->(cS sd').Sublist (cS sd)
 |[],[],_=>List.Sublist.refl _
 |[],_::_,h=>h.elim
 |_::_,[],h=>h.elim
 |x::xs,y::ys,h=>by
  obtain⟨h1,h2⟩:=h;have ih:=Le.own h2
  rcases h1 with rfl|rfl
  ·exact ih.trans<|List.sublist_append_right _ _
  ·exact List.Sublist.append (List.Sublist.refl _) ih
def Le.slots:∀ {sd sd':List Slot}{σ:St},Le sd sd'->SlotsOk K F H sd σ->SlotsOk K F H sd' σ
 |[],[],_,_,h=>h
 |[],_::_,_,h,_=>h.elim
 |_::_,[],_,h,_=>h.elim
 |x::xs,y::ys,σ,h,q=>by
  obtain⟨h1,h2⟩:=h;obtain⟨o,r,rfl,a,b⟩:=q;refine⟨o,r,rfl,?_,Le.slots h2 b⟩
  rcases h1 with rfl|rfl
  ·trivial
  ·exact a
def StF.le(S:StF K H₀ F H σ sd)(h:Le sd sd'):StF K H₀ F H σ sd':=⟨S.base,S.sub,S.smp,h.slots S.slots,S.nd.sublist h.own⟩
def aKG(h:Le sd sd')(q:PSd X sd' sts E):PSd X sd sts E:=.mk λσ F H S=>q σ F H<|S.le h
theorem aOP(s:Same F₀ F)(h:wSs X sts (lft X F E) σ H):wSs X sts (lft X F₀ E) σ H:=
 h.imp (λσ2 H2 ⟨sd2,F2,S2,s2,q2⟩=>⟨sd2,F2,S2,s.trans s2,q2⟩) (λv H2 q2=>q2) (λσ2 H2 ⟨sd2,F2,S2,s2,q2⟩=>⟨sd2,F2,S2,s.trans s2,q2⟩) λσ2 H2 ⟨sd2,F2,S2,s2,q2⟩=>⟨sd2,F2,S2,s.trans s2,q2⟩
theorem gK:∀ (sd:List Slot) (i:Nat),Le sd (sd.set i .un)
 |[],_=>trivial
 |_::xs,0=>⟨jb,Le.refl xs⟩
 |_::xs,i+1=>⟨ja,gK xs i⟩
theorem gR:∀ {sd:List Slot}{i:Nat}{l:BF}{z:Slot},(cS sd).Nodup->sd[i]? =some z->l∈iM z->l∉cS (sd.set i .un)
 |[],_,_,_,_,e,_=>by simp at e
 |y::zs,0,l,z,h,e,hl=>by
  have:=by simpa using e
  subst this;obtain⟨n1,n2,n3⟩:=bK.mp<|h;exact λhm=>n3 l hl l hm rfl
 |y::zs,i+1,l,z,h,e,hl=>by
  have e':=by simpa using e
  obtain⟨n1,n2,n3⟩:=bK.mp<|h;have ml:=dZ.mpr ⟨_,bC e',hl⟩;intro hm
  rcases aV.mp (hm) with q|q
  ·exact n3 l q l ml rfl
  ·exact gR n2 e' hl q
def uT(h:(cS sd).Nodup)(e:sd[i]? =some (.own l ds)):l∉cS (sd.set i .un):=gR h e<|cG l
def mK(h:σ[i]? =some o):σ.set i o=σ:=by obtain⟨hi,e⟩:=aF.mp h;rw[<-e];exact qY hi
def jX(sd:List Slot)(i:Nat)(x y:Slot):(sd.set i x).set i y=sd.set i y:=by simp
def StF.wr(S:StF K H₀ F H σ sd)(hs:sd[i]? =some (.own l ds))(rl:RepL K F ds' xs'):StF K H₀ F (upd H l<|.lst xs') σ (sd.set i<|.own l ds'):=by
 obtain⟨o,h1,h2,n,xs,q,_⟩:=S.slots.get hs;have no:=uT S.nd hs;have S0:=S.le<|gK sd i;refine⟨S.base,λb u e=>?_,λb u e=>?_,?_,?_⟩
 ·rw[aW<|cC e n];exact S.sub _ _ e
 ·by_cases h:b=l
  ·subst h;rw[bH] at e;cases e;trivial
  ·rw[aW h] at e;exact S.smp _ _ e
 ·have q1:SlotsOk K F (upd H l<|.lst xs') (sd.set i .un) σ:=S0.slots.mono (Same.refl _) λl' hl=>by
   obtain⟨n',ys,q',_⟩:=S0.slots.owns hl;have hne:l'≠l:=λz=>no<|z▸hl
   exact⟨n',λys e=>by rw[aW hne];exact e⟩
  have q2:=q1.set (z:=.own l ds') ⟨rfl,n,xs',bH,rl⟩ i;rw[jX,mK<|by rw[h1,h2]] at q2;exact q2
 ·have:=jB (z:=Slot.own l ds') i S0.nd λl' e=>by rw[aK.mp e];exact .inl no
  rw[jX] at this;exact this.1
def iC(i:Nat)(hs:sd[i]? =some (.own l ds))(h:PSd X (sd.set i (.val<|.lst ds)) sts E):PSd X sd sts E:=.mk λσ F H S=>by obtain⟨o,h1,h2,n,xs,q,rl⟩:=S.slots.get hs;have S0:=S.le<|gK sd i;obtain⟨S1,s1⟩:=S0.freeze q n<|uT S.nd hs;have S2:=S1.set (d:=.lst ds) i (⟨l,xs,rfl,bH,rl.mono s1⟩);rw[jX,mK<|by rw[h1,h2]] at S2;exact aOP s1<|h σ _ H S2
theorem mG(i:Nat){p ap cp:Pos}(hs:sd[i]? =some (.own l ds))(hx:PE X (.Name x p) (iQ i))(h:PEd X sd e (.val d))(hl:ds.length<=10000)(hE:E.nx (sd.set i (.own l<|ds++[d])))(hst:AB (e::[]) X.env=(false,eval e X.env)::AB [] X.env:=by rfl)(hm:PE X (.Call (.Attribute (.Name x p) "append" ap) [e] [] cp) (tBM X.K "list" wP (iQ i)<|qC (wE X e) aHw):=by exact aLp oP aAa aAb aAC (pv _) (cO eO pa_nil))(hsw:Ab (.Call (.Attribute (.Name x p) "append" ap) [e] [] cp) none pos.line X.env=pure false:=by rfl):PSd1 X sd (.Expr (.Call (.Attribute (.Name x p) "append" ap) [e] [] cp) pos) E:=.mk λσ F H S=>
 (wM hm hsw).to (by
  obtain⟨o,h1,h2,n,xs,q,rl⟩:=S.slots.get hs;refine⟨.ref l,by rw[h1,h2],.inl ⟨rfl,xs,.of q⟩,(h σ F H S).imp λv H1 ⟨F1,S1,s1,q1⟩=>?_⟩;obtain⟨o',h1',h2',n',xs',q',rl'⟩:=S1.slots.get hs
  exact⟨l,xs',v,rfl,rfl,q',by rw[rl'.len];exact eY hl,_,F1,S1.wr hs (rl'.app (.one q1)),s1,hE⟩)
theorem aDZ(i:Nat){p ap cp:Pos}(hs:sd[i]? =some (.own l ds))(hx:PE X (.Name x p) (iQ i))(h:PEd X sd e (.val<|.lst ds2))(hl:ds.length+ds2.length<=10000)(hE:E.nx (sd.set i (.own l<|ds++ds2)))(hst:AB (e::[]) X.env=(false,eval e X.env)::AB [] X.env:=by rfl)(hm:PE X (.Call (.Attribute (.Name x p) "extend" ap) [e] [] cp) (tBM X.K "list" aFw (iQ i)<|qC (wE X e) aHw):=by exact aLp oP PySem.F.slot_list_extend PySem.F.type_list_extend aGS (pv _) (cO eO pa_nil))(hsw:Ab (.Call (.Attribute (.Name x p) "extend" ap) [e] [] cp) none pos.line X.env=pure false:=by rfl):PSd1 X sd (.Expr (.Call (.Attribute (.Name x p) "extend" ap) [e] [] cp) pos) E:=.mk λσ F H S=>
 (wM hm hsw).to (by
  obtain⟨o,h1,h2,n,xs,q,rl⟩:=S.slots.get hs;refine⟨.ref l,by rw[h1,h2],.inl ⟨rfl,xs,.of q⟩,(h σ F H S).imp λv H1 ⟨F1,S1,s1,q1⟩=>?_⟩;obtain⟨o',h1',h2',n',xs',q',rl'⟩:=S1.slots.get hs;obtain⟨b,zs,rfl,hb,rb⟩:=q1
  exact⟨l,b,xs',zs,rfl,rfl,q',S1.sub _ _ hb,by rw[rl'.len,rb.len];exact cZ (eY hl),_,F1,S1.wr hs (rl'.app rb),s1,hE⟩)
def spC(K:aB)(n:Nat)(C:List D->R->Prop):Sp:=λvs H Q _=>vs.length=n/\Smp H/\∃ds r,RepL K H ds vs/\C ds r/\∀v H',aHA K H H' r v->Q v H'
def spF(K:aB)(n:Nat)(C:List D->R->Prop):Sp:=λvs H Q _=>vs.length=n/\Smp H/\∃F ds r,Same F H/\RepL K F ds vs/\C ds r/\∀v F2 F3 H',Same F F2->Same F2 F3->Same F3 H'->Same H H'->Smp H'->(∀b o,H b=some o->F b=none->F3 b=none)->ResOk K F2 F3 [] r v->Q v H'
noncomputable def uE(F H:Hp):Hp:=λb=>match F b with
 |some o=>some o
 |none=>H b
def uA:Same F (uE F H):=λb o e=>by unfold uE;rw[e]
def tW{b:BF}(h:F b=none):uE F H b=H b:=by unfold uE;rw[h]
def FnOk.framed(G:FnOk P w K mg base CX0 k f fd ps (spC K n C)):FnOk P w K mg base CX0 k f fd ps (spF K n C):=by
 refine⟨λvs H Q E h=>?_,λA outer s H args us vs Q E hr e0 hb rv h=>?_⟩
 ·obtain⟨hl,sm,F,ds,r,sF,rl,c,_⟩:=h;exact G.len vs F (λ_ _=>True) E ⟨hl,sm.sub sF,ds,r,rl,c,λ_ _ _=>trivial⟩
 ·obtain⟨hl,sm,F,ds,r,sF,rl,c,q⟩:=h;have e1:Env0 P w K mg base A outer s F:=⟨e0.frames,e0.mod,λb o e=>⟨(e0.bs b o e).1,sF.free (e0.bs b o e).2⟩,e0.bsz,e0.funs,λb hb=>sF.free<|e0.frf b hb,λb o e=>(e0.hok b o<|sF b o e).smp (sm b o<|sF b o e),e0.bare⟩;refine Aq (G.run A outer s F args us vs (λv F3=>aHA K F F3 r v) E hr e1 hb rv ⟨hl,sm.sub sF,ds,r,rl,c,λv H' z=>z⟩) λrr s' hrr=>?_
  cases rr with
  |error e=>exact hrr
  |ok fl=>
   cases fl with
   |ret u=>
    obtain⟨v,F3,ho,ha,un,hk,ru,F2,s1,s2,sm3,res⟩:=hrr
    have keepF:=λb o e n=>by
     cases g:s.heap.get? b with
     |none=>
      exfalso;have ob:=e0.hok b o e;have z:=sm b o e;cases o with
      |lst xs=>obtain⟨_,_,_,_,g'⟩:=ob;rw[g] at g';cases g'
      |tup xs=>obtain⟨_,_,_,oo,g',_⟩:=ob;rw[g] at g';cases g'
      |dK kvs=>obtain⟨_,_,_,_,oo,_,_,g',_⟩:=ob;rw[g] at g';cases g'
      |frz o2 u2=>obtain⟨g',_⟩:=ob;rw[g] at g';cases g'
      |ext φ=>obtain⟨_,⟨oo,g'⟩,_⟩:=ob;rw[g] at g';cases g'
      |_=>exact z
     |some ob=>exact un.free b ob g n<|by simp
    have keepO:∀b o,H b=some o->F b=none->∀ob,s.heap.get? b=some ob->s'.heap.get? b=some ob:=λb o e n ob g=>un.keep b ob g n (λhb=>by have:=e0.frf b hb;rw[e] at this;cases this)<|by simp
    have sH:Same H (uE F3 H):=λb o e=>by
     cases g:F b with
     |none=>rw[tW<|keepF b o e g];exact e
     |some o'=>have:=sF b o' g;rw[e] at this;cases this;exact uA _ _ (s2 _ _<|s1 _ _ g)
    have smM:Smp (uE F3 H):=λb o e=>by
     cases g:F3 b with
     |some o'=>have:=uA (H:=H) b o' g;rw[e] at this;cases this;exact sm3 b o g
     |none=>rw[tW g] at e;exact sm b o e
    refine⟨v,uE F3 H,ho,ha,⟨λb o g n hb hx=>un.keep b o g (sF.free n) hb hx,λb o g n hb hx=>un.slot b o g (sF.free n) hb hx,λb o g n hx=>?_,un.there,λb xs e=>sH _ _ e,λb o u e=>sH _ _ e,λb ps e=>⟨#[],by rw[sH _ _ e];simp⟩⟩,λb o e=>?_,ru,?_⟩
    ·rw[tW<|un.free b o g (sF.free n) hx];exact n
    ·have z:=smM b o e;cases g:F3 b with
     |some o'=>have:=uA (H:=H) b o' g;rw[e] at this;cases this;exact(hk b o g).smp z
     |none=>
      rw[tW g] at e
      have n:F b=none:=by
       cases g2:F b with
       |none=>rfl
       |some o2=>rw[s2 _ _<|s1 _ _ g2] at g;cases g
      have st:=(e0.hok b o e).smp (F:=λ_=>none) z
      have:ObjOk P w (fun _=>none) s'.heap b o:=st.stay (fun b2 u hb2 gg=>by
       rcases hb2 with rfl|hb2
       ·exact keepO _ o e n u gg
       ·cases hb2) (λb2 hb2=>nomatch hb2) λb2 xs hb2=>nomatch hb2
      exact this.smp z
    ·exact q v F2 F3 (uE F3 H) s1 s2 uA sH smM keepF res
   |_=>exact hrr
structure bF(P:AD)(w:AL)(K:aB)(mg:Str->Option BD)(base:BH)(x:Str)(k n:Nat)(C:List D->R->Prop):Prop where
 ex:∃ (f:BF) (fd:AN) (ps:List Str),mg x=some (.ref f)/\cK K (.ref f)=true/\Binds K fd ps []/\FnOk P w K mg base CX0 k f fd ps (spC K n C)
theorem aMt{p:Pos}(G:bF X.prog X.w X.K X.mg X.base x k n C)(hr:Room k X.A)(hg:Gl X x)(ha:PAd X sd (e::es) (ds.map R.val))(hc:C ds r)(hb:match r with | .bor _=>False|_=>True)(hn:ds.length=n)(hdb:(x==("__debug__":Str))=false:=by decide) (he:AB (e::es) X.env=(false,eval e X.env)::AB es X.env:=by rfl) (hpl:(AV pos<|AB es X.env).any (·.1)=false:=by rfl):PEd X sd (.Call (.Name x p) (e::es) [] pos) r:=.mk λσ F H S=>by
 obtain⟨f,fd,ps,hm,hk,bd,G⟩:=G.ex;refine(qQ (FnOk.framed G) hr hg hm hk bd .nil tR pN hdb he hpl).to<|(ha σ F H S).imp λvs H1 ⟨F1,S1,s1,q1⟩=>?_;have rl:=q1.vals;refine⟨by rw[bG,rl.len];exact hn,S1.smp,F1,ds,r,S1.sub,by rw[bG];exact rl,hc,λv F2 F3 H' s2 s3 s4 sH sm kp res=>?_⟩
 have no:∀l,l∈cS sd->F2 l=none/\F3 l=none:=λl hl=>by obtain⟨n1,xs,q,_⟩:=S1.slots.owns hl;have n3:=kp l _ q n1;exact⟨s3.free n3,n3⟩
 refine⟨F2,⟨λb o e=>s2 _ _<|S1.base _ _ e,s3.trans s4,sm,S1.slots.mono s2 λl hl=>⟨(no l hl).1,λys e=>sH _ _ e⟩,S1.nd⟩,s1.trans s2,?_⟩;cases r with
 |val d=>exact res
 |own ds'=>obtain⟨l,xs,e,n,q,rl',_⟩:=res;exact⟨l,xs,e,n,s4 _ _ q,rl',λhl=>by rw[(no l hl).2] at q;cases q⟩
 |pr d ls=>obtain⟨t,l,xs,y,e,f,g,n,q,rl',_⟩:=res;exact⟨t,l,xs,y,e,f,g,n,s4 _ _ q,rl',λhl=>by rw[(no l hl).2] at q;cases q⟩
 |ox G=>obtain⟨ls,nd,h,g⟩:=res;refine⟨ls,nd,λl hl=>?_,λF' H'' sF k=>g F' H'' sF λl hl ob q=>k l hl ob<|s4 _ _ q⟩;obtain⟨n,⟨ob,q,w⟩,_⟩:=h l hl;exact⟨n,⟨ob,s4 _ _ q,w⟩,λhm=>by rw[(no l hm).2] at q;cases q⟩
 |bor ds'=>exact hb.elim
noncomputable def R.toD:R->D
 |.val d=>d
 |.own ds=>.lst ds
 |.bor ds=>.lst ds
 |.pr d ls=>.tup [d,.lst ls]
 |.ox _=>.non
noncomputable def init(n:Nat)(ds:List D):List Slot:=ds.map Slot.val++bP (n-ds.length) .un
theorem aCE:∀n:Nat,SlotsOk K F H (bP n .un) (bP n none)
 |0=>rfl
 |n+1=>⟨none,bP n none,rfl,trivial,aCE n⟩
theorem jO{m n:Nat}:∀ {ds:List D}{vs:List V},RepL K F ds vs->SlotsOk K F H (ds.map Slot.val++bP n .un) (vs.map some++bP n none)
 |[],vs,r=>by subst r;exact aCE n
 |d::ds,vs,r=>by obtain⟨y,ys,rfl,a,rl⟩:=r.uncons;exact⟨some y,_,rfl,⟨y,rfl,a⟩,jO (m:=m) rl⟩
theorem jP(n:Nat):∀ds:List D,cS (ds.map Slot.val++bP n .un)=[]
 |[]=>by
  induction n with
  |zero=>rfl
  |succ n ih=>exact ih
 |_::ds=>jP n ds
def aKz(F:Fun K x qual st f fd)(S:iD N ps (aN st))(body:∀ (cdv:BD) (A:BG) (outer:List Env) (s:BE) (H:Hp) (E:XK),Room k (A.deeper (Ad qual (aN st) s.heap.objs.size f cdv))→∀ds r,ds.length=ps.length→C ds r→PSd (gO CX0 P w K mg base N qual (aN st) f cdv A outer s H E).nox (init N.length ds) (cF st) {nx:=λ_=>r=.val .non,rt:=λr'=>r'=r}):FnOk P w K mg base CX0 (k+1) f fd ps (spC K ps.length C):=by
 refine F.ok S (λvs H Q E h=>h.1) λcdv A outer s H vs Q E hr h=>?_
 obtain⟨hl,sm,ds,r,rl,c,q⟩:=h;have hds:ds.length=ps.length:=by rw[<-rl.len];exact hl
 refine⟨_,pss_w,?_⟩;have hlen:N.length-vs.length=N.length-ds.length:=by rw[rl.len]
 have S0:StF K H H H (L2.start N vs) (init N.length ds):=by
  refine⟨Same.refl _,Same.refl _,sm,?_,?_⟩
  ·unfold L2.start init;rw[hlen];exact jO (m:=0) rl
  ·unfold init;rw[jP];exact cQ
 refine(body cdv A outer s H E hr ds r hds c (L2.start N vs) H H S0).imp ?_ ?_ (λ_ _ ⟨_,_,_,_,z⟩=>z) λ_ _ ⟨_,_,_,_,z⟩=>z
 ·rintro σ' H' ⟨sd',F',S',s',e⟩;subst e;exact q .non H' ⟨F',S'.base,S'.sub,S'.smp,by simp only[ResOk,Rep]⟩
 ·rintro v H' ⟨r',ro,e⟩;subst e;exact q v H' ro
def aPG(F:Fun K x qual st f fd)(S:iD N ps (aN st))(hm:mg x=some (.ref f)) (hb:∀ (kV doc pm:BD) (an:Option BF) (cdv ct:BD) (us:List BD),us.length=ps.length->bindArgs (cD x qual (eP st) (cF st) (aN st) .none kV doc pm an cdv ct) ⟨us,[]⟩=pure (ps.zip us))(body:∀ (cdv:BD) (A:BG) (outer:List Env) (s:BE) (H:Hp) (E:XK),Room k (A.deeper (Ad qual (aN st) s.heap.objs.size f cdv))→∀ds r,ds.length=ps.length→C ds r→PSd (gO CX0 P w K mg base N qual (aN st) f cdv A outer s H E).nox (init N.length ds) (cF st) {nx:=λ_=>r=.val .non,rt:=λr'=>r'=r}):bF P w K mg base x (k+1) ps.length C:=
 ⟨f,fd,ps,hm,F.kp,F.binds hb,aKz F S body⟩
variable {tg iter:Expr}
def ItD(K:aB)(F₁:Hp)(P:Hp->Hp->Prop)(J:It)(ds:List D):Prop:=∀ (F H:Hp),Same F₁ F->Same F H->Smp H->P F H->∀i,(i<ds.length->J.go i H)/\(ds.length<=i->J.stop i H)/\
 ∀x H' d,ds[i]? =some d->J.yld i H x H'->∃F',Same F F'/\Rep K F' d x/\∀H₀ σ sd,StF K H₀ F H σ sd->StF K H₀ F' H' σ sd
abbrev PT0:Hp->Hp->Prop:=λ_ _=>True
structure PId(X:Cx)(sd:List Slot)(P:Hp->Hp->Prop)(tg iter:Expr)(ds:List D):Prop where
 run:∀ (σ:St) (F H:Hp),StF X.K X.B₀ F H σ sd->
 wI X tg iter σ H λJ H1=>∃F1,StF X.K X.B₀ F1 H1 σ sd/\Same F F1/\ItD X.K F1 P J ds
instance {X:Cx}{sd:List Slot}{P:Hp→Hp→Prop}{tg iter:Expr}{ds:List D}:CoeFun (PId X sd P tg iter ds) (fun _=>∀ (σ:St) (F H:Hp),StF X.K X.B₀ F H σ sd→
 wI X tg iter σ H λJ H1=>∃F1,StF X.K X.B₀ F1 H1 σ sd/\Same F F1/\ItD X.K F1 P J ds):=⟨PId.run⟩
def _root_.L2.PI.to{wi:TI}{R:It->Hp->Prop}(h:PI X tg iter wi)(q:wi σ H R):wI X tg iter σ H R:=λza s I=>h za s σ H R I q
theorem iV(h:PEd X sd iter (.val<|.lst ds)):PId X sd PT0 tg iter ds:=.mk λσ F H S=>
 (aNk eO).to ((h σ F H S).imp fun v H1 ⟨F1,S1,s1,q1⟩=>by
  obtain⟨l,xs,rfl,hl,rl⟩:=q1;refine⟨l,rfl,⟨xs,.of<|S1.sub _ _ hl⟩,F1,S1,s1,λF' H' sF sH sm _ i=>?_⟩;have hl':=sH _ _<|sF _ _ hl;refine⟨λhi=>⟨xs,xs[i]'(by rw[rl.len];exact hi),.of hl',by simp[rl.len,hi]⟩,λhi=>⟨xs,.of hl',by rw[rl.len];exact hi⟩,λx H2 d hd y=>?_⟩;obtain⟨rfl,y⟩:=y;obtain⟨v,hv,rv⟩:=rl.get hd;have:=y xs<|.of hl';rw[hv] at this;cases this
  exact⟨F',Same.refl _,rv.mono sF,λ_ _ _ S=>S⟩)
theorem mR(h:PEd X sd iter (.val<|.tup ds)):PId X sd PT0 tg iter ds:=.mk λσ F H S=>
 (aPN eO).to ((h σ F H S).imp fun v H1 ⟨F1,S1,s1,q1⟩=>by
  obtain⟨l,xs,rfl,hl,rl⟩:=q1;refine⟨l,rfl,⟨xs,.of<|S1.sub _ _ hl⟩,F1,S1,s1,λF' H' sF sH sm _ i=>?_⟩;have hl':=sH _ _<|sF _ _ hl;refine⟨λhi=>⟨xs,xs[i]'(by rw[rl.len];exact hi),.of hl',by simp[rl.len,hi]⟩,λhi=>⟨xs,.of hl',by rw[rl.len];exact hi⟩,λx H2 d hd y=>?_⟩;obtain⟨rfl,y⟩:=y;obtain⟨v,hv,rv⟩:=rl.get hd;have:=y xs<|.of hl';rw[hv] at this;cases this
  exact⟨F',Same.refl _,rv.mono sF,λ_ _ _ S=>S⟩)
noncomputable def iW(lo:Int)(n:Nat):List D:=(bT n).map λ(k:Nat)=>D.int<|lo+(k:Int)
def fV(lo:Int)(n:Nat):(iW lo n).length=n:=by simp[iW]
def gC{lo:Int}(h:(iW lo n)[i]? =some d):i<n/\d=.int (lo+(i:Int)):=by
 unfold iW at h;rw[bE] at h
 by_cases hi:i<n
 ·rw[aHr hi] at h;exact⟨hi,(bZ.inj h).symm⟩
 ·rw[iR<|by simpa using hi] at h;cases h
def uQ{lo:Int}:ItD K F₁ PT0 (Itr lo n) (iW lo n):=λF H _ _ _ _ i=>by refine⟨λhi=>by rw[fV] at hi;exact hi,λhi=>by rw[fV] at hi;exact hi,λx H' d hd y=>?_⟩;obtain⟨rfl,rfl⟩:=y;obtain⟨_,rfl⟩:=gC hd;exact⟨F,Same.refl _,by simp only[Rep],λ_ _ _ S=>S⟩
theorem lZ{n:Nat}(hg:Gl X "range")(hm:X.mg "range"=none)(h:PEd X sd a (.val<|.int (n:Int)))(hn:(n:Int)<2^62)(hs:AB [a] X.env=[(false,eval a X.env)]:=by rfl):PId X sd PT0 tg (.Call (.Name "range" p) [a] [] pos) (iW 0 n):=.mk λσ F H S=>
 (aAe hg hm pN hs).to ((aA h aE trivial hs σ F H S).imp fun vs H1 ⟨F1,S1,s1,q1⟩=>by
  cases q1 with
  |cons q1 q2=>
   cases q2;subst q1
   exact⟨(n),rfl,by omega,hn,F1,S1,s1,uQ⟩)
theorem rR{p:Pos}{lo:Int}(hg:Gl X "range")(hm:X.mg "range"=none)(ha:PEd X sd a (.val<|.int lo))(hb:PEd X sd b (.val<|.int m))(h1: -(2^62)<=lo/\lo<2^62)(h2: -(2^62)<=m/\m<2^62)(hs:AB [a,b] X.env=[(false,eval a X.env),(false,eval b X.env)]:=by rfl)(hs2:AB [b] X.env=[(false,eval b X.env)]:=by rfl):PId X sd PT0 tg (.Call (.Name "range" p) [a,b] [] pos) (iW lo (m-lo).toNat):=.mk λσ F H S=>
 (aGV hg hm pN hs hs2).to ((aA ha (aA hb aE trivial hs2) trivial (by rw [hs,hs2]) σ F H S).imp fun vs H1 ⟨F1,S1,s1,q1⟩=>by
  cases q1 with
  |cons q1 q2=>
   cases q2 with
   |cons q2 q3=>
    cases q3;subst q1 q2
    exact⟨lo,m,rfl,⟨h1.1,h1.2,h2.1,h2.2⟩,F1,S1,s1,uQ⟩)
structure PGd(X:Cx)(sd:List Slot)(tg:Expr)(d:D)(sd':List Slot):Prop where
 run:∀ (σ:St) (F H:Hp) (v:V),StF X.K X.B₀ F H σ sd->Rep X.K F d v->wG X tg v σ H λσ' H'=>∃F',StF X.K X.B₀ F' H' σ' sd'/\Same F F'
instance {X:Cx}{sd:List Slot}{tg:Expr}{d:D}{sd':List Slot}:CoeFun (PGd X sd tg d sd') (λ_=>∀ (σ:St) (F H:Hp) (v:V),StF X.K X.B₀ F H σ sd->Rep X.K F d v->wG X tg v σ H λσ' H'=>∃F',StF X.K X.B₀ F' H' σ' sd'/\Same F F'):=⟨PGd.run⟩
def _root_.L2.PG.to{t:TG}{Q:St->Hp->Prop}(h:PG X tg t)(q:t v σ H Q):wG X tg v σ H Q:=λza s u I r=>h za s σ H v u Q I r q
def aCQ(j:Nat)(h:PG X tg (aEm j)):PGd X sd tg d (sd.set j<|.val d):=.mk λσ F H v S q=>h.to ⟨F,S.set j q,Same.refl _⟩
def gNs:List Nat->TGs
 |[]=>aSi
 |j::js=>aOt (aEm j)<|gNs js
noncomputable def aCc:List Slot->List Nat->List D->List Slot
 |sd,j::js,d::ds=>aCc (sd.set j<|.val d) js ds
 |sd,_,_=>sd
theorem aEx{Q:St->Hp->Prop}:∀ {js:List Nat}{ds:List D}{vs:List V}{σ:St}{sd:List Slot},js.length=ds.length->RepL K F ds vs->StF K H₀ F H σ sd->(∀σ',StF K H₀ F H σ' (aCc sd js ds)->Q σ' H)->gNs js vs σ H Q
 |[],[],vs,σ,sd,_,r,S,k=>⟨r,k σ S⟩
 |j::js,d::ds,vs,σ,sd,hl,r,S,k=>by obtain⟨y,ys,rfl,q,rl⟩:=r.uncons;exact⟨y,ys,rfl,aEx (by simpa using hl) rl (S.set j q) k⟩
 |[],_::_,_,_,_,hl,_,_,_=>by simp at hl
 |_::_,[],_,_,_,hl,_,_,_=>by simp at hl
def jK(hc:X.calm=true)(h:PGs X es (gNs js))(hl:js.length=ds.length)(hn:(Aj es X.env).length=ds.length)(hst:(Aj es X.env).findIdx? (·.1)=none:=by rfl):PGd X sd (.Tuple es k pos) (.tup ds) (aCc sd js ds):=.mk λσ F H v S q=>
 (aOO hc h hn hst).to (by
  obtain⟨a,xs,rfl,ha,rl⟩:=q
  exact⟨a,xs,rfl,.of (S.sub _ _ ha),rl.len,aEx hl rl S λσ' S'=>⟨F,S',Same.refl _⟩⟩)
theorem aAt{E:BD->BE->Prop}(hne:t≠it):∀ (n i:Nat) (s:BE) (Q:List BD->BE->Prop),s.heap.IsListIter it t i->s.heap.IsList t items->i+n<=items.size->(∀h',h'.IsListIter it t (i+n)->Heap.SameBut it s.heap h'->Q ((items.toList.drop i).take n) {s with heap:=h'})->AK (AG prog w) A (draw (.ref it) n) Q E s
 |0,i,s,Q,hit,_,_,hQ=>AC (by simpa using hQ s.heap hit (Heap.SameBut.refl ..))
 |n+1,i,s,Q,hit,ht,hle,hQ=>by
  have hlt:i<items.size:=by lia
  refine AA<|wpAny_pyNext_list_item hit ht (x:=items[i]) (by simp[hlt]) λh₁ hit₁ hs₁=>?_;refine AA (AY<|aAt hne n (i+1) _ _ hit₁ (ht.extBut hs₁.extBut hne) (by lia) λh₂ hit₂ hs₂=>AC ?_);have hd:items.toList.drop i=items[i]::items.toList.drop (i+1):=by simp[dG,hlt]
  have:=hQ h₂ (by rw[show i+(n+1)=i+1+n by lia];exact hit₂)<|hs₁.trans hs₂;rw[hd] at this;exact this
theorem aBM{E:BD->BE->Prop}(hh:A.handled=none)(ht:s.heap.IsList t items)(hQ:∀h',Heap.ExtBut s.heap.objs.size s.heap h'->Q items.toList {s with heap:=h'}):AK (AG prog w) A (unpackItems (.ref t) items.size none) Q E s:=by
 have hlt:t≠s.heap.objs.size:=by obtain⟨o,ho,_⟩:=ht;exact bR<|aU ho
 refine AA ?_;refine AA<|wpAny_specialOf ht.typeIs slot_list_iter.lookup ?_;refine AC ?_;refine AA (AY<|BA ht ?_);refine AA (AY<|aAt hlt items.size 0 _ _ ⟨_,bO _ rfl,rfl,rfl⟩ (ht.at λo e=>aD _ e) (by lia) λh₁ hit₁ hs₁=>?_)
 have hall:List.take items.size (List.drop 0 items.toList)=items.toList:=eX (by simp)
 rw[hall];rw[zr<|by simp];have ht₁:=(ht.at λo e=>aD _ e).extBut hs₁.extBut hlt;refine AA (AY<|wpAny_pyNext_list_end hh hit₁ ht₁ (by simp) λh₂ he₂=>?_);exact AC (hQ h₂ λb o hb e=>he₂ b o hb (hs₁.extBut b o hb<|aD _ e))
def gLst(K:aB)(n:Nat)(t:TGs):TG:=λv σ H Q=>∃a xs,v=.ref a/\SqL K H a xs/\xs.length=n/\t xs σ H Q
def aPS{k:Nat}(hc:X.calm=true)(h:PGs X es t)(hn:(Aj es X.env).length=n:=by rfl) (hst:(Aj es X.env).findIdx? (·.1)=none:=by rfl):PG X (.Tuple es k pos) (gLst X.K n t):=by
 intro za s σ H v u Q I r hw;obtain⟨a,xs,e1,hq,hl,hw⟩:=hw;subst e1;cases r;obtain⟨its,rv,ht,hz⟩:=I.list hq;refine AA<|wpAny_standAt ?_;unfold unpack;have e2:(Aj es X.env).length=its.toArray.size:=by rw[hn,<-hl,rv.length];simp
 rw[e2,hst];refine AA (AY<|aBM (I.ok.hd hc) ht.isList λh' hx=>?_);have I1:Inv X za σ H {s with heap:=h'}:=I.kept λb o e=>hx b o (bR<|aU e) e
 exact h za _ σ H xs _ Q I1 (by simpa using rv) hw
def aMu(hc:X.calm=true)(h:PGs X es (gNs js))(hl:js.length=ds.length)(hn:(Aj es X.env).length=ds.length)(hst:(Aj es X.env).findIdx? (·.1)=none:=by rfl):PGd X sd (.Tuple es k pos) (.lst ds) (aCc sd js ds):=.mk λσ F H v S q=>
 (aPS hc h hn hst).to (by
  obtain⟨a,xs,rfl,ha,rl⟩:=q
  exact⟨a,xs,rfl,.of (S.sub _ _ ha),rl.len,aEx hl rl S λσ' S'=>⟨F,S',Same.refl _⟩⟩)
theorem aBt(h:PEd X sd e (.val d))(hg:PGd X sd tg d sd')(hE:E.nx sd')(hs:swapsWithSole [tg] e pos.line X.env=pure false:=by rfl)(hw:swappedStores [tg] e X.env=pure none:=by rfl)(h1:(Aj [tg] X.env).map (·.2)=[assign tg X.env]:=by rfl):PSd1 X sd (.Assign [tg] e pos) E:=.mk λσ F H S=>
 (aJO eO aQj hs hw h1).to ((h σ F H S).imp λv H1 ⟨F1,S1,s1,q1⟩=>(hg σ F1 H1 v S1 q1).imp λσ' H' ⟨F',S',s'⟩=>⟨sd',F',S',s1.trans s',hE⟩)
theorem oR(Sd Td:Nat->List Slot)(hi:PId X sd P tg iter ds)(h0:Le sd (Sd 0))(hg:∀k d,ds[k]? =some d->PGd X (Sd k) tg d (Td k))(hb:∀k d,ds[k]? =some d->PSd X (Td k) body {E with nx:=λsd'=>Le sd' (Sd<|k+1),ct:=λsd'=>Le sd' (Sd<|k+1),bk:=E.nx}) (hE:E.nx (Sd ds.length)) (hP:∀k σ F H,StF X.K X.B₀ F H σ (Sd k)->P F H:=by intros;trivial)(hc:X.calm=true:=by rfl) (hp:PassesOwn (AG X.prog X.w) X.A X.env X.xe:=by exact PassesOwn.never) (hs:∀x,As iter X.env x=pure x:=by intro _;rfl):PSd1 X sd (.For tg iter body [] pos) E:=.mk λσ F H S=>
 (aJS hp hc aRQ aQj pss_w hs).to (by
  intro za s I;refine thn (hi σ F H S za s I) λv s1 h1=>thn h1 λitv s2 h2=>?_
  obtain⟨it,fp,tn,J,H2,e,I2,T,st2,f2,F1,S1,s1',itd⟩:=h2;refine⟨it,fp,tn,J,H2,e,I2,T,st2,f2,?_⟩;refine⟨λi m σ' H'=>m=ds.length-i/\i<=ds.length/\∃F',StF X.K X.B₀ F' H' σ' (Sd i)/\Same F1 F',⟨ds.length,by simp,bQ _,F1,S1.le h0,Same.refl _⟩,?_⟩;rintro i m σ' H' ⟨rfl,hil,F',S',s'⟩;obtain⟨g1,g2,g3⟩:=itd F' H' s' S'.sub S'.smp (hP _ _ _ _ S') i
  by_cases hlt:i<ds.length
  ·refine .inr ⟨g1 hlt,λσ2 H2=>∃F2,StF X.K X.B₀ F2 H2 σ2 (Sd<|i+1)/\Same F1 F2,λσ2 H2 ⟨F2,S2,s2⟩=>⟨ds.length-(i+1),by lia,rfl,hlt,F2,S2,s2⟩,λx H2 y=>?_⟩;have hd:ds[i]? =some ds[i]:=by simp[hlt]
   obtain⟨F2,s2,rp,up⟩:=g3 x H2 ds[i] hd y;refine(hg i _ hd σ' F2 H2 x (up _ _ _ S') rp).imp λσ3 H3 ⟨F3,S3,s3⟩=>?_
   have base:=(s'.trans s2).trans s3;refine(hb i _ hd σ3 F3 H3 S3).imp ?_ ?_ ?_ ?_
   ·rintro σ4 H4 ⟨sd4,F4,S4,s4,le⟩;exact⟨F4,S4.le le,base.trans s4⟩
   ·exact λv H4 q=>q
   ·rintro σ4 H4 ⟨sd4,F4,S4,s4,q⟩;exact⟨sd4,F4,S4,(s1'.trans base).trans s4,q⟩
   ·rintro σ4 H4 ⟨sd4,F4,S4,s4,le⟩;exact⟨F4,S4.le le,base.trans s4⟩
  ·have e:i=ds.length:=by lia
   subst e
   exact .inl ⟨g2 (aQ _),Sd ds.length,F',S',s1'.trans s',hE⟩)
def Inv.retrack(I0:Inv X za σ H s):∀ (ls:List BF),ls.Nodup->(∀l∈ls,F l=none/\(∃xs,H l=some xs/\Wr l xs)/\∀o,s.heap.get? l=some o->s'.heap.get? l=some o)->Inv X za σ F s'->Inv X za σ (λb=>if b∈ls then H b else F b) s'
 |[],_,_,I=>by simpa using I
 |l::ls,nd,h,I=>by
  obtain⟨nl,nd'⟩:=bY.mp nd;have J:=Inv.retrack I0 ls nd' (λl' hl=>h l'<|aH _ hl) I;obtain⟨n,⟨xs,hx,wx⟩,kp⟩:=h l aO
  have e:(λb=>if b∈l::ls then H b else F b)=upd (λb=>if b∈ls then H b else F b) l xs:=by
   funext b;unfold upd
   by_cases hb:b=l
   ·subst hb;simp[hx]
   ·simp[hb]
  rw[e];have n':(λb=>if b∈ls then H b else F b) l=none:=by simp[nl,n]
  have ob:=I0.hok l _ hx;clear e;generalize (λb=>if b∈ls then H b else F b)=G at J n' ⊢;refine⟨J.ok,J.os,J.bare,⟨J.base.keep,J.base.slot,λb u g n0 hx0=>?_,J.base.there,λb ys g=>?_,λb u ys g=>?_,λb ps g=>?_⟩,J.loc,J.cell,?_,λx c g=>?_,λp hp=>?_,J.hok.track n' ?_,J.len⟩
  ·have hb:b≠l:=λq=>by subst q;have:=I0.base.free b u g n0 hx0;rw[hx] at this;cases this
   rw[aW hb];exact J.base.free b u g n0 hx0
  ·have q:=J.base.tups b ys g;rw[aW<|cC q n'];exact q
  ·have q:=J.base.frzs b u ys g;rw[aW<|cC q n'];exact q
  ·obtain⟨m,q⟩:=J.base.tbls b ps g;exact⟨m,by rw[aW<|cC q n'];exact q⟩
  ·rw[aW λq=>by have:=I0.free;rw[q,hx] at this;cases this];exact J.free
  ·rw[aW λq=>by have:=I0.freeC x c g;rw[q,hx] at this;cases this];exact J.freeC x c g
  ·obtain⟨g,n0,rr⟩:=J.pin p hp;refine⟨g,?_,rr⟩;rw[aW λq=>by have:=(I0.pin p hp).2.1;rw[q,hx] at this;cases this];exact n0
  ·cases xs with
   |lst xs=>obtain⟨z,its,nn,rv,ho⟩:=ob;exact⟨z,its,nn,rv,kp _ ho⟩
   |dK kvs=>obtain⟨z,y,vs,r,o,es,ep,e,c⟩:=ob;exact⟨z,y,vs,r,o,es,ep,kp _ e,c⟩
   |ext φ=>obtain⟨h1,⟨o1,h2⟩,h3⟩:=ob;exact⟨h3 _ _ h1 kp,⟨o1,kp _ h2⟩,h3⟩
   |_=>exact wx.elim
def aQf(wx:Wr l xs)(q:H l=some xs)(ok:ObjOk P w H h l xs):∃ys o,H l=some ys/\Wr l ys/\h.get? l=some o/\∀v,o.data≠ .cell v:=by
 cases xs with
 |lst xs=>obtain⟨_,its,nn,_,ho⟩:=ok;exact⟨_,_,q,trivial,ho,λv z=>by cases z⟩
 |dK kvs=>obtain⟨_,_,_,_,o,es,ep,e,_,d,_⟩:=ok;exact⟨_,_,q,trivial,e,λv z=>by rw[d] at z;cases z⟩
 |ext φ=>obtain⟨o,e,n⟩:=id wx;subst e;exact⟨_,o,q,wx,ok.1,n⟩
 |_=>exact wx.elim
def aIY(S:StF X.K X.B₀ F H σ sd)(hr:match r with | .bor _=>False|_=>True)(h:wE X e σ F λv F3=>aHA X.K F F3 r v):wE X e σ H λv H'=>∃F',StF X.K X.B₀ F' H' σ sd/\Same F F'/\ResOk X.K F' H' sd r v:=λza s I=>by
 have I1:=I.less S.sub S.base<|S.smp.sub S.sub
 have ob:∀l∈cS sd,∃xs o,H l=some xs/\Wr l xs/\s.heap.get? l=some o/\∀v,o.data≠ .cell v:=λl hl=>by obtain⟨n,xs,q,wx⟩:=S.slots.owns hl;exact aQf wx q<|I.hok l _ q
 have I2:=I1.pins_of λp hp=>(aV.mp hp).elim (λz=>I1.pin p<|aJ _ z) λz=>by
  obtain⟨hb,g⟩:=uO z;obtain⟨xs,o,q,_,ho,hc⟩:=ob p.1 hb;rw[g] at ho;cases ho;refine⟨g,(S.slots.owns hb).1,λy=>?_,λy=>?_,hc⟩
  ·have:=I.free;rw[<-y,q] at this;cases this
  ·obtain⟨_,o',ho',_⟩:=I.ok.funs.mem y;have:=I.base.free p.1 o' ho' (I.ok.frf p.1 y) λz=>I.ok.exfs p.1 z y
   rw[q] at this;cases this
 refine thn (h _ s I2) λu s' ⟨v,F3,I3,rv,F2,s1,s2,sm3,res⟩=>?_
 have kp:∀l∈cS sd,F3 l=none/\(∃xs,H l=some xs/\Wr l xs)/\∀o,s.heap.get? l=some o->s'.heap.get? l=some o:=λl hl=>by obtain⟨xs,o,q,wx,ho,_⟩:=ob l hl;have:=I3.pin (l,o)<|aJ _ (aJ _<|jQ hl ho);exact⟨this.2.1,⟨xs,q,wx⟩,λo' g=>by rw[ho] at g;cases g;exact this.1⟩
 have I4:=Inv.retrack I (cS sd) S.nd kp I3.unpinned;refine⟨v,_,I4,rv,F2,⟨λb o g=>s1 _ _<|S.base _ _ g,λb o g=>?_,λb o g=>?_,S.slots.mono s1 λl hl=>⟨s2.free (kp l hl).1,λxs g=>by simpa[hl] using g⟩,S.nd⟩,s1,?_⟩
 ·have g3:=s2 _ _ g;have:b∉cS sd:=λhb=>by rw[(kp b hb).1] at g3;cases g3
  simp[this,g3]
 ·by_cases hb:b∈cS sd
  ·simp[hb] at g;exact S.smp _ _ g
  ·simp[hb] at g;exact sm3 _ _ g
 ·cases r with
  |val d=>exact res
  |own ds'=>
   obtain⟨l,xs,e,n,q,rl',_⟩:=res;have:l∉cS sd:=λhl=>by rw[(kp l hl).1] at q;cases q
   exact⟨l,xs,e,n,by simp[this,q],rl',this⟩
  |pr d ls=>
   obtain⟨t,l,xs,y,e,f,g,n,q,rl',_⟩:=res;have:l∉cS sd:=λhl=>by rw[(kp l hl).1] at q;cases q
   exact⟨t,l,xs,y,e,f,g,n,by simp[this,q],rl',this⟩
  |ox G=>
   obtain⟨ls,nd,h,g⟩:=res
   have no:∀l∈ls,l∉cS sd:=λl hl hm=>by obtain⟨n,⟨ob,q,w⟩,_⟩:=h l hl;rw[(kp l hm).1] at q;cases q
   refine⟨ls,nd,λl hl=>?_,λF' H' sF k=>g F' H' sF λl hl ob q=>k l hl ob<|by simp[no l hl,q]⟩;obtain⟨n,⟨ob,q,w⟩,_⟩:=h l hl;exact⟨n,⟨ob,by simp[no l hl,q],w⟩,no l hl⟩
  |bor ds'=>exact hr.elim
noncomputable def aNX:Option Slot->Slot
 |some (.val d)=>.val d
 |some (.ox [] G)=>.ox [] G
 |_=>.un
def nK(cap:List (Option Nat))(sd:List Slot):List Slot:=cap.map λo=>match o with
 |none=>.un
 |some k=>aNX sd[k]?
theorem aBg(h:SlotsOk K F H sd σ)(s:Same F F'):∀cap:List (Option Nat),SlotsOk K F' H' (nK cap sd) (zF cap σ)
 |[]=>rfl
 |o::cap=>by
  refine⟨_,_,rfl,?_,aBg h s cap⟩;cases o with
  |none=>trivial
  |some k=>
   show eF K F' H' (aNX sd[k]?) _;cases q:sd[k]? with
   |none=>trivial
   |some z=>
    cases z with
    |un=>trivial
    |own l ds=>trivial
    |od l ks ds=>trivial
    |ox ls G=>
     cases ls with
     |cons a ls=>trivial
     |nil=>obtain⟨o,h1,v,h2,h3,h4⟩:=h.get q;subst h2;exact⟨v,by simp[h1],λl hl=>(nomatch hl),λF2 H2 s2 _=>h4 F2 H2 (s.trans s2) λl hl=>(nomatch hl)⟩
    |gh d G=>trivial
    |val d=>obtain⟨o,h1,v,h2,rv⟩:=h.get q;subst h2;exact⟨v,by simp[h1],rv.mono s⟩
theorem rO:∀ (cap:List (Option Nat)) (sd:List Slot),cS (nK cap sd)=[]
 |[],_=>rfl
 |o::cap,sd=>by
  have ih:=rO cap sd;cases o with
  |none=>exact ih
  |some k=>
   show cS (aNX sd[k]? ::nK cap sd)=[];cases q:sd[k]? with
   |none=>exact ih
   |some z=>
    cases z with
    |ox ls G=>cases ls<;>exact ih
    |_=>exact ih
noncomputable def unS:Slot->Slot
 |.own _ _=>.un
 |.od _ _ _=>.un
 |.ox [] G=>.ox [] G
 |.ox _ _=>.un
 |z=>z
def unO(sd:List Slot):List Slot:=sd.map unS
theorem jS:∀sd:List Slot,cS (unO sd)=[]
 |[]=>rfl
 |.un::r=>jS r
 |.val _::r=>jS r
 |.gh _ _::r=>jS r
 |.own _ _::r=>jS r
 |.od _ _ _::r=>jS r
 |.ox [] _::r=>jS r
 |.ox (_::_) _::r=>jS r
def aIK(cap:List (Option Nat))(sd:List Slot):nK cap (unO sd)=nK cap sd:=by
 refine cH λo _=>?_
 cases o with
 |none=>rfl
 |some k=>
  show aNX (unO sd)[k]? =aNX sd[k]?;unfold unO;rw[bE];cases q:sd[k]? with
  |none=>rfl
  |some z=>
   cases z with
   |ox ls G=>cases ls<;>rfl
   |_=>rfl
theorem aAD:∀ {sd:List Slot}{σ:St},SlotsOk K F H sd σ->SlotsOk K F H' (unO sd) σ
 |[],_,h=>h
 |z::zs,σ,h=>by
  obtain⟨o,r,rfl,a,b⟩:=h;refine⟨o,r,rfl,?_,aAD b⟩;cases z with
  |un=>trivial
  |val d=>exact a
  |gh d G=>exact a
  |od l ks ds=>trivial
  |ox ls G=>
   cases ls with
   |cons a ls=>trivial
   |nil=>obtain⟨v,h2,h3,h4⟩:=a;exact⟨v,h2,λl hl=>(nomatch hl),λF2 H2 s2 _=>h4 F2 H2 s2 λl hl=>(nomatch hl)⟩
  |own l ds=>trivial
def nX(p:D->Bool)(h:ds[i]? =some d):(ds.take<|i+1).filter p=(ds.take i).filter p++(if p d then[d] else[]):=by rw[gW,h];cases hp:p d<;>simp[hp]
theorem lS{Tb:D->List Slot}(p:D->Bool)(f:D->D)(hi:PId X (unO sd) PT0 tg iter ds) (hl:ds.length<=10000)(hsc:X.env.scope=sc) (hcn:oJ scope sc=true) (hM:X.N=M) (hcap:mI N M scope sc cap=true) (hk:scope.kind=.function)(hg:∀cl C fp s H d,d∈ds->PGd (cxB X N scope cl C fp s H) (nK cap sd) tg d (Tb d))(hle:∀d,d∈ds->Le (Tb d) (nK cap sd))(ht:∀cl C fp s H d,d∈ds->(ifs=[]/\p d=true)\/∃c,ifs=[c]/\PTd (cxB X N scope cl C fp s H) (Tb d) c (p d))(he:∀cl C fp s H d,d∈ds->p d=true->PEd (cxB X N scope cl C fp s H) (Tb d) elt (.val<|f d))(hc:X.calm=true:=by rfl) (hs:∀x,As iter X.env x=pure x:=by intro _;rfl):PEd X sd (.ListComp elt [⟨tg,iter,ifs,0⟩] scope pos) (.own<|(ds.filter p).map f):=.mk λσ F H S=>by
 refine aIY S trivial ?_;have S0:StF X.K X.B₀ F F σ (unO sd):=⟨S.base,Same.refl _,S.smp.sub S.sub,aAD S.slots,by rw[jS];exact cQ⟩;intro za s I
 have nm:∀y∈scope.names,(y.2=NameKind.free->sc.names.lookup y.1=some NameKind.cell)/\(y.2=NameKind.local->scope.names.lookup y.1=some NameKind.local):=λy hy=>by have q:=fG.mp hcn y hy;simp at q;exact⟨λe=>q.1.1.resolve_left λz=>z e,λe=>q.2.resolve_left λz=>z e⟩
 have fre:∀y∈scope.names,y.2=.free->∃c,X.env.cells.lookup y.1=some c:=λy hy e=>I.ok.has y.1 (.inl<|by show X.env.scope.names.lookup y.1=_;rw[hsc];exact(nm y hy).1 e)
 refine wpAny_comprehension_free rfl hs (yX fre) hk (λy hy=>(nm y hy).2) ?_;refine thn (hi σ F F S0 za s I) λv s1 h1=>thn h1 λitv s2 h2=>?_
 obtain⟨it,fp,tn,J,H2,e,I2,T,st2,f2,F1,S1,s1',itd⟩:=h2;subst e
 have S1b:StF X.K H2 H2 H2 (zF cap σ) (nK cap sd):=⟨Same.refl _,Same.refl _,S1.smp,by
  have q:=aBg (H':=H2) S1.slots S1.sub cap;rw[aIK] at q
  exact q,by rw[rO];exact cQ⟩
 refine aCk (g:=λv σ2 H3 Q=>∀cl C,wG (cxB X N scope cl C fp s2 H2) tg v σ2 H3 Q) (tt:=λσ2 H3 Q=>∀cl C,aQp (cxB X N scope cl C fp s2 H2) ifs σ2 H3 Q) (te:=λσ2 H3 Q=>∀cl C,wE (cxB X N scope cl C fp s2 H2) elt σ2 H3 Q)
  hc hsc hcn (by rw[hM];exact hcap) hk I2 T st2 f2 (λcl C pi s3 σ3 H3 v u Q I3 ru q=>q cl C pi s3 u I3 ru) (λcl C pi s3 σ3 H3 Q I3 q=>q cl C pi s3 I3) (λcl C pi s3 σ3 H3 Q I3 q=>q cl C pi s3 I3)
  (λi m ys σb H3=>m=ds.length-i/\i<=ds.length/\∃Fb,StF X.K H2 Fb H3 σb (nK cap sd)/\RepL X.K Fb (((ds.take i).filter p).map f) ys) ds.length
  ⟨by simp,bQ _,H2,S1b,by simpa using RepL.nil⟩ _ ?_
 rintro i m ys σb H3 ⟨rfl,hil,Fb,Sb,rl⟩;have sF1:Same F1 Fb:=λb o g=>Sb.base _ _<|S1.sub _ _ g
 obtain⟨g1,g2,g3⟩:=itd Fb H3 sF1 Sb.sub Sb.smp trivial i
 by_cases hlt:i<ds.length
 ·have hd:ds[i]? =some ds[i]:=by simp[hlt]
  have hm:=gF hlt
  have ylen:ys.length<=i:=by rw[rl.len,aC];exact cJ (iS _ _) (by simp;lia)
  refine .inr ⟨g1 hlt,eY<|by lia,λys' σ' H'=>∃Fb',StF X.K H2 Fb' H' σ' (nK cap sd)/\RepL X.K Fb' (((ds.take<|i+1).filter p).map f) ys',λys' σ' H' ⟨Fb',Sb',rl'⟩=>⟨ds.length-(i+1),by lia,rfl,hlt,Fb',Sb',rl'⟩,λx H4 y cl C=>?_⟩;obtain⟨F4,s4,rp,up⟩:=g3 x H4 ds[i] hd y;refine(hg cl C fp s2 H2 _ hm σb F4 H4 x (up _ _ _ Sb) rp).imp λσ5 H5 ⟨F5,S5,s5⟩ cl2 C2=>?_
  have rl5:=rl.mono<|s4.trans s5
  have fin:∀ (b:Bool) (H6:Hp) (F6:Hp),b=p ds[i]->StF X.K H2 F6 H6 σ5 (Tb ds[i])->Same F5 F6->if b=true then(∀cl C,wE (cxB X N scope cl C fp s2 H2) elt σ5 H6 λv H5=>∃Fb',StF X.K H2 Fb' H5 σ5 (nK cap sd)/\RepL X.K Fb' (((ds.take<|i+1).filter p).map f) (ys++[v])) else ∃Fb',StF X.K H2 Fb' H6 σ5 (nK cap sd)/\RepL X.K Fb' (((ds.take<|i+1).filter p).map f) ys:=λb H6 F6 eb S6 s6=>by
   rw[nX p hd,<-eb];cases b with
   |false=>exact aJw ⟨F6,S6.le<|hle _ hm,by simpa using rl5.mono s6⟩
   |true=>
    refine aJA λcl3 C3=>(he cl3 C3 fp s2 H2 _ hm eb.symm σ5 F6 H6 S6).imp λv H7 ⟨F7,S7,s7,q7⟩=>⟨F7,S7.le<|hle _ hm,?_⟩
    simp ;exact((rl5.mono s6).mono s7).app<|.one q7
  rcases ht cl2 C2 fp s2 H2 _ hm with⟨e1,e2⟩|⟨c,e1,q⟩
  ·subst e1;exact aCl (fin true H5 F5 e2.symm S5<|Same.refl _)
  ·subst e1;exact aCS<|(q σ5 F5 H5 S5).imp λb H6 ⟨eb,F6,S6,s6⟩=>fin b H6 F6 eb S6 s6
 ·have e:i=ds.length:=by lia
  subst e;refine .inl ⟨g2<|aQ _,λD C s' hD hC hDC h0 hL hcc hpp hst ⟨m',ns'⟩ J'=>⟨m',ns',λh' sb=>?_⟩⟩;have J2:Inv X za σ (upd H3 D<|.lst ys) {s' with heap:=h',toks:=s'.toks}:=J'.turned (λb o hb g=>sb.extBut b o hb g) (by rw[aW<|Ne.symm hDC];exact hC) hL (.inr h0) hcc hpp;refine⟨.ref D,_,J2,rfl,Fb,λb o g=>Sb.base _ _ (S1.sub _ _<|s1' _ _ g),λb o g=>?_,λb o g=>?_,D,ys,rfl,Sb.sub.free hD,bH,?_,by simp[cS]⟩
  ·have g3:=Sb.sub _ _ g;rw[aW<|cC g3 hD];exact g3
  ·by_cases hb:b=D
   ·subst hb;rw[bH] at g;cases g;trivial
   ·rw[aW hb] at g;exact Sb.smp _ _ g
  ·simpa using rl
def isIB:D->Bool
 |.int _=>true
 |.bl _=>true
 |_=>false
def isB:D->Bool
 |.bl _=>true
 |_=>false
def isT:D->Bool
 |.tup _=>true
 |_=>false
def isL:D->Bool
 |.lst _=>true
 |.scr _=>true
 |_=>false
def aLX(K:aB)(d:D):cU K (tyD d) (.type "int")=some (isIB d):=by cases d<;>with_unfolding_all rfl
def sT(K:aB)(d:D):cU K (tyD d) (.type "bool")=some (isB d):=by cases d<;>with_unfolding_all rfl
def PEd.cast(h:PEd X sd e r)(q:r=r'):PEd X sd e r':=q▸h
def mY(h:PTd X sd c k)(hk:k=false)(h2:PSd X sd o E):PSd1 X sd (.If c x o pos) E:=fX h (λe=>by rw[hk] at e;cases e) λ_=>h2
def oS(h:PTd X sd c k)(hk:k=true)(h2:PSd X sd x E):PSd1 X sd (.If c x o pos) E:=fX h (λ_=>h2) λe=>by rw[hk] at e;cases e
def wK(ha:PEd X sd a (.bor d1))(hb:PEd X sd b (.bor d2))(hl:d1.length+d2.length<=10000):PEd X sd (.BinOp a .Add b pos) (.own<|d1++d2):=
 yE aQe ha hb trivial λσ F H v u Q S q1 q2 k=>by obtain⟨l,xs,e1,h1,r1,_⟩:=q1;obtain⟨m,ys,e2,h2,r2,_⟩:=q2;refine⟨l,m,xs,ys,e1,e2,h1,h2,by rw[r1.len,r2.len];exact cZ<|eY hl,λp hp=>?_⟩;obtain⟨S2,fp,no⟩:=S.layO hp;exact k _ F _ S2 (Same.refl _) ⟨p,_,rfl,fp,bH,r1.app r2,no⟩
theorem kA(ha:PEd X sd a (.bor ds))(hb:PEd X sd b (.val<|.int i))(h0:0<=i)(hd:ds[i.toNat]? =some d)(hs:nD b):PEd X sd (.Subscript a b pos) (.val d):=by
 have e:i=(i.toNat):=by lia
 rw[e] at hb;exact nI ha hb hd hs
theorem aAY(ha:PEd X sd a (.val<|.tup ds))(hb:PEd X sd b (.val<|.int i))(h0:0<=i)(hd:ds[i.toNat]? =some d)(hs:nD b):PEd X sd (.Subscript a b pos) (.val d):=by
 have e:i=(i.toNat):=by lia
 rw[e] at hb;exact rZ ha hb hd hs
theorem aNr(ha:PEd X sd a (.val<|.scr ns))(hb:PEd X sd b (.val<|.int i))(h0:0<=i)(hd:ns[i.toNat]? =some z)(hs:nD b):PEd X sd (.Subscript a b pos) (.val<|.int z):=by
 have e:i=(i.toNat):=by lia
 rw[e] at hb;exact aKE ha hb hd hs
set_option tactic.hygienic true in
theorem yK(h:i.natAbs<2^250):Builtin.Int.intBits i<=2^20:=by
 unfold Builtin.Int.intBits
 split
 ·exact bQ _
 ·rename_i hz
  have hne:i.natAbs≠0:=by
   intro z;apply hz;have:i=0:=by lia
   subst this;rfl
  have:=(Nat.log2_lt hne).mpr h;lia
def aAx(h1:i.natAbs<2^250)(h2:j.natAbs<2^250):IntMulOk i j:=.of_bits (yK h1)<|yK h2
def most:Int:=1000*10^64
noncomputable def vR:Int->List Int->List Int
 |_,[]=>[]
 |x,n::ns=>(x%n)::vR (x / n) ns
theorem sG:∀ (x:Int) (ns:List Int),(vR x ns).length=ns.length
 |_,[]=>rfl
 |x,n::ns=>by simp[vR,sG]
def aBx:List D->R->Prop:=λds r=>∃x ns,ds=[.int x,.lst<|ns.map D.int]/\(∀n∈ns,0<n/\n.natAbs.log2<9000)/\ns.length<=100/\r=.own ((vR x ns).map D.int)
noncomputable def bX:List (Int×Int):=[(2,2),(1,1),(1,2),(2,1),(1,3),(3,1),(2,3),(3,2),(1,4),(4,1),(1,5),(5,1),(1,6),(6,1)]
def cP(p:Int×Int):D:=.tup [.int p.1,.int p.2]
def aQC:List D->R->Prop:=λds r=>∃ns:List Int,ds=[.scr ns]/\ns.length<=63/\r=.val (.bl true)
noncomputable def aNx:Int->List Int->Int
 |x,[]=>x
 |x,n::ns=>aNx (x / n) ns
theorem aAk:∀ (x:Int) (ns:List Int) (n:Int),aNx x (ns++[n])=aNx x ns / n
 |_,[],_=>rfl
 |x,m::ns,n=>aAk (x / m) ns n
theorem aAj:∀ (x:Int) (ns:List Int) (n:Int),vR x (ns++[n])=vR x ns++[aNx x ns%n]
 |_,[],_=>rfl
 |x,m::ns,n=>by show(x%m)::vR (x / m) (ns++[n])=_;rw[aAj (x / m) ns n];rfl
def uG{ns:List Int}(h:(ns.map D.int)[k]? =some d):k<ns.length/\d=.int (ns.getD k 0):=by
 rw[bE] at h;cases e:ns[k]? with
 |none=>rw[e] at h;cases h
 |some z=>rw[e] at h;refine⟨(aF.mp e).1,?_⟩;rw[<-bZ.inj h,bV,e];rfl
def getD_mem{α:Type}{l:List α}{d:α}(h:i<l.length):l.getD i d∈l:=by
 have e:l.getD i d=l[i]:=by simp[bV,h]
 rw[e];exact gF h
def aIE(h:aQm H):Smp H:=λb o e=>by
 rcases h b with z|⟨o',xs,z⟩
 ·rw[z] at e;cases e
 ·rw[z] at e;cases e;trivial
def walkD{l:PySem.W.OpenLaw}{d:DefRec}{K:Params->aB}(hn:l.most=some 63)(hdf:d.params.defaults=[])(hr:Room k callerA) (hY:∀ (w:AL) (h:BH),YP w h->(K w.params).In h)(F:∀ (w:AL) (mg:Str→Option BD) (fa:BF) (h:BH),(K w.params).In h→h.Ns AQ mg→mg d.name=some (.ref fa)→∃fd:AN,(∀ (s:BE) (u:BD),BindsTo s fd ⟨[u],[]⟩ [(x,u)])/\∀base:BH,(K w.params).In base->base.Ns AQ mg->FnOk l.prog w (K w.params) mg base CX0 k fa fd [x] (spC (K w.params) 1 aQC)):PySem.W.WalkO q loose XP YP l.row.toRowW d [] (λf vs=>PySem.call f vs):=
 L2.walk_of hn (by decide) hdf hr hY F
  (λw H a ns hl ho hS=>⟨rfl,aIE ho,[.scr ns],.val<|.bl true,.one (⟨a,rfl,hS⟩),⟨ns,rfl,hl,rfl⟩,λv H' ⟨F,_,_,_,res⟩=>by simpa only[ResOk,Rep] using res⟩) λ_ _ _ _ _ z=>z
variable {za:List (BF×BI)}{s:BE}{sts:List BJ}
noncomputable abbrev reB(X:Cx)(B:Hp)(h:∀b o,X.H₀ b=some o->nL o->B b=some o):Cx:={X with B₀:=B,hB:=h}
def aMO(I:Inv X za σ H s):Inv (reB X B hb) za σ H s:=
 ⟨⟨I.ok.mod,I.ok.kind,I.ok.glob,I.ok.blt,I.ok.above,I.ok.inj,I.ok.has,I.ok.cab,I.ok.hd,I.ok.frames,I.ok.stk,I.ok.exf,I.ok.bs,I.ok.bsz,I.ok.noex,I.ok.exfs,I.ok.funs,I.ok.frf⟩,I.os,I.bare,I.base,I.loc,I.cell,I.free,I.freeC,I.pin,I.hok,I.len⟩
def wJ(I:Inv (reB X B hb) za σ H s):Inv X za σ H s:=
 ⟨⟨I.ok.mod,I.ok.kind,I.ok.glob,I.ok.blt,I.ok.above,I.ok.inj,I.ok.has,I.ok.cab,I.ok.hd,I.ok.frames,I.ok.stk,I.ok.exf,I.ok.bs,I.ok.bsz,I.ok.noex,I.ok.exfs,I.ok.funs,I.ok.frf⟩,I.os,I.bare,I.base,I.loc,I.cell,I.free,I.freeC,I.pin,I.hok,I.len⟩
def aBe{D:vV}(h:wSs (reB X B hb) sts D σ H):wSs X sts D σ H:=λza s I=>thn (h za s<|aMO I) λf s' q=>by
 cases f with
 |next=>obtain⟨σ',H',I',q⟩:=q;exact⟨σ',H',wJ I',q⟩
 |brk=>obtain⟨σ',H',I',q⟩:=q;exact⟨σ',H',wJ I',q⟩
 |cont=>obtain⟨σ',H',I',q⟩:=q;exact⟨σ',H',wJ I',q⟩
 |ret u=>obtain⟨v,σ',H',I',r,q⟩:=q;exact⟨v,σ',H',wJ I',r,q⟩
structure Lent(K:aB) where
 α:Type
 ad:α->BF
 own:α->List BF
 G:α->V->Hp->Hp->Prop
 hv:∀ {a:α}{v:V}{F H:Hp},G a v F H->v=.ref (ad a)
noncomputable def Lent.sl{K:aB}(Z:Lent K)(a:Z.α):Slot:=.ox (Z.own a)<|Z.G a
variable (Z:Lent K)
def spL(n:Nat)(C:Z.α->List D->(Z.α->Prop)->Prop):Sp:=λvs H Q _=>vs.length=n/\∃ (v:V) (us:List V) (F:Hp) (a:Z.α) (ds:List D) (post:Z.α->Prop),vs=v::us/\Same F H/\(∀b,b∉Z.own a->H b=F b)/\Smp H/\eF K F H (Z.sl a) (some v)/\(Z.own a).Nodup/\RepL K F ds us/\C a ds post/\(∀a',post a'->Z.ad a'=Z.ad a)/\
 ∀H',(∃F' a',post a'/\Same F F'/\Same F' H'/\Smp H'/\eF K F' H' (Z.sl a') (some v)/\(Z.own a').Nodup)->Q .non H'
def spM(n:Nat)(C:Z.α->List D->(Z.α->Prop)->Prop):Sp:=λvs H Q _=>vs.length=n/\Smp H/\∃ (v:V) (us:List V) (F:Hp) (a:Z.α) (ds:List D) (post:Z.α->Prop),vs=v::us/\Same F H/\eF K F H (Z.sl a) (some v)/\(Z.own a).Nodup/\RepL K F ds us/\C a ds post/\(∀a',post a'->Z.ad a'=Z.ad a)/\
 ∀F' H' a',post a'->Same F F'->Same F' H'->Smp H'->eF K F' H' (Z.sl a') (some v)->(Z.own a').Nodup->(∀b o,b∉Z.own a->H b=some o->H' b=some o)->(∀b o,b∉Z.own a->H b=some o->F b=none->F' b=none/\b∉Z.own a')->Q .non H'
open Classical in
noncomputable def lJ(as:List BF)(F H:Hp):Hp:=λb=>if b∈as then H b else F b
open Classical in
def gD(as:List BF)(F H:Hp):Hp:=λb=>if b∈as then F b else uE F H b
def fY:Same F (gD as F H):=λb o e=>by
 unfold gD
 by_cases h:b∈as
 ·rw[zt h];exact e
 ·rw[zr h];exact uA _ _ e
def gL{b:BF}(hb:b∉as)(h:F b=none):gD as F H b=H b:=by unfold gD;rw[zr hb];exact tW h
def lW{b:BF}(hb:b∈as):lJ as F H b=H b:=by unfold lJ;rw[zt hb]
def iB{b:BF}(hb:b∉as):lJ as F H b=F b:=by unfold lJ;rw[zr hb]
def FnOk.framedL{Z:Lent K}{C:Z.α->List D->(Z.α->Prop)->Prop}(G:FnOk P w K mg base CX0 k f fd ps (spL Z n C)):FnOk P w K mg base CX0 k f fd ps (spM Z n C):=by
 have res:∀ {F H:Hp}{a:Z.α}{v:V},Same F H->eF K F H (Z.sl a) (some v)->Same F (lJ (Z.own a) F H)/\Same (lJ (Z.own a) F H) H/\eF K F (lJ (Z.own a) F H) (Z.sl a) (some v):=λ{F H a v} sF so=>by
  obtain⟨v',ev,ow,gg⟩:=so;refine⟨λb o e=>?_,λb o e=>?_,v',ev,λb hb=>⟨(ow b hb).1,?_⟩,λF' H' s k=>gg F' H' s λb hb ob e=>k b hb ob<|by rw[lW hb];exact e⟩
  ·by_cases h:b∈Z.own a
   ·rw[(ow b h).1] at e;cases e
   ·rw[iB h];exact e
  ·by_cases h:b∈Z.own a
   ·rw[lW h] at e;exact e
   ·rw[iB h] at e;exact sF b o e
  ·rw[lW hb];exact(ow b hb).2
 refine⟨λvs H Q E h=>?_,λA outer s H args us vs Q E hr e0 hb rv h=>?_⟩
 ·obtain⟨hl,sm,v,us,F,a,ds,post,e,sF,so,nd,rl,c,hp,_⟩:=h;obtain⟨q1,q2,q3⟩:=res sF so;exact G.len vs (lJ (Z.own a) F H) (λ_ _=>True) E ⟨hl,v,us,F,a,ds,post,e,q1,λb hb=>iB hb,sm.sub q2,q3,nd,rl,c,hp,λ_ _=>trivial⟩
 ·obtain⟨hl,sm,v,us',F,a,ds,post,ev,sF,so,nd,rl,c,hp,q⟩:=h;obtain⟨q1,sU,q3⟩:=res sF so;obtain⟨_,_,ow,_⟩:=id so;have nU:∀b,b∉Z.own a->F b=none->lJ (Z.own a) F H b=none:=λb hbl n=>by rw[iB hbl];exact n
  have e1:Env0 P w K mg base A outer s (lJ (Z.own a) F H):=⟨e0.frames,e0.mod,λb o e=>⟨(e0.bs b o e).1,sU.free (e0.bs b o e).2⟩,e0.bsz,e0.funs,λb hb=>sU.free<|e0.frf b hb,λb o e=>(e0.hok b o<|sU b o e).smp (sm b o<|sU b o e),e0.bare⟩;refine Aq (G.run A outer s (lJ (Z.own a) F H) args us vs (λv3 F3=>v3=.non/\∃F' a',post a'/\Same F F'/\Same F' F3/\Smp F3/\eF K F' F3 (Z.sl a') (some v)/\(Z.own a').Nodup) E hr e1 hb rv ⟨hl,v,us',F,a,ds,post,ev,q1,λb hb=>iB hb,sm.sub sU,q3,nd,rl,c,hp,λH' z=>⟨rfl,z⟩⟩) λrr s' hrr=>?_
  cases rr with
  |error e=>exact hrr
  |ok flw=>
   cases flw with
   |ret u=>
    obtain⟨v3,F3,ho,ha,un,hk,ru,e3,F2,a',pa,s1,s2,sm3,so3,nd3⟩:=hrr;subst e3
    have keepF:∀b o,b∉Z.own a->H b=some o->F b=none->F3 b=none:=λb o hbl e n=>by
     cases g:s.heap.get? b with
     |none=>
      exfalso;have ob:=e0.hok b o e;have z:=sm b o e;cases o with
      |lst xs=>obtain⟨_,_,_,_,g'⟩:=ob;rw[g] at g';cases g'
      |tup xs=>obtain⟨_,_,_,oo,g',_⟩:=ob;rw[g] at g';cases g'
      |dK kvs=>obtain⟨_,_,_,_,oo,_,_,g',_⟩:=ob;rw[g] at g';cases g'
      |frz o2 u2=>obtain⟨g',_⟩:=ob;rw[g] at g';cases g'
      |ext φ=>obtain⟨_,⟨oo,g'⟩,_⟩:=ob;rw[g] at g';cases g'
      |_=>exact z
     |some ob=>exact un.free b ob g (nU b hbl n)<|by simp
    have keepO:∀b o,b∉Z.own a->H b=some o->F b=none->∀ob,s.heap.get? b=some ob->s'.heap.get? b=some ob:=λb o hbl e n ob g=>un.keep b ob g (nU b hbl n) (λhb=>by have:=e0.frf b hb;rw[e] at this;cases this)<|by simp
    have sH:∀b o,b∉Z.own a->H b=some o->gD (Z.own a) F3 H b=some o:=λb o hbl e=>by
     cases g:F b with
     |none=>rw[gL hbl<|keepF b o hbl e g];exact e
     |some o'=>have:=sF b o' g;rw[e] at this;cases this;exact fY _ _ (s2 _ _<|s1 _ _ g)
    have nl:∀ {b:BF}{o:HO},H b=some o->¬ Wr b o->b∉Z.own a:=λe no z=>by obtain⟨_,ob,g,wr⟩:=ow _ z;rw[e] at g;cases g;exact no wr
    have nn:∀ {b:BF},H b=none->b∉Z.own a:=λe z=>by obtain⟨_,ob,g,_⟩:=ow _ z;rw[e] at g;cases g
    have smM:Smp (gD (Z.own a) F3 H):=λb o e=>by
     by_cases hbl:b∈Z.own a
     ·unfold gD at e;rw[zt hbl] at e;exact sm3 _ o e
     ·cases g:F3 b with
      |some o'=>have:=fY (as:=Z.own a) (H:=H) b o' g;rw[e] at this;cases this;exact sm3 b o g
      |none=>rw[gL hbl g] at e;exact sm b o e
    have soM:eF K F2 (gD (Z.own a) F3 H) (Z.sl a') (some v):=by obtain⟨v',ev,ow3,gg⟩:=so3;refine⟨v',ev,λb hb=>⟨(ow3 b hb).1,?_⟩,λF' H' s k=>gg F' H' s λb hb ob e=>k b hb ob<|fY _ _ e⟩;obtain⟨_,ob,g,wr⟩:=ow3 b hb;exact⟨ob,fY _ _ g,wr⟩
    refine⟨.non,gD (Z.own a) F3 H,ho,ha,⟨λb o g n hb hx=>un.keep b o g (sU.free n) hb hx,λb o g n hb hx=>un.slot b o g (sU.free n) hb hx,λb o g n hx=>?_,un.there,λb xs e=>sH _ _ (nl e λz=>z) e,λb o u e=>sH _ _ (nl e λz=>z) e,λb ps e=>⟨#[],by rw[sH _ _ (nl e λz=>z) e];simp⟩⟩,λb o e=>?_,ru,?_⟩
    ·rw[gL (nn n)<|un.free b o g (sU.free n) hx];exact n
    ·have z:=smM b o e
     by_cases hbl:b∈Z.own a
     ·have e':=by unfold gD at e;rw[zt hbl] at e;exact e
      exact(hk b o e').smp z
     ·cases g:F3 b with
      |some o'=>have:=fY (as:=Z.own a) (H:=H) b o' g;rw[e] at this;cases this;exact(hk b o g).smp z
      |none=>
       rw[gL hbl g] at e
       have n:F b=none:=by
        cases g2:F b with
        |none=>rfl
        |some o2=>rw[s2 _ _<|s1 _ _ g2] at g;cases g
       have st:=(e0.hok b o e).smp (F:=λ_=>none) z
       have:ObjOk P w (fun _=>none) s'.heap b o:=st.stay (fun b2 u hb2 gg=>by
        rcases hb2 with rfl|hb2
        ·exact keepO _ o hbl e n u gg
        ·cases hb2) (λb2 hb2=>nomatch hb2) λb2 xs hb2=>nomatch hb2
       exact this.smp z
    ·refine q F2 (gD (Z.own a) F3 H) a' pa s1 (s2.trans fY) smM soM nd3 sH λb o hbl e n=>?_
     have n3:=keepF b o hbl e n;refine⟨s2.free n3,λhb=>?_⟩;obtain⟨_,_,ow3,_⟩:=so3;obtain⟨_,ob,g,_⟩:=ow3 b hb;rw[n3] at g;cases g
   |_=>exact hrr
theorem gQ:∀ {sd:List Slot}{i:Nat}{z:Slot},(cS sd).Nodup->sd[i]? =some z->(iM z).Nodup
 |[],_,_,_,e=>by simp at e
 |y::zs,0,z,h,e=>by
  have:=by simpa using e
  subst this;exact(bK.mp<|h).1
 |y::zs,i+1,z,h,e=>gQ (bK.mp<|h).2.1 (by simpa using e)
structure uF(P:AD)(w:AL)(K:aB)(Z:Lent K)(mg:Str->Option BD)(base:BH)(x:Str)(k n:Nat)(C:Z.α->List D->(Z.α->Prop)->Prop):Prop where
 ex:∃ (f:BF) (fd:AN) (ps:List Str),mg x=some (.ref f)/\cK K (.ref f)=true/\Binds K fd ps []/\FnOk P w K mg base CX0 k f fd ps (spL Z n C)
noncomputable def lG{K:aB}(Z:Lent K)(n:Nat)(a:Z.α)(ds:List D):List Slot:=Z.sl a::(ds.map Slot.val++bP (n-(ds.length+1)) .un)
def aMx{Z:Lent K}{C:Z.α->List D->(Z.α->Prop)->Prop}(F:Fun K x qual st f fd)(S:iD N ps (aN st))(hm:mg x=some (.ref f)) (hb:∀ (kV doc pm:BD) (an:Option BF) (cdv ct:BD) (us:List BD),us.length=ps.length->bindArgs (cD x qual (eP st) (cF st) (aN st) .none kV doc pm an cdv ct) ⟨us,[]⟩=pure (ps.zip us))(body:∀ (cdv:BD) (A:BG) (outer:List Env) (s:BE) (H:Hp) (E:XK) (B:Hp) (hB:∀b o,H b=some o→nL o→B b=some o),Room k (A.deeper (Ad qual (aN st) s.heap.objs.size f cdv))→∀a ds post,ds.length+1=ps.length→C a ds post→PSd (reB (gO CX0 P w K mg base N qual (aN st) f cdv A outer s H E).nox B hB) (lG Z N.length a ds) (cF st) {nx:=λsd'=>∃a',post a'/\sd'[0]? =some (Z.sl a'),rt:=λ_=>False})
  (hw:∀ (a:Z.α) (v:V) (F H:Hp) (b:BF) (o:HO),Z.G a v F H->b∈Z.own a->H b=some o->¬ nL o):uF P w K Z mg base x (k+1) ps.length C:=by
 refine⟨f,fd,ps,hm,F.kp,F.binds hb,F.ok S (λvs H Q E h=>h.1) λcdv A outer s H vs Q E hr h=>?_⟩;obtain⟨hl,v,us,F0,a,ds,post,rfl,sF,hH,sm,so,nd,rl,c,hp,q⟩:=h;have hds:ds.length+1=ps.length:=by rw[<-rl.len];exact hl
 have hB:∀b o,H b=some o->nL o->F0 b=some o:=λb o e no=>by
  by_cases hbl:b∈Z.own a
  ·obtain⟨_,_,_,gg⟩:=so;exact absurd no<|hw a _ F0 H b o (gg F0 H (Same.refl _) λ_ _ _ e=>e) hbl e
  ·rw[<-hH b hbl];exact e
 refine⟨_,pss_w,aBe (hb:=hB) ?_⟩;have hlen:N.length-(us.length+1)=N.length-(ds.length+1):=by rw[rl.len]
 have S0:StF K F0 F0 H (L2.start N (v::us)) (lG Z N.length a ds):=by
  refine⟨Same.refl _,sF,sm,?_,?_⟩
  ·show SlotsOk K F0 _ (_::_) (some v::(us.map some++bP (N.length-(us.length+1)) none));rw[hlen];exact⟨_,_,rfl,so,jO (m:=0) rl⟩
  ·unfold lG;rw[mJ,jP,bG];exact nd
 refine(body cdv A outer s _ E F0 hB hr a ds post hds c (L2.start N (v::us)) F0 _ S0).imp ?_ ?_ (λ_ _ ⟨_,_,_,_,z⟩=>z) λ_ _ ⟨_,_,_,_,z⟩=>z
 ·rintro σ' H' ⟨sd',F',S',s',a',pa,hs⟩;obtain⟨o,h1,so'⟩:=S'.slots.get hs;obtain⟨v',rfl,ow',gg⟩:=so';have e1:=Z.hv<|gg F' H' (Same.refl _) λ_ _ _ e=>e;obtain⟨v0,ev,_,g0⟩:=so;cases ev;have e0:=Z.hv<|g0 F0 H (Same.refl _) λ_ _ _ e=>e;have evv:v'=v:=by rw[e1,e0,hp a' pa]
  subst evv;refine q H' ⟨F',a',pa,S'.base,S'.sub,S'.smp,⟨v',rfl,ow',gg⟩,?_⟩;have nd':=S'.nd;exact gQ nd' hs
 ·rintro v' H' ⟨r',ro,e⟩;exact e.elim
mutual
def deq:D->D->Bool
 |.non,.non=>true
 |.bl a,.bl b=>a==b
 |.bl a,.int b=>(if a then 1 else 0)==b
 |.int a,.bl b=>a==(if b then 1 else 0)
 |.int a,.int b=>a==b
 |.str a,.str b=>a==b
 |.tup a,.tup b=>mP a b
 |.lst a,.lst b=>mP a b
 |_,_=>false
def mP:List D->List D->Bool
 |[],[]=>true
 |x::xs,y::ys=>deq x y&&mP xs ys
 |_,_=>false
end
mutual
def pl:D->Bool
 |.dic=>false
 |.dki _ _=>false
 |.any _=>false
 |.scr _=>false
 |.tup ds=>plL ds
 |.lst ds=>plL ds
 |_=>true
def plL:List D->Bool
 |[]=>true
 |d::ds=>pl d&&plL ds
end
mutual
def dep:D->Nat
 |.tup ds=>lN ds+1
 |.lst ds=>lN ds+1
 |_=>0
def lN:List D->Nat
 |[]=>0
 |d::ds=>max (dep d)<|lN ds
end
theorem tV:∀ {ds:List D}{i:Nat}{d:D},plL ds=true->ds[i]? =some d->pl d=true
 |[],i,d,_,e=>by simp at e
 |d'::ds,i,d,h,e=>by
  simp only[plL,bU] at h;cases i with
  |zero=>simp at e;subst e;exact h.1
  |succ i=>exact tV h.2 (by simpa using e)
theorem qE:∀ {ds:List D}{i:Nat}{d:D},ds[i]? =some d->dep d<=lN ds
 |[],i,d,e=>by simp at e
 |d'::ds,i,d,e=>by
  cases i with
  |zero=>simp at e;subst e;exact Nat.le_max_left _ _
  |succ i=>exact cJ (qE<|by simpa using e)<|Nat.le_max_right _ _
theorem deqL_iff:∀ {xs ys:List D},mP xs ys=true↔xs.length=ys.length/\∀ (j:Nat) (x y:D),xs[j]? =some x->ys[j]? =some y->deq x y=true
 |[],[]=>by simp[mP]
 |[],y::ys=>by simp[mP]
 |x::xs,[]=>by simp[mP]
 |x::xs,y::ys=>by
  simp only[mP,bU,bJ,deqL_iff]
  constructor
  ·rintro⟨h1,h2,h3⟩;refine⟨by lia,λj a b ea eb=>?_⟩;cases j with
   |zero=>simp at ea eb;subst ea eb;exact h1
   |succ j=>exact h3 j a b (by simpa using ea) (by simpa using eb)
  ·rintro⟨h1,h2⟩;exact⟨h2 0 x y rfl rfl,by lia,λj a b ea eb=>h2 (j+1) a b (by simpa using ea)<|by simpa using eb⟩
mutual
theorem yU{K:aB}{H:Hp}:∀ {d1 d2:D}{v:V},pl d1=true->Rep K H d1 v->Rep K H d2 v->pl d2=true->deq d1 d2=true
 |.non,d2,v,_,r1,r2,_=>by subst r1;cases d2<;>simp_all[Rep,deq]
 |.bl b,d2,v,_,r1,r2,_=>by subst r1;cases d2<;>simp_all[Rep,deq]
 |.int b,d2,v,_,r1,r2,_=>by subst r1;cases d2<;>simp_all[Rep,deq]
 |.str b,d2,v,_,r1,r2,_=>by subst r1;cases d2<;>simp_all[Rep,deq]
 |.dic,_,_,h,_,_,_=>by simp[pl] at h
 |.dki _ _,_,_,h,_,_,_=>by simp[pl] at h
 |.any _,_,_,h,_,_,_=>by simp[pl] at h
 |.scr _,_,_,h,_,_,_=>by simp[pl] at h
 |.tup ds,d2,v,p1,r1,r2,p2=>by
  obtain⟨a,xs,rfl,ha,rl⟩:=r1;cases d2 with
  |tup es=>obtain⟨a',xs',e,ha',rl'⟩:=r2;cases e;rw[ha] at ha';cases ha';exact uZ (by simpa[pl] using p1) rl rl' (by simpa[pl] using p2)
  |lst es=>obtain⟨a',xs',e,ha',rl'⟩:=r2;cases e;rw[ha] at ha';cases ha'
  |dic=>simp[pl] at p2
  |dki=>simp[pl] at p2
  |any=>simp[pl] at p2
  |scr=>simp[pl] at p2
  |_=>simp[Rep] at r2
 |.lst ds,d2,v,p1,r1,r2,p2=>by
  obtain⟨a,xs,rfl,ha,rl⟩:=r1;cases d2 with
  |lst es=>obtain⟨a',xs',e,ha',rl'⟩:=r2;cases e;rw[ha] at ha';cases ha';exact uZ (by simpa[pl] using p1) rl rl' (by simpa[pl] using p2)
  |tup es=>obtain⟨a',xs',e,ha',rl'⟩:=r2;cases e;rw[ha] at ha';cases ha'
  |dic=>simp[pl] at p2
  |dki=>simp[pl] at p2
  |any=>simp[pl] at p2
  |scr=>simp[pl] at p2
  |_=>simp[Rep] at r2
theorem uZ{K:aB}{H:Hp}:∀ {ds es:List D}{xs:List V},plL ds=true->RepL K H ds xs->RepL K H es xs->plL es=true->mP ds es=true
 |[],es,xs,_,r1,r2,_=>by
  simp only[RepL] at r1;subst r1;cases es with
  |nil=>rfl
  |cons e es=>obtain⟨y,ys,z,_⟩:=r2.uncons;cases z
 |d::ds,es,xs,p1,r1,r2,p2=>by
  obtain⟨y,ys,rfl,a,rl⟩:=r1.uncons;cases es with
  |nil=>simp only[RepL] at r2;cases r2
  |cons e es=>obtain⟨y',ys',z,a',rl'⟩:=r2.uncons;cases z;simp only[plL,bU] at p1 p2;simp only[mP,bU];exact⟨yU p1.1 a a' p2.1,uZ p1.2 rl rl' p2.2⟩
end
noncomputable def sR:D->Bool
 |.non=>true
 |.bl _=>true
 |.int _=>true
 |.str _=>true
 |_=>false
def wR(h:sR d=true)(r:Rep K H d v):pG v=true/\flt d=some v:=by cases d<;>simp_all[sR,Rep,pG,flt]
variable {P:AD}{w:AL}
def hW(hok:HOk P w H s.heap)(r:Rep K H (.tup ds) v)(ru:RelV v u):∃a xs its,u=.ref a/\v=.ref a/\RepL K H ds xs/\Vals xs its/\s.heap.IsTuple a its.toArray:=by obtain⟨a,xs,rfl,ha,rl⟩:=r;cases ru;obtain⟨_,its,rv,p⟩:=(hok a _ ha);exact⟨a,xs,its,rfl,rfl,rl,rv,p.tup⟩
def kN(hok:HOk P w H s.heap)(r:Rep K H (.lst ds) v)(ru:RelV v u):∃a xs its,u=.ref a/\v=.ref a/\RepL K H ds xs/\Vals xs its/\s.heap.IsList a its.toArray:=by obtain⟨a,xs,rfl,ha,rl⟩:=r;cases ru;obtain⟨_,its,n,rv,p⟩:=(hok a _ ha);exact⟨a,xs,its,rfl,rfl,rl,rv,_,p,rfl,n,rfl⟩
noncomputable def dAt(ds es:List D)(j:Nat):Bool:=match ds[j]?,es[j]? with
 |some x,some y=>deq x y
 |_,_=>false
theorem tT(ds es:List D):((bT<|min ds.length es.length).all (dAt ds es)&&ds.length==es.length)=mP ds es:=by
 rw[gA,deqL_iff,bU,fG,beq_iff_eq]
 constructor
 ·rintro⟨h1,h2⟩;refine⟨h2,λj x y ex ey=>?_⟩;have hj:=(aF.mp ex).1;have:=h1 j (cN.mpr<|by lia);unfold dAt at this;rw[ex,ey] at this;exact this
 ·rintro⟨h1,h2⟩;refine⟨λj hj=>?_,h1⟩;have hj':=cN.mp hj;have e1:ds[j]? =some (ds[j]'(by lia)):=by simp
  have e2:es[j]? =some (es[j]'(by lia)):=by simp
  unfold dAt;rw[e1,e2];exact h2 j _ _ e1 e2
def uR{es:List D}(h:ds.length=es.length):(bT ds.length).all (dAt ds es)=mP ds es:=by have:=tT ds es;rw[h] at this ⊢;simpa using this
def zB{es:List D}(h:ds.length≠es.length):mP ds es=false:=by
 cases e:mP ds es with
 |false=>rfl
 |true=>exact absurd (deqL_iff.mp e).1 h
mutual
theorem vG(hok:HOk P w H s.heap):∀ (d1:D) {d2:D}{v1 v2:V}{u1 u2:BD}{A:BG},pl d1=true->pl d2=true->Rep K H d1 v1->Rep K H d2 v2->RelV v1 u1->RelV v2 u2->A.units+dep d1<AR->SeqAt.EqAt A s u1 u2 (deq d1 d2)
 |.tup ds,d2,v1,v2,u1,u2,A,p1,p2,r1,r2,ru1,ru2,hu=>by
  have hu':A.units<AR:=by lia
  obtain⟨a,xs,its,rfl,rfl,rl,rv,ht⟩:=hW hok r1 ru1;cases d2 with
  |non=>simp only[Rep] at r2;subst r2;cases ru2;exact SeqAt.EqAt.tuple_none ht hu'
  |bl b=>simp only[Rep] at r2;subst r2;cases ru2;exact SeqAt.EqAt.tuple_bool b ht hu'
  |int b=>simp only[Rep] at r2;subst r2;obtain⟨t,rfl⟩:=ru2;exact SeqAt.EqAt.tuple_int b t ht hu'
  |str b=>simp only[Rep] at r2;subst r2;obtain⟨t,rfl⟩:=ru2;exact SeqAt.EqAt.tuple_str b t ht hu'
  |dic=>simp[pl] at p2
  |dki=>simp[pl] at p2
  |any=>simp[pl] at p2
  |scr=>simp[pl] at p2
  |lst es=>obtain⟨b,ys,jts,rfl,rfl,rl2,rv2,hl2⟩:=kN hok r2 ru2;exact SeqAt.EqAt.tuple_list ht hl2 hu'
  |tup es=>
   obtain⟨b,ys,jts,rfl,e2,rl2,rv2,ht2⟩:=hW hok r2 ru2
   by_cases hab:a=b
   ·subst hab;have:=yU p1 r1 (e2▸r2) p2;rw[this];exact SeqAt.EqAt.same _
   ·simp only[deq];rw[<-tT];have l1:its.toArray.size=ds.length:=by rw[bD,<-rv.length,rl.len]
    have l2:jts.toArray.size=es.length:=by rw[bD,<-rv2.length,rl2.len]
    rw[<-l1,<-l2];simp only[pl] at p1 p2;simp only[dep] at hu;refine .of_refs hab<|.tuples ht ht2 hu' λj h1 h2=>?_;exact rY hok ds p1 p2 rl rl2 rv rv2 (by show A.units+1+_<AR;lia) (by simp)<|by simp
 |.lst ds,d2,v1,v2,u1,u2,A,p1,p2,r1,r2,ru1,ru2,hu=>by
  have hu':A.units<AR:=by lia
  obtain⟨a,xs,its,rfl,rfl,rl,rv,ht⟩:=kN hok r1 ru1;cases d2 with
  |non=>simp only[Rep] at r2;subst r2;cases ru2;exact SeqAt.EqAt.list_none ht hu'
  |bl b=>simp only[Rep] at r2;subst r2;cases ru2;exact SeqAt.EqAt.list_bool b ht hu'
  |int b=>simp only[Rep] at r2;subst r2;obtain⟨t,rfl⟩:=ru2;exact SeqAt.EqAt.list_int b t ht hu'
  |str b=>simp only[Rep] at r2;subst r2;obtain⟨t,rfl⟩:=ru2;exact SeqAt.EqAt.list_str b t ht hu'
  |dic=>simp[pl] at p2
  |dki=>simp[pl] at p2
  |any=>simp[pl] at p2
  |scr=>simp[pl] at p2
  |tup es=>obtain⟨b,ys,jts,rfl,rfl,rl2,rv2,hl2⟩:=hW hok r2 ru2;exact SeqAt.EqAt.list_tuple ht hl2 hu'
  |lst es=>
   obtain⟨b,ys,jts,rfl,e2,rl2,rv2,ht2⟩:=kN hok r2 ru2
   by_cases hab:a=b
   ·subst hab;have:=yU p1 r1 (e2▸r2) p2;rw[this];exact SeqAt.EqAt.same _
   ·simp only[deq];have l1:its.toArray.size=ds.length:=by rw[bD,<-rv.length,rl.len]
    have l2:jts.toArray.size=es.length:=by rw[bD,<-rv2.length,rl2.len]
    simp only[pl] at p1 p2;simp only[dep] at hu
    by_cases hl:ds.length=es.length
    ·rw[<-uR hl,<-l1];refine .of_refs hab<|.lists ht ht2 (by rw[l1,l2,hl]) hu' λj h1 h2=>?_;exact rY hok ds p1 p2 rl rl2 rv rv2 (by show A.units+1+_<AR;lia) (by simp)<|by simp
    ·rw[zB hl];exact .of_refs hab<|.lists_lengths ht ht2 (by rw[l1,l2];simpa using hl) hu'
 |.dic,_,_,_,_,_,_,p1,_,_,_,_,_,_=>by simp[pl] at p1
 |.dki _ _,_,_,_,_,_,_,p1,_,_,_,_,_,_=>by simp[pl] at p1
 |.any _,_,_,_,_,_,_,p1,_,_,_,_,_,_=>by simp[pl] at p1
 |.scr _,_,_,_,_,_,_,p1,_,_,_,_,_,_=>by simp[pl] at p1
 |.non,d2,v1,v2,u1,u2,A,p1,p2,r1,r2,ru1,ru2,hu=>by
  have hu':A.units<AR:=by omega
  simp only[Rep] at r1;subst r1;cases hf:sR d2 with
  |true=>obtain⟨h1,h2⟩:=wR hf r2;have:=yR (A:=A) (s:=s) ru1 ru2 rfl h1;cases d2<;>simp_all[sR,flt,Rep,deq,eqV]
  |false=>
   cases ru1;cases d2 with
   |tup es=>obtain⟨b,ys,jts,rfl,e2,rl2,rv2,ht2⟩:=hW hok r2 ru2;exact SeqAt.EqAt.none_tuple ht2 hu'
   |lst es=>obtain⟨b,ys,jts,rfl,e2,rl2,rv2,ht2⟩:=kN hok r2 ru2;exact SeqAt.EqAt.none_list ht2 hu'
   |dic=>simp[pl] at p2
   |dki=>simp[pl] at p2
   |any=>simp[pl] at p2
   |scr=>simp[pl] at p2
   |_=>simp[sR] at hf
 |.bl q,d2,v1,v2,u1,u2,A,p1,p2,r1,r2,ru1,ru2,hu=>by
  have hu':A.units<AR:=by omega
  simp only[Rep] at r1;subst r1;cases hf:sR d2 with
  |true=>obtain⟨h1,h2⟩:=wR hf r2;have:=yR (A:=A) (s:=s) ru1 ru2 rfl h1;cases d2<;>simp_all[sR,flt,Rep,deq,eqV]
  |false=>
   cases ru1;cases d2 with
   |tup es=>obtain⟨b,ys,jts,rfl,e2,rl2,rv2,ht2⟩:=hW hok r2 ru2;exact SeqAt.EqAt.bool_tuple q ht2 hu'
   |lst es=>obtain⟨b,ys,jts,rfl,e2,rl2,rv2,ht2⟩:=kN hok r2 ru2;exact SeqAt.EqAt.bool_list q ht2 hu'
   |dic=>simp[pl] at p2
   |dki=>simp[pl] at p2
   |any=>simp[pl] at p2
   |scr=>simp[pl] at p2
   |_=>simp[sR] at hf
 |.int q,d2,v1,v2,u1,u2,A,p1,p2,r1,r2,ru1,ru2,hu=>by
  have hu':A.units<AR:=by omega
  simp only[Rep] at r1;subst r1;cases hf:sR d2 with
  |true=>obtain⟨h1,h2⟩:=wR hf r2;have:=yR (A:=A) (s:=s) ru1 ru2 rfl h1;cases d2<;>simp_all[sR,flt,Rep,deq,eqV]
  |false=>
   obtain⟨t,rfl⟩:=ru1;cases d2 with
   |tup es=>obtain⟨b,ys,jts,rfl,e2,rl2,rv2,ht2⟩:=hW hok r2 ru2;exact SeqAt.EqAt.int_tuple q t ht2 hu'
   |lst es=>obtain⟨b,ys,jts,rfl,e2,rl2,rv2,ht2⟩:=kN hok r2 ru2;exact SeqAt.EqAt.int_list q t ht2 hu'
   |dic=>simp[pl] at p2
   |dki=>simp[pl] at p2
   |any=>simp[pl] at p2
   |scr=>simp[pl] at p2
   |_=>simp[sR] at hf
 |.str q,d2,v1,v2,u1,u2,A,p1,p2,r1,r2,ru1,ru2,hu=>by
  have hu':A.units<AR:=by omega
  simp only[Rep] at r1;subst r1;cases hf:sR d2 with
  |true=>obtain⟨h1,h2⟩:=wR hf r2;have:=yR (A:=A) (s:=s) ru1 ru2 rfl h1;cases d2<;>simp_all[sR,flt,Rep,deq,eqV]
  |false=>
   obtain⟨t,rfl⟩:=ru1;cases d2 with
   |tup es=>obtain⟨b,ys,jts,rfl,e2,rl2,rv2,ht2⟩:=hW hok r2 ru2;exact SeqAt.EqAt.str_tuple q t ht2 hu'
   |lst es=>obtain⟨b,ys,jts,rfl,e2,rl2,rv2,ht2⟩:=kN hok r2 ru2;exact SeqAt.EqAt.str_list q t ht2 hu'
   |dic=>simp[pl] at p2
   |dki=>simp[pl] at p2
   |any=>simp[pl] at p2
   |scr=>simp[pl] at p2
   |_=>simp[sR] at hf
theorem rY(hok:HOk P w H s.heap):∀ (ds:List D) {es:List D}{xs ys:List V}{its jts:List BD}{j:Nat}{x y:BD}{A:BG},plL ds=true->plL es=true->RepL K H ds xs->RepL K H es ys->Vals xs its->Vals ys jts->A.units+lN ds<AR->its[j]? =some x->jts[j]? =some y->SeqAt.EqAt A s x y (dAt ds es j)
 |[],es,xs,ys,its,jts,j,x,y,A,_,_,r1,_,v1,_,_,e1,_=>by simp only[RepL] at r1;subst r1;cases v1;simp at e1
 |d::ds,es,xs,ys,its,jts,j,x,y,A,p1,p2,r1,r2,v1,v2,hu,e1,e2=>by
  obtain⟨a,as,rfl,ra,rl⟩:=r1.uncons;cases v1 with
  |cons va vas=>
   cases es with
   |nil=>simp only[RepL] at r2;subst r2;cases v2;simp at e2
   |cons e es=>
    obtain⟨b,bs,rfl,rb,rl2⟩:=r2.uncons;cases v2 with
    |cons vb vbs=>
     simp only[plL,bU] at p1 p2;simp only[lN] at hu;cases j with
     |zero=>simp at e1 e2;subst e1 e2;exact vG hok d p1.1 p2.1 ra rb va vb<|by lia
     |succ j=>exact rY hok ds p1.2 p2.2 rl rl2 vas vbs (by lia) (by simpa using e1) (by simpa using e2)
end
set_option tactic.hygienic true in
theorem rc_D(I:Inv X za σ H s)(hs:(isT d1=true/\isT d2=true)\/(isL d1=true/\isL d2=true))(p1:pl d1=true)(p2:pl d2=true)(r1:Rep K H d1 v)(r2:Rep K H d2 u)(rx:RelV v x)(ry:RelV u y)(hu:X.A.units+dep d1+1<AR) (q:Q (.bool<|deq d1 d2) s):AK (AG X.prog X.w) X.A (AT .Eq x y) Q X.xe s:=by
 have hu':X.A.units<AR:=by lia
 rcases hs with⟨t1,t2⟩|⟨t1,t2⟩
 ·cases d1<;>first|(simp[isT] at t1;done)|skip
  cases d2<;>first|(simp[isT] at t2;done)|skip
  rename_i ds es;obtain⟨a,xs,its,rfl,rfl,rl,rv,ht⟩:=hW I.hok r1 rx;obtain⟨b,ys,jts,rfl,rfl,rl2,rv2,ht2⟩:=hW I.hok r2 ry;have l1:its.toArray.size=ds.length:=by rw[bD,<-rv.length,rl.len]
  have l2:jts.toArray.size=es.length:=by rw[bD,<-rv2.length,rl2.len]
  simp only[dep] at hu;simp only[deq] at q;rw[<-tT,<-l1,<-l2] at q;exact SeqAt.eq_tupleAt ht ht2 hu' (λj h1 h2=>rY I.hok ds p1 p2 rl rl2 rv rv2 (by show X.A.units+1+_<AR;lia) (by simp)<|by simp) q
 ·cases d1<;>first|(simp[isL] at t1;done)|(simp[pl] at p1;done)|skip
  cases d2<;>first|(simp[isL] at t2;done)|(simp[pl] at p2;done)|skip
  rename_i ds es;obtain⟨a,xs,its,rfl,rfl,rl,rv,ht⟩:=kN I.hok r1 rx;obtain⟨b,ys,jts,rfl,rfl,rl2,rv2,ht2⟩:=kN I.hok r2 ry;have l1:its.toArray.size=ds.length:=by rw[bD,<-rv.length,rl.len]
  have l2:jts.toArray.size=es.length:=by rw[bD,<-rv2.length,rl2.len]
  simp only[dep] at hu;simp only[deq] at q
  by_cases hl:ds.length=es.length
  ·rw[<-uR hl,<-l1] at q;exact SeqAt.eq_listAt ht ht2 (by rw[l1,l2,hl]) hu' (λj h1 h2=>rY I.hok ds p1 p2 rl rl2 rv rv2 (by show X.A.units+1+_<AR;lia) (by simp)<|by simp) q
  ·rw[zB hl] at q;exact SeqAt.eq_list_lengthsAt ht ht2 (by rw[l1,l2];simpa using hl) hu' q
set_option tactic.hygienic true in
theorem aRB(I:Inv X za σ H s)(hs:(isT d1=true/\isT d2=true)\/(isL d1=true/\isL d2=true))(p1:pl d1=true)(p2:pl d2=true)(r1:Rep K H d1 v)(r2:Rep K H d2 u)(rx:RelV v x)(ry:RelV u y)(hu:X.A.units+dep d1+1<AR) (q:Q (.bool<|!deq d1 d2) s):AK (AG X.prog X.w) X.A (AT .NotEq x y) Q X.xe s:=by
 have hu':X.A.units<AR:=by lia
 rcases hs with⟨t1,t2⟩|⟨t1,t2⟩
 ·cases d1<;>first|(simp[isT] at t1;done)|skip
  cases d2<;>first|(simp[isT] at t2;done)|skip
  rename_i ds es;obtain⟨a,xs,its,rfl,rfl,rl,rv,ht⟩:=hW I.hok r1 rx;obtain⟨b,ys,jts,rfl,rfl,rl2,rv2,ht2⟩:=hW I.hok r2 ry;have l1:its.toArray.size=ds.length:=by rw[bD,<-rv.length,rl.len]
  have l2:jts.toArray.size=es.length:=by rw[bD,<-rv2.length,rl2.len]
  simp only[dep] at hu;simp only[deq] at q;rw[<-tT,<-l1,<-l2] at q;exact SeqAt.RcNeAt.tuples ht ht2 hu' (λj h1 h2=>rY I.hok ds p1 p2 rl rl2 rv rv2 (by show X.A.units+1+_<AR;lia) (by simp)<|by simp) _ _ _ _ q
 ·cases d1<;>first|(simp[isL] at t1;done)|(simp[pl] at p1;done)|skip
  cases d2<;>first|(simp[isL] at t2;done)|(simp[pl] at p2;done)|skip
  rename_i ds es;obtain⟨a,xs,its,rfl,rfl,rl,rv,ht⟩:=kN I.hok r1 rx;obtain⟨b,ys,jts,rfl,rfl,rl2,rv2,ht2⟩:=kN I.hok r2 ry;have l1:its.toArray.size=ds.length:=by rw[bD,<-rv.length,rl.len]
  have l2:jts.toArray.size=es.length:=by rw[bD,<-rv2.length,rl2.len]
  simp only[dep] at hu;simp only[deq] at q
  by_cases hl:ds.length=es.length
  ·rw[<-uR hl,<-l1] at q;exact SeqAt.RcNeAt.lists ht ht2 (by rw[l1,l2,hl]) hu' (λj h1 h2=>rY I.hok ds p1 p2 rl rl2 rv rv2 (by show X.A.units+1+_<AR;lia) (by simp)<|by simp) _ _ _ _ q
  ·rw[zB hl] at q;exact SeqAt.RcNeAt.lists_lengths ht ht2 (by rw[l1,l2];simpa using hl) hu' _ _ _ _ q
def ResOk.rep(S:StF K H₀ F H σ sd)(hk:r.keeps)(q:ResOk K F H sd r v):Rep K H r.toD v:=by
 cases r with
 |val d=>exact Rep.mono S.sub q
 |own ds=>exact hk.elim
 |pr d ls=>exact hk.elim
 |ox G=>exact hk.elim
 |bor ds=>obtain⟨l,xs,e,hl,rl,_⟩:=q;exact⟨l,xs,e,hl,rl.mono S.sub⟩
def aKa(K:aB)(d1 d2:D)(hs:(isT d1=true/\isT d2=true)\/(isL d1=true/\isL d2=true))(p1:pl d1=true)(p2:pl d2=true)(hu:X.A.units+dep d1+1<AR):OpR X (AT .Eq) (λx y H Q=>Rep K H d1 x/\Rep K H d2 y/\Q (.bl<|deq d1 d2) H):=by intro za s σ H x y v u Q I rx ry h;obtain⟨h1,h2,q⟩:=h;exact rc_D I hs p1 p2 h1 h2 rx ry hu ⟨.bl<|deq d1 d2,H,I,rfl,q⟩
def aPe(K:aB)(d1 d2:D)(hs:(isT d1=true/\isT d2=true)\/(isL d1=true/\isL d2=true))(p1:pl d1=true)(p2:pl d2=true)(hu:X.A.units+dep d1+1<AR):OpR X (AT .NotEq) (λx y H Q=>Rep K H d1 x/\Rep K H d2 y/\Q (.bl<|!deq d1 d2) H):=by intro za s σ H x y v u Q I rx ry h;obtain⟨h1,h2,q⟩:=h;exact aRB I hs p1 p2 h1 h2 rx ry hu ⟨.bl<|!deq d1 d2,H,I,rfl,q⟩
def aKb(ha:PEd X sd a ra)(hb:PEd X sd b rb)(ka:ra.keeps)(kb:rb.keeps)(hs:(isT ra.toD=true/\isT rb.toD=true)\/(isL ra.toD=true/\isL rb.toD=true))(p1:pl ra.toD=true)(p2:pl rb.toD=true)(hu:X.A.units+dep ra.toD+1<AR):PEd X sd (.Compare a [.Eq] [b] pos) (.val (.bl<|deq ra.toD rb.toD)):=
 nE (aKa X.K _ _ hs p1 p2 hu) ha hb ka (fN _) λσ F H v u Q S q1 q2 k=>⟨q1.rep S ka,q2.rep S kb,k F H S<|Same.refl _⟩
def tQ(ha:PEd X sd a ra)(hb:PEd X sd b rb)(ka:ra.keeps)(kb:rb.keeps)(hs:(isT ra.toD=true/\isT rb.toD=true)\/(isL ra.toD=true/\isL rb.toD=true))(p1:pl ra.toD=true)(p2:pl rb.toD=true)(hu:X.A.units+dep ra.toD+1<AR):PTd X sd (.Compare a [.NotEq] [b] pos) (!deq ra.toD rb.toD):=
 iY (aPe X.K _ _ hs p1 p2 hu) ha hb ka (fN _) λσ F H v u Q S q1 q2 k=>⟨q1.rep S ka,q2.rep S kb,k F H S<|Same.refl _⟩
noncomputable def aPt(K:aB):R2:=λx y H Q=>∃a b ys,x=.ref a/\y=.ref b/\SqT K H a []/\SqT K H b ys/\Q (.ref b) H
def op_catT0:OpR X (Al .Add) (aPt X.K):=by
 intro za s σ H x y v u Q I rx ry h;obtain⟨a,b,ys,rfl,rfl,ha,hb,q⟩:=h;cases rx;cases ry;obtain⟨its,r1,p1,_⟩:=I.tuple ha;obtain⟨its2,r2,p2,_⟩:=I.tuple hb;cases r1;obtain⟨⟨cls,dd,data,sl⟩,ho,hc,n,hd⟩:=id p1;obtain⟨⟨cls2,dd2,data2,sl2⟩,ho2,hc2,n2,hd2⟩:=id p2;subst hc hd hc2 hd2
 exact concat_meets ⟨_,ho,rfl⟩ ⟨_,ho2,rfl⟩ noFill_tuple_add seq_tuple_add pD oO (nR _ _)
  (tuple_addW0 a b ([]).toArray its2.toArray n n2 dd dd2 sl sl2<|by simp) ⟨ho,ho2,⟨.ref b,H,I,rfl,q⟩⟩
def kS(ha:PEd X sd a (.val<|.tup d1))(hb:PEd X sd b (.val<|.tup d2))(hl:d1.length+d2.length<=10000):PEd X sd (.BinOp a .Add b pos) (.val (.tup<|d1++d2)):=
 yE (op_catT0.or aMb) ha hb trivial λσ F H v u Q S q1 q2 k=>by
  obtain⟨p,xs,e1,hp,rl⟩:=q1;obtain⟨q,ys,e2,hq,rl2⟩:=q2;cases d1 with
  |nil=>subst rl;refine .inl ⟨p,q,ys,e1,e2,.of<|S.sub _ _ hp,.of<|S.sub _ _ hq,k _ F H S (Same.refl _) ?_⟩;exact⟨q,ys,rfl,hq,rl2⟩
  |cons z zs=>
   refine .inr ⟨p,q,xs,ys,e1,e2,.of<|S.sub _ _ hp,.of<|S.sub _ _ hq,?_,by rw[rl.len,rl2.len];exact cZ<|eY hl,λhy=>?_,λhy p2 hp2=>?_⟩
   ·intro hx;subst hx;obtain⟨_,_,w,_⟩:=rl.uncons;cases w
   ·subst hy
    have:d2=[]:=by
     cases d2 with
     |nil=>rfl
     |cons w ws=>obtain⟨_,_,w,_⟩:=rl2.uncons;cases w
    subst this;refine k _ F H S (Same.refl _) ?_;simp ;exact⟨p,xs,rfl,hp,rl⟩
   ·obtain⟨S2,s2⟩:=S.lay (o:=.tup<|xs++ys) hp2 trivial;refine k _ _ _ S2 s2 ?_;exact⟨p2,_,rfl,bH,(rl.app rl2).mono s2⟩
def kK(hg:Gl X "tuple")(hm:X.mg "tuple"=none)(ha:PEd X sd e (.bor ds))(hst:AB [e] X.env=(false,eval e X.env)::AB [] X.env:=by rfl):PEd X sd (.Call (.Name "tuple" p) [e] [] pos) (.val<|.tup ds):=
 uW (he:=hst) zX hg hm PyProof.Rows.boot_tuple (aA ha aE trivial hst) λσ F H vs Q S q k=>by
  cases q with
  |cons q1 q2=>cases q2;obtain⟨p,xs,rfl,hp,rl,_⟩:=q1;refine⟨p,xs,rfl,.inl ⟨.of hp,λl hl=>?_⟩⟩;obtain⟨S2,s2⟩:=S.lay (o:=.tup xs) hl trivial;refine k _ _ _ S2 s2 ?_;exact⟨l,xs,rfl,bH,rl.mono s2⟩
def Ite(K:aB)(a:BF):It:=
 ⟨λi H=>∃xs x,SqL K H a xs/\xs[i]? =some x,λi H x H'=>∃p v,x=.ref p/\H p=none/\H'=upd H p (.tup [.int i,v])/\∀xs,SqL K H a xs->xs[i]? =some v,λi H=>∃xs,SqL K H a xs/\xs.length<=i⟩
def aMk{e it:BF}(I:Inv X za σ H s)(k:∀b o,b≠e->b≠it->s.heap.get? b=some o->h'.get? b=some o)(f1:yB X za H e)(f2:yB X za H it):Inv X za σ H {s with heap:=h',toks:=t'}:=by
 have nit:∀b u,H b=some u->b≠e/\b≠it:=λb u q=>⟨λz=>(by rw[z,f1.1] at q;cases q),λz=>(by rw[z,f2.1] at q;cases q)⟩
 have ne:∀b,b∉[e,it]->b≠e/\b≠it:=λb hc=>⟨λz=>hc (by simp[z]),λz=>hc<|by simp[z]⟩
 refine I.step (λb hb=>?_) (λb o _ _ hc q _=>k b o (ne b hc).1 (ne b hc).2 q) (λb o _ _ hc q _=>⟨o.slots,k b o (ne b hc).1 (ne b hc).2 q⟩) (λ_ _ _ _ n=>n)
  (λb o hc q=>⟨o,k b o (ne b hc).1 (ne b hc).2 q⟩) (λ_ _ q=>q) (λ_ _ _ q=>q) (λb ps q=>⟨#[],by rw[q];simp⟩) (λm hm=>?_) (λb u q=>?_) I.bare
 ·rcases bL.mp hb with z|hb
  ·subst z;exact⟨f1.2.2.2.1,f1.2.1,f1.2.2.2.2.1,f1.2.2.2.2.2⟩
  ·have z:=by simpa using hb
   subst z;exact⟨f2.2.2.2.1,f2.2.1,f2.2.2.2.2.1,f2.2.2.2.2.2⟩
 ·obtain⟨o,es,ep,ho,r⟩:=hm;exact⟨o,es,ep,k _ o (Ne.symm f1.2.1) (Ne.symm f2.2.1) ho,r⟩
 ·refine(I.hok b u q).stay (λc v hc g=>?_) (λ_ g=>g) λ_ _ g=>g
  rcases hc with z|z
  ·rw[z] at g ⊢;exact k b v (nit b u q).1 (nit b u q).2 g
  ·exact k c v (nit c _ z).1 (nit c _ z).2 g
theorem aGC(a e it:BF)(hei:e≠it):aKS P w K (.Tuple elts kk pos) (Ite K a) [e,it] e (λi h=>(∃old,IsEnum h e it i old)/\h.IsListIter it a i) where
 mem:=by simp
 obj:=λi h st b hb=>by
  obtain⟨⟨old,he⟩,hit⟩:=st
  rcases bL.mp hb with z|hb
  ·subst z;exact⟨_,he,λv z=>by cases z⟩
  ·have z:=by simpa using hb
   subst z;obtain⟨o,q,c,d⟩:=hit;exact⟨o,q,λv z=>by rw[d] at z;cases z⟩
 keep:=λi h h' st k=>by obtain⟨⟨old,he⟩,hit⟩:=st;exact⟨⟨old,k e (by simp) _ he⟩,hit.at λo q=>k it (by simp) o q⟩
 item:=by
  intro X hP hw hK hc i za s σ H E I hf st hg;subst hP hw hK;obtain⟨⟨old,he⟩,hit⟩:=st;obtain⟨xs,x,hq,hx⟩:=hg;obtain⟨its,rv,p,hz⟩:=I.list hq;obtain⟨u,hu,ru⟩:=rv.get hx;have f1:=hf e (by simp);have f2:=hf it (by simp);refine wpAny_pyNext_enum_item he hit p.isList (by simpa using hu) hei λh1 heo hit1 ht1 hz1 hk1=>?_
  refine⟨_,rfl,wpAny_letOwnedTupleGo_enum heo λh2 he2 hs2=>?_⟩;have esz:=aU he;have isz:it<s.heap.objs.size:=by obtain⟨_,q,_⟩:=hit;exact aU q
  have I1:Inv X za σ H {s with heap:=h2,toks:=s.toks+1}:=aMk I (λb o h1' h2' q=>(hs2.2 b h1').trans<|hk1 b o h1' h2' q) f1 f2;have hn:=I.hok.fresh<|aQ _;have g2:=(hs2.2 _<|kP esz).trans ht1
  have I2:Inv X za σ (upd H s.heap.objs.size<|.tup [.int i,x]) {s with heap:=h2,toks:=s.toks+1}:=by
   refine I1.track hn I.sz (kP I.lt) (λy c q=>?_) (λy hy=>?_) ⟨by show 2<=AJ;decide,[.int i s.toks,u],.cons ⟨_,rfl⟩<|.cons ru .nil,⟨_,g2,rfl,⟨_,rfl⟩,rfl⟩⟩
   ·obtain⟨v,o,ho,_⟩:=I.cell y c q;exact bR<|aU ho
   ·exact bR<|aU (I.pin y hy).1
  refine⟨.ref s.heap.objs.size,_,I2,rfl,⟨_,x,rfl,hn,rfl,λys hy=>by rw[I.list_inj hy hq];exact hx⟩,⟨⟨u,?_⟩,?_⟩,λb hb=>?_⟩
  ·exact he2
  ·exact hit1.at λo q=>(hs2.2 it<|Ne.symm hei).trans q
  ·rcases bL.mp hb with z|hb
   ·subst z;rw[aW<|bR esz];exact f1.1
   ·have z:=by simpa using hb
    subst z;rw[aW<|bR isz];exact f2.1
 done:=by intro X hP hw hK hc i za s σ H E I hf st hg;subst hP hw hK;obtain⟨⟨old,he⟩,hit⟩:=st;obtain⟨xs,hq,hx⟩:=hg;obtain⟨its,rv,p,hz⟩:=I.list hq;obtain⟨f0,f1,f2,f3,f4,f5⟩:=hf it (by simp);have hl:=rv.length;exact wpAny_pyNext_enum_end (I.ok.hd hc) he hit p.isList (by simp;lia) λh' eb=>⟨rfl,I.turned (λb o hb q=>eb b o hb q) f0 f1 f3 f4 f5⟩
 self:=λ_ _ _ _ _ st h=>by obtain⟨⟨old,he⟩,_⟩:=st;exact wpAny_pyIter_enum he h
def aRH(K:aB)(ta:TA):TI:=λσ H R=>ta σ H λvs H1=>∃l,vs=[.ref l]/\(∃xs,SqL K H1 l xs)/\R (Ite K l) H1
theorem aNa{elts:List Expr}{kk:Nat}{tp:Pos}{ta:TA}{p:Pos}(hg:Gl X "enumerate")(hm:X.mg "enumerate"=none)(ha:PA X [a] ta)(hs:AB [a] X.env=[(false,eval a X.env)]:=by rfl):PI X (.Tuple elts kk tp) (.Call (.Name "enumerate" p) [a] [] pos) (aRH X.K ta):=by
 intro za s σ H R I h;refine Call_ (mH I hg hm boot_enumerate<|PyProof.Rows.callWith_type1 (thn (ha pos za s σ H _ I h) λus s1 ⟨vs,H1,I1,r1,q1⟩=>?_) hs rfl);obtain⟨l,rfl,⟨xs,hq⟩,q⟩:=q1;cases r1 with
 |cons r rr=>
  cases rr;cases r;obtain⟨its,rv,p,hz⟩:=I1.list hq;refine call_enumerate_list p.isList λh' he hit hsz hk=>?_
  refine wpAny_pyIter_enum he ?_;have I2:Inv X za σ H1 {s1 with heap:=h'}:=I1.kept hk;refine⟨s1.heap.objs.size+1,[s1.heap.objs.size+1,s1.heap.objs.size],_,Ite X.K l,H1,rfl,I2,aGC l _ _<|Nat.succ_ne_self _,⟨⟨_,he⟩,hit⟩,λb hb=>?_,q⟩
  rcases bL.mp hb with z|hb
  ·subst z;exact I1.fpOk (iL _) (I1.hok.fresh<|iL _)
  ·have z:=by simpa using hb
   subst z;exact I1.fpOk (aQ _) (I1.hok.fresh<|aQ _)
noncomputable def mV(ds:List D):List D:=(bT ds.length).map λ(i:Nat)=>D.tup [.int (i:Int),ds.getD i .non]
def jR(ds:List D):(mV ds).length=ds.length:=by simp[mV]
def kO{i:Nat}(h:(mV ds)[i]? =some d):∃x,ds[i]? =some x/\d=.tup [.int (i:Int),x]:=by
 unfold mV at h;rw[bE] at h
 by_cases hi:i<ds.length
 ·rw[aHr hi] at h;refine⟨ds[i],by simp[hi],?_⟩;rw[<-bZ.inj h];simp[bV,hi]
 ·rw[iR<|by simpa using hi] at h;cases h
def LP(K:aB)(l:BF)(ds:List D):Hp->Hp->Prop:=λF H=>∃xs,H l=some (.lst xs)/\RepL K F ds xs
def aIz:ItD X.K F₁ (LP X.K l ds) (Ite X.K l) (mV ds):=λF H _ sH sm hP i=>by
 obtain⟨xs,hl,rl⟩:=hP;refine⟨λhi=>?_,λhi=>?_,λx H' d hd y=>?_⟩
 ·rw[jR] at hi;exact⟨xs,xs[i]'(by rw[rl.len];exact hi),.of hl,by simp[rl.len,hi]⟩
 ·rw[jR] at hi;exact⟨xs,.of hl,by rw[rl.len];exact hi⟩
 ·obtain⟨p,v,rfl,hp,rfl,hv⟩:=y;obtain⟨z,hz,rfl⟩:=kO hd;have hv:=hv xs<|.of hl;obtain⟨v',h1,rz⟩:=rl.get hz;rw[hv] at h1;cases h1;have fp:=sH.free hp;have s1:Same F (upd F p<|.tup [.int i,v]):=λb u q=>by rw[aW<|cC q fp];exact q
  refine⟨upd F p<|.tup [.int i,v],s1,?_,λH₀ σ sd S=>(S.lay (o:=.tup [.int i,v]) hp trivial).1⟩;exact⟨p,_,rfl,bH,.cons (by simp only[Rep]) (.one<|rz.mono s1)⟩
theorem oH(hg:Gl X "enumerate")(hm:X.mg "enumerate"=none)(ha:PEd X sd a (.val<|.lst ds))(hst:AB [a] X.env=[(false,eval a X.env)]:=by rfl):PId X sd PT0 (.Tuple elts kk tp) (.Call (.Name "enumerate" p) [a] [] pos) (mV ds):=.mk λσ F H S=>
 (aNa hg hm pN hst).to ((aA ha aE trivial (by rw [hst]; rfl) σ F H S).imp fun vs H1 ⟨F1,S1,s1,q1⟩=>by
  cases q1 with
  |cons q1 q2=>
   cases q2;obtain⟨l,xs,rfl,hl,rl⟩:=q1;refine⟨l,rfl,⟨xs,.of<|S1.sub _ _ hl⟩,F1,S1,s1,λF' H' sF sH sm _ i=>?_⟩
   exact aIz F' H' sF sH sm ⟨xs,sH _ _ (sF _ _ hl),rl.mono sF⟩ i)
theorem aMJ{ns:List Int}(r:Vals (ns.map V.int) us)(h:us[i]? =some u):i<ns.length/\∃t,u=.int (ns.getD i 0) t:=by
 have hl:=r.length;rw[aC] at hl;have hi:=(aF.mp h).1
 have e:(ns.map V.int)[i]? =some (.int<|ns.getD i 0):=by
  have:i<ns.length:=by lia
  simp[bV,this]
 obtain⟨u',h1,t,h2⟩:=r.get e;rw[h] at h1;cases h1;exact⟨by lia,t,h2⟩
def cutD(ds:List D)(lo hi:Option Int):List D:=(ds.drop<|HT.sIx ds.length 0 lo).take<|HT.sIx ds.length ds.length hi-HT.sIx ds.length 0 lo
def RepL.cut(r:RepL K H ds xs)(lo hi:Option Int):RepL K H (cutD ds lo hi) (aKN xs lo hi):=by unfold cutD aKN;rw[r.len];exact(r.drop _).take _
def POd(X:Cx)(sd:List Slot)(e:Option Expr)(o:Option Int):Prop:=match e,o with
 |none,none=>True
 |some e,some i=>PEd X sd e (.val<|.int i)
 |_,_=>False
theorem qR(h:POd X sd eo o):∃t:TO,PO X eo t/\∀ (σ:St) (F H:Hp),StF X.K X.B₀ F H σ sd->∀Q:Option Int->Hp->Prop,(∀F' H',StF X.K X.B₀ F' H' σ sd->Same F F'->Q o H')->t σ H Q:=by
 cases eo with
 |none=>
  cases o with
  |none=>exact⟨_,aLV,λσ F H S Q k=>k F H S<|Same.refl _⟩
  |some i=>exact h.elim
 |some e=>
  cases o with
  |none=>exact h.elim
  |some i=>have h:PEd X sd e (.val<|.int i):=h;refine⟨_,aMK eO,λσ F H S Q k=>(h σ F H S).imp λv H1 ⟨F1,S1,s1,q1⟩=>?_⟩;exact⟨i,q1,k F1 H1 S1 s1⟩
theorem aEJ{lo hi:Option Expr}(ha:PEd X sd a (.bor ds))(hl:POd X sd lo ol)(hh:POd X sd hi oh):PEd X sd (.Subscript a (.Slice lo hi none p2) pos) (.own<|cutD ds ol oh):=.mk λσ F H S=>by obtain⟨tl,pl,kl⟩:=qR hl;obtain⟨th,ph,kh⟩:=qR hh;refine(zE aMY eO pl ph).to<|(ha σ F H S).imp λv H1 ⟨F1,S1,s1,q1⟩=>kl σ F1 H1 S1 _ λF2 H2 S2 s2=>kh σ F2 H2 S2 _ λF3 H3 S3 s3=>?_;obtain⟨l,xs,rfl,hl',rl,_⟩:=ResOk.keep (r:=.bor ds) trivial q1 S3<|s2.trans s3;refine⟨l,xs,rfl,.of hl',λp hp=>?_⟩;obtain⟨S4,fp,no⟩:=S3.layO hp;exact⟨F3,S4,(s1.trans s2).trans s3,p,_,rfl,fp,bH,rl.cut ol oh,no⟩
theorem yH{lo hi:Option Expr}(ha:PEd X sd a (.val<|.tup ds))(hl:POd X sd lo ol)(hh:POd X sd hi oh)(hn:¬ (HT.sIx ds.length 0 ol=0/\HT.sIx ds.length ds.length oh=ds.length)):PEd X sd (.Subscript a (.Slice lo hi none p2) pos) (.val (.tup<|cutD ds ol oh)):=.mk λσ F H S=>by obtain⟨tl,pl,kl⟩:=qR hl;obtain⟨th,ph,kh⟩:=qR hh;refine(zE aOK eO pl ph).to<|(ha σ F H S).imp λv H1 ⟨F1,S1,s1,q1⟩=>kl σ F1 H1 S1 _ λF2 H2 S2 s2=>kh σ F2 H2 S2 _ λF3 H3 S3 s3=>?_;have q1:=Rep.mono (s2.trans s3) q1;obtain⟨l,xs,rfl,hl',rl⟩:=q1;refine⟨l,xs,rfl,.of<|S3.sub _ _ hl',by rw[rl.len];exact hn,λp hp=>?_⟩;obtain⟨S4,s4⟩:=S3.lay (o:=.tup<|aKN xs ol oh) hp trivial;refine⟨_,S4,((s1.trans s2).trans s3).trans s4,?_⟩;exact⟨p,_,rfl,bH,(rl.cut ol oh).mono s4⟩
theorem aEO(ha:PEd X sd a (.val<|.int i)):PEd X sd (.UnaryOp .USub a pos) (.val<|.int (-i)):=.mk λσ F H S=>(aRx aPy eO).to<|(ha σ F H S).imp λv H1 ⟨F1,S1,s1,q1⟩=>⟨i,q1,F1,S1,s1,by simp only[ResOk,Rep]⟩
theorem iF{P:Hp->Hp->Prop}(Sd:Nat->List Slot->Prop)(hi:PId X sd P tg iter ds)(h0:∃sd0,Le sd sd0/\Sd 0 sd0)(hb:∀k d sdk,ds[k]? =some d->Sd k sdk->∃sdt,PGd X sdk tg d sdt/\PSd X sdt body {E with nx:=λsd'=>∃sd2,Le sd' sd2/\Sd (k+1) sd2,ct:=λsd'=>∃sd2,Le sd' sd2/\Sd (k+1) sd2,bk:=E.nx}) (hE:∀sdn,Sd ds.length sdn->E.nx sdn) (hP:∀k sdk σ F H,Sd k sdk->StF X.K X.B₀ F H σ sdk->P F H:=by intros;trivial)(hc:X.calm=true:=by rfl) (hp:PassesOwn (AG X.prog X.w) X.A X.env X.xe:=by exact PassesOwn.never) (hs:∀x,As iter X.env x=pure x:=by intro _;rfl):PSd1 X sd (.For tg iter body [] pos) E:=.mk λσ F H S=>
 (aJS hp hc aRQ aQj pss_w hs).to (by
  intro za s I;refine thn (hi σ F H S za s I) λv s1 h1=>thn h1 λitv s2 h2=>?_
  obtain⟨it,fp,tn,J,H2,e,I2,T,st2,f2,F1,S1,s1',itd⟩:=h2;refine⟨it,fp,tn,J,H2,e,I2,T,st2,f2,?_⟩;obtain⟨sd0,le0,q0⟩:=h0;refine⟨λi m σ' H'=>m=ds.length-i/\i<=ds.length/\∃sdi F',StF X.K X.B₀ F' H' σ' sdi/\Same F1 F'/\Sd i sdi,⟨ds.length,by simp,bQ _,sd0,F1,S1.le le0,Same.refl _,q0⟩,?_⟩;rintro i m σ' H' ⟨rfl,hil,sdi,F',S',s',qi⟩;obtain⟨g1,g2,g3⟩:=itd F' H' s' S'.sub S'.smp (hP _ _ _ _ _ qi S') i
  by_cases hlt:i<ds.length
  ·refine .inr ⟨g1 hlt,λσ2 H2=>∃sd2 F2,StF X.K X.B₀ F2 H2 σ2 sd2/\Same F1 F2/\Sd (i+1) sd2,λσ2 H2 ⟨sd2,F2,S2,s2,q2⟩=>⟨ds.length-(i+1),by lia,rfl,hlt,sd2,F2,S2,s2,q2⟩,λx H2 y=>?_⟩;have hd:ds[i]? =some ds[i]:=by simp[hlt]
   obtain⟨F2,s2,rp,up⟩:=g3 x H2 ds[i] hd y;obtain⟨sdt,hg,hbb⟩:=hb i _ sdi hd qi;refine(hg σ' F2 H2 x (up _ _ _ S') rp).imp λσ3 H3 ⟨F3,S3,s3⟩=>?_
   have base:=(s'.trans s2).trans s3;refine(hbb σ3 F3 H3 S3).imp ?_ ?_ ?_ ?_
   ·rintro σ4 H4 ⟨sd4,F4,S4,s4,sd5,le,q5⟩;exact⟨sd5,F4,S4.le le,base.trans s4,q5⟩
   ·exact λv H4 q=>q
   ·rintro σ4 H4 ⟨sd4,F4,S4,s4,q⟩;exact⟨sd4,F4,S4,(s1'.trans base).trans s4,q⟩
   ·rintro σ4 H4 ⟨sd4,F4,S4,s4,sd5,le,q5⟩;exact⟨sd5,F4,S4.le le,base.trans s4,q5⟩
  ·have e:i=ds.length:=by lia
   subst e
   exact .inl ⟨g2 (aQ _),sdi,F',S',s1'.trans s',hE sdi qi⟩)
noncomputable def jF(m:Nat):Nat->List (List Int)
 |0=>[[]]
 |k+1=>(jF m k).flatMap λs=>(bT m).map λ(w:Nat)=>s++[(w:Int)]
def cB(s:List Int):D:=.tup<|s.map D.int
def vW(m:Int)(ws:List Int):Int:=ws.foldl (λn w=>n*m+w) 0
def aQQ(b k:Nat):Bool:=let L:=jF (2^b) k;L.length==2^(b*k)&&(bT L.length).all λi=>let f:=L.getD i [];f.length==k&&f.all (λw=>decide (0<=w)&&decide (w<2^b))&&decide (vW (2^b) f=i)&&(i==0||HT.lexLt (L.getD (i-1) []) f)
def aOi:∀p∈bX,aQQ p.1.toNat p.2.toNat=true:=by decide+kernel
def aHq:∀p∈bX,1<=p.1/\p.1<=6/\1<=p.2/\p.2<=6/\p.1*p.2<=6:=by decide+kernel
theorem tM{m:Nat}:∀ {k:Nat}{ws:List Int},ws.length=k->(∀w∈ws,0<=w/\w<m)->ws∈jF m k
 |0,ws,h,_=>by have:=aDk.mp h;subst this;simp[jF]
 |k+1,ws,h,hw=>by
  have hne:ws≠[]:=by intro z;subst z;simp at h
  have e:=(mC hne).symm;have hl:=hw (ws.getLast hne)<|List.getLast_mem hne;have ih:ws.dropLast∈jF m k:=tM (by rw[List.length_dropLast,h];rfl) λw hm=>hw w<|List.dropLast_subset _ hm
  refine dZ.mpr ⟨_,ih,aS.mpr ⟨(ws.getLast hne).toNat,cN.mpr<|by lia,?_⟩⟩;have:(((ws.getLast hne).toNat))=ws.getLast hne:=by lia
  rw[this];exact e.symm
structure aOB(b k:Nat):Prop where
 len:(jF (2^b) k).length=2^(b*k)
 at_:∀i,i<2^(b*k)->((jF (2^b) k).getD i []).length=k/\(∀w∈(jF (2^b) k).getD i [],0<=w/\w<2^b)/\vW (2^b) ((jF (2^b) k).getD i [])=i/\(i=0\/HT.lexLt ((jF (2^b) k).getD (i-1) []) ((jF (2^b) k).getD i [])=true)
theorem aKB{b k:Nat}(h:aQQ b k=true):aOB b k:=by unfold aQQ at h;simp at h;obtain⟨h1,h2⟩:=h;refine⟨h1,λi hi=>?_⟩;obtain⟨⟨⟨a,b⟩,c⟩,d⟩:=h2 i (by lia);exact⟨a,b,c,d⟩
theorem aOZ{b k:Nat}(h:aOB b k)(hl:ws.length=k)(hw:∀w∈ws,0<=w/\w<((2^b:Nat):Int)):0<=vW (2^b) ws/\(vW (2^b) ws).toNat<2^(b*k)/\(jF (2^b) k).getD (vW (2^b) ws).toNat []=ws:=by
 have hm:=tM hl hw;obtain⟨i,hi,e⟩:=List.mem_iff_getElem.mp hm;have e':(jF (2^b) k).getD i []=ws:=by simp[bV,hi,e]
 rw[h.len] at hi;have hn:=(h.at_ i hi).2.2.1;rw[e'] at hn;rw[hn];refine⟨by lia,by simpa using hi,?_⟩;simpa using e'
theorem xW:∀ (ws vs:List Int),mP (ws.map D.int) (vs.map D.int)=decide (ws=vs)
 |[],[]=>by simp[mP]
 |[],_::_=>by simp[mP]
 |_::_,[]=>by simp[mP]
 |w::ws,v::vs=>by
  simp only[cA,mP,deq,xW ws vs]
  by_cases h1:w=v<;>by_cases h2:ws=vs<;>simp[h1,h2]
def aCV(ws vs:List Int):deq (cB ws) (cB vs)=decide (ws=vs):=by unfold cB;simp only[deq,xW]
theorem sM:∀ws:List Int,plL (ws.map D.int)=true
 |[]=>rfl
 |w::ws=>by simp[plL,pl,sM ws]
theorem uU:∀ws:List Int,lN (ws.map D.int)=0
 |[]=>rfl
 |w::ws=>by simp[lN,dep,uU ws]
def sP(ws:List Int):pl (cB ws)=true:=by simp[cB,pl,sM]
def xT(ws:List Int):dep (cB ws)=1:=by simp[cB,dep,uU]
theorem xB:∀L:List (List Int),plL (L.map cB)=true
 |[]=>rfl
 |w::ws=>by simp[plL,sP,xB ws]
theorem uY:∀L:List (List Int),lN (L.map cB)<=1
 |[]=>by simp[lN]
 |w::ws=>by have:=uY ws;simp only[cA,lN,xT];lia
def pH(h1: -(2^64)<j)(h2:j<2^64):IntMulOk i j:=.of_right<|intBits_le_64 h1 h2
def aLO:∀n:Nat,n<=6->([.int 1,.int 2,.int 4,.int 8,.int 16,.int 32,.int 64]:List D)[n]? =some (.int<|((2^n:Nat):Int)):=by
 intro n hn
 match n,hn with
 |0,_=>rfl
 |1,_=>rfl
 |2,_=>rfl
 |3,_=>rfl
 |4,_=>rfl
 |5,_=>rfl
 |6,_=>rfl
def oF{L:List (List Int)}(h:(L.map cB)[k]? =some d):k<L.length/\d=cB (L.getD k []):=by
 rw[bE] at h;cases e:L[k]? with
 |none=>rw[e] at h;cases h
 |some z=>rw[e] at h;refine⟨(aF.mp e).1,?_⟩;rw[<-bZ.inj h,bV,e];rfl
theorem aFx{ad:BF}(hg:Gl X g)(hm:X.mg g=some (.ref ad))(hq:∀H,SqT X.K H ad xs)(ha:PEd X sd a (.val d))(hd:flt d=some v)(fv:pG v=true)(fx:xs.all pG=true)(hk:AX .In (.Name g p)=false:=by with_unfolding_all rfl) (hdb:(g==("__debug__":Str))=false:=by decide):PTd X sd (.Compare a [.In] [.Name g p] pos) (inV v xs):=.mk λσ F H S=>
 (aBq aGi eO (wV (v:= .ref ad) hg hm rfl hdb) hk).to ((ha σ F H S).imp fun x H1 ⟨F1,S1,s1,q1⟩=>by
  have e:=lX hd q1;subst e
  exact⟨ad,xs,rfl,.inr (hq H1),fv,fx,_,rfl,rfl,F1,S1,s1⟩)
def aNc{p:Pos}(hg:Gl X "min")(hm:X.mg "min"=none)(ha:PEd X sd a (.val<|.int i))(hb:PEd X sd b (.val<|.int j))(hc:X.calm=true:=by rfl)(hst:AB [a,b] X.env=(false,eval a X.env)::AB [b] X.env:=by rfl)(hst2:AB [b] X.env=(false,eval b X.env)::AB [] X.env:=by rfl)(hpl:(AV pos<|AB [b] X.env).any (·.1)=false:=by rfl):PEd X sd (.Call (.Name "min" p) [a,b] [] pos) (.val<|.int (if j<i then j else i)):=
 mL (he:=hst) (hpl:=hpl) (aGj hc) hg hm boot_min (aA ha (aA hb aE trivial hst2) trivial hst) λσ F H vs Q S q k=>by
  cases q with
  |cons q1 q2=>
   cases q2 with
   |cons q2 q3=>cases q3;subst q1 q2;exact⟨i,j,rfl,k _ F H S (Same.refl _)<|by simp only[ResOk,Rep]⟩
theorem aHW(i:Nat){Tb:D->List Slot}{py spos:Pos}(p:D->Bool)(f:D->D)(ho:cS sd=[])(hN:X.N.Nodup) (hi:X.N[i]? =some y) (hy:X.env.scope.names.lookup y=some .local)(hsw:Ab (.ListComp elt [⟨tg,iter,ifs,0⟩] scope pos) (some<|.Name y py) spos.line X.env=pure true)(hit:PId X sd PT0 tg iter ds) (hl:ds.length<=10000)(hsc:X.env.scope=sc) (hcn:oJ scope sc=true) (hM:X.N=M) (hcap:mI N M scope sc cap=true) (hk:scope.kind=.function)(hg:∀cl C fp s H d,d∈ds->PGd (cxB X N scope cl C fp s H) (nK cap sd) tg d (Tb d))(hle:∀d,d∈ds->Le (Tb d) (nK cap sd))(ht:∀cl C fp s H d,d∈ds->(ifs=[]/\p d=true)\/∃c,ifs=[c]/\PTd (cxB X N scope cl C fp s H) (Tb d) c (p d))(he:∀cl C fp s H d,d∈ds->p d=true->PEd (cxB X N scope cl C fp s H) (Tb d) elt (.val<|f d))(hE:∀l,E.nx<|sd.set i (.own l<|(ds.filter p).map f))(hc:X.calm=true:=by rfl) (hs:∀x,As iter X.env x=pure x:=by intro _;rfl):PSd1 X sd (.Assign [.Name y py] (.ListComp elt [⟨tg,iter,ifs,0⟩] scope pos) spos) E:=.mk λσ F H S=>by
 intro za s I
 have nm:∀y∈scope.names,(y.2=NameKind.free->sc.names.lookup y.1=some NameKind.cell)/\(y.2=NameKind.local->scope.names.lookup y.1=some NameKind.local):=λy hy=>by have q:=fG.mp hcn y hy;simp only[bU,aNR,aKL,beq_eq_false_iff_ne,ne_eq,beq_iff_eq] at q;exact⟨λe=>q.1.1.resolve_left λz=>z e,λe=>q.2.resolve_left λz=>z e⟩
 have fre:∀y∈scope.names,y.2=.free->∃c,X.env.cells.lookup y.1=some c:=λy hy e=>I.ok.has y.1 (.inl<|by show X.env.scope.names.lookup y.1=_;rw[hsc];exact(nm y hy).1 e)
 rw[exec_Assign_Name_used _ _ _ _ hsw];refine AA (wpAny_standAt<|AA ?_);refine AA<|AU (wpAny_comprehension_free rfl hs (yX fre) hk (λy hy=>(nm y hy).2) ?_) (λ_ s' hq=>AC<|AC hq) λ_ _ e=>e;refine thn (hit σ F H S za s I) λv s1 h1=>thn h1 λitv s2 h2=>?_
 obtain⟨it,fp,tn,J,H2,e,I2,T,st2,f2,F1,S1,s1',itd⟩:=h2;subst e;have S1b:StF X.K H2 H2 H2 (zF cap σ) (nK cap sd):=⟨Same.refl _,Same.refl _,S1.smp,aBg S1.slots S1.sub cap,by rw[rO];exact cQ⟩
 refine aCk (g:=λv σ2 H3 Q=>∀cl C,wG (cxB X N scope cl C fp s2 H2) tg v σ2 H3 Q) (tt:=λσ2 H3 Q=>∀cl C,aQp (cxB X N scope cl C fp s2 H2) ifs σ2 H3 Q) (te:=λσ2 H3 Q=>∀cl C,wE (cxB X N scope cl C fp s2 H2) elt σ2 H3 Q)
  hc hsc hcn (by rw[hM];exact hcap) hk I2 T st2 f2 (λcl C pi s3 σ3 H3 v u Q I3 ru q=>q cl C pi s3 u I3 ru) (λcl C pi s3 σ3 H3 Q I3 q=>q cl C pi s3 I3) (λcl C pi s3 σ3 H3 Q I3 q=>q cl C pi s3 I3)
  (λi m ys σb H3=>m=ds.length-i/\i<=ds.length/\∃Fb,StF X.K H2 Fb H3 σb (nK cap sd)/\RepL X.K Fb (((ds.take i).filter p).map f) ys) ds.length
  ⟨by simp,bQ _,H2,S1b,by simpa using RepL.nil⟩ _ ?_
 rintro i' m ys σb H3 ⟨rfl,hil,Fb,Sb,rl⟩;have sF1:Same F1 Fb:=λb o g=>Sb.base _ _<|S1.sub _ _ g
 obtain⟨g1,g2,g3⟩:=itd Fb H3 sF1 Sb.sub Sb.smp trivial i'
 by_cases hlt:i'<ds.length
 ·have hd:ds[i']? =some ds[i']:=by simp[hlt]
  have hm:=gF hlt
  have ylen:ys.length<=i':=by rw[rl.len,aC];exact cJ (iS _ _) (by simp;lia)
  refine .inr ⟨g1 hlt,eY<|by lia,λys' σ' H'=>∃Fb',StF X.K H2 Fb' H' σ' (nK cap sd)/\RepL X.K Fb' (((ds.take<|i'+1).filter p).map f) ys',λys' σ' H' ⟨Fb',Sb',rl'⟩=>⟨ds.length-(i'+1),by lia,rfl,hlt,Fb',Sb',rl'⟩,λx H4 y cl C=>?_⟩;obtain⟨F4,s4,rp,up⟩:=g3 x H4 ds[i'] hd y;refine(hg cl C fp s2 H2 _ hm σb F4 H4 x (up _ _ _ Sb) rp).imp λσ5 H5 ⟨F5,S5,s5⟩ cl2 C2=>?_
  have rl5:=rl.mono<|s4.trans s5
  have fin:∀ (b:Bool) (H6:Hp) (F6:Hp),b=p ds[i']->StF X.K H2 F6 H6 σ5 (Tb ds[i'])->Same F5 F6->if b=true then(∀cl C,wE (cxB X N scope cl C fp s2 H2) elt σ5 H6 λv H5=>∃Fb',StF X.K H2 Fb' H5 σ5 (nK cap sd)/\RepL X.K Fb' (((ds.take<|i'+1).filter p).map f) (ys++[v])) else ∃Fb',StF X.K H2 Fb' H6 σ5 (nK cap sd)/\RepL X.K Fb' (((ds.take<|i'+1).filter p).map f) ys:=λb H6 F6 eb S6 s6=>by
   rw[nX p hd,<-eb];cases b with
   |false=>exact aJw ⟨F6,S6.le<|hle _ hm,by simpa using rl5.mono s6⟩
   |true=>
    refine aJA λcl3 C3=>(he cl3 C3 fp s2 H2 _ hm eb.symm σ5 F6 H6 S6).imp λv H7 ⟨F7,S7,s7,q7⟩=>⟨F7,S7.le<|hle _ hm,?_⟩
    simp only[if_true,aX,cA,gB];exact((rl5.mono s6).mono s7).app<|.one q7
  rcases ht cl2 C2 fp s2 H2 _ hm with⟨e1,e2⟩|⟨c,e1,q⟩
  ·subst e1;exact aCl (fin true H5 F5 e2.symm S5<|Same.refl _)
  ·subst e1;exact aCS<|(q σ5 F5 H5 S5).imp λb H6 ⟨eb,F6,S6,s6⟩=>fin b H6 F6 eb S6 s6
 ·have e:i'=ds.length:=by lia
  subst e;refine .inl ⟨g2<|aQ _,λD C s' hD hC hDC h0 hL hcc hpp hst ⟨m',ns'⟩ J'=>?_⟩;have fbD:=Sb.sub.free hD
  have S9:StF X.K X.B₀ Fb (upd H3 D<|.lst ys) σ sd:=by
   refine⟨λb o g=>sF1 _ _<|S1.base _ _ g,λb o g=>?_,λb o g=>?_,S1.slots.mono sF1 λl hl=>?_,S1.nd⟩
   ·rw[aW<|cC g fbD];exact Sb.sub _ _ g
   ·by_cases hb:b=D
    ·subst hb;rw[bH] at g;cases g;trivial
    ·rw[aW hb] at g;exact Sb.smp _ _ g
   ·rw[ho] at hl;cases hl
  have S10:=S9.setO i fbD bH rl (by rw[ho];simp);obtain⟨oC,esC,epC,hoC,rC⟩:=id ns';have nC:(upd H3 D<|.lst ys) C=none:=by rw[aW<|Ne.symm hDC];exact hC
  have Jp:Inv X (za++[(C,oC)]) σ (upd H3 D<|.lst ys) s':=J'.pins_of λq hq=>(aV.mp hq).elim (λz=>J'.pin q<|aJ _ z) λz=>by
   have z:=by simpa using z
   subst z
   exact ⟨hoC,nC,hL,fun y=>hst (by
    rcases J'.ok.stk with e|⟨e,_⟩
    ·rw[e];exact y
    ·rw[e];unfold frs;rw[hZ];cases X.env.frame with
     |none=>exact y
     |some fr=>exact aH _ y),λv z=>by rw[rC.1] at z;cases z⟩
  refine wpAny_assign_Name (sW (v:=.ref D) Jp hN hi (.inl hy) rfl (λs3 J3=>?_)<|.inr hy);have pC:=J3.pin (C,oC) (aJ _<|aJ _ aO);refine⟨m',⟨oC,esC,epC,pC.1,rC⟩,λh' sb=>?_⟩;have J4:=J3.pins_of λq hq=>J3.pin q (aJ _<|bN _ hq)
  have J5:Inv X za _ (upd H3 D<|.lst ys) {s3 with heap:=h',toks:=s3.toks}:=J4.turned (λb o hb g=>sb.extBut b o hb g) nC hL (.inr h0) hcc hpp;refine⟨_,_,J5,_,Fb,S10,s1'.trans sF1,?_⟩;have hE':=hE D;simpa using hE'
def stepNames:List Str:=["and","or","xor","add","take","copy","put","not","up","down"]
def nm(k:Nat):Str:=stepNames.getD k "down"
noncomputable def mO(k:Nat)(i j n:Int):D:=if k<6 then .tup [.str<|nm k,.int i,.int j] else if k=6 then .tup [.str<|nm k,.int i,.int n] else .tup [.str<|nm k,.int i]
noncomputable def aOr(k:Nat)(m a:Int):Int:=match k with
 |7=>m-1-a
 |8=>a*2%m
 |_=>a / 2
noncomputable def aJy(k:Nat)(m a c:Int):Int:=match k with
 |0=>Builtin.bitAnd a c
 |1=>Builtin.bitOr a c
 |2=>Builtin.bitXor a c
 |3=>(a+c)%m
 |4=>(a-c)%m
 |_=>c
def newW(k:Nat)(m a c n:Int):Int:=if k=6 then n else if 7<=k then aOr k m a else aJy k m a c
def aQb:∀k,k<10->decide (V.str (nm k)=V.str "and")=decide (k=0):=by decide+kernel
def aRz:∀k,k<10->decide (V.str (nm k)=V.str "or")=decide (k=1):=by decide+kernel
def aPE:∀k,k<10->decide (V.str (nm k)=V.str "xor")=decide (k=2):=by decide+kernel
def aPv:∀k,k<10->decide (V.str (nm k)=V.str "add")=decide (k=3):=by decide+kernel
def aLy:∀k,k<10->decide (V.str (nm k)=V.str "take")=decide (k=4):=by decide+kernel
def aEL:∀k,k<10->decide (V.str (nm k)=V.str "put")=decide (k=6):=by decide+kernel
def aPw:∀k,k<10->decide (V.str (nm k)=V.str "not")=decide (k=7):=by decide+kernel
def aRs:∀k,k<10->decide (V.str (nm k)=V.str "up")=decide (k=8):=by decide+kernel
def aFt:∀k,k<10->inV (V.str<|nm k) [V.str "not",V.str "up",V.str "down"]=decide (7<=k):=by decide+kernel
def aHU:∀b,b<7->∀a,a<2^b->∀c,c<2^b->∀k,k<3->0<=aJy k 0 ((a:Nat):Int) ((c:Nat):Int)/\aJy k 0 ((a:Nat):Int) ((c:Nat):Int)<((2^b:Nat):Int):=by decide+kernel
def aRi(h:k<3)(m a c:Int):aJy k m a c=aJy k 0 a c:=by
 match k,h with
 |0,_=>rfl
 |1,_=>rfl
 |2,_=>rfl
theorem aIh{b k:Nat}{a c n:Int}(hb:b<7)(hk:k<10)(ha:0<=a/\a<((2^b:Nat):Int))(hc:0<=c/\c<((2^b:Nat):Int))(hn:0<=n/\n<((2^b:Nat):Int)):0<=newW k ((2^b:Nat):Int) a c n/\newW k ((2^b:Nat):Int) a c n<((2^b:Nat):Int):=by
 have ea:a=((a.toNat)):=by lia
 have ec:c=((c.toNat)):=by lia
 have la:a.toNat<2^b:=by generalize 2^b=q at *;lia
 have lc:c.toNat<2^b:=by generalize 2^b=q at *;lia
 have tab:∀k,k<3->0<=aJy k ((2^b)) a c/\aJy k ((2^b)) a c<((2^b)):=λk hk=>by rw[aRi hk,ea,ec];exact aHU b hb _ la _ lc k hk
 have mpos:(0)<((2^b:Nat):Int):=by lia
 match k,hk with
 |0,_=>exact tab 0<|by decide
 |1,_=>exact tab 1<|by decide
 |2,_=>exact tab 2<|by decide
 |3,_=>exact⟨dO _<|jJ mpos,dE _ mpos⟩
 |4,_=>exact⟨dO _<|jJ mpos,dE _ mpos⟩
 |5,_=>exact hc
 |6,_=>exact hn
 |7,_=>show 0<=((2^b:Nat))-1-a/\((2^b:Nat))-1-a<((2^b:Nat));generalize ((2^b))=q at *;lia
 |8,_=>exact⟨dO _<|jJ mpos,dE _ mpos⟩
 |9,_=>show 0<=a / 2/\a / 2<((2^b:Nat));generalize ((2^b))=q at *;lia
def aCr{a:BF}(p:PlainL h a its):h.IsList a its:=by obtain⟨o,n,h1,h2,h3,h4⟩:=p;exact⟨o,h1,h2,n,h4⟩
theorem aMd(hu:X.A.units+1<AR):OpR X (AT .NotEq) (λx y H Q=>∃p q xs,x=.ref p/\y=.ref q/\SqL X.K H p xs/\SqL X.K H q []/\Q (.bl<|!xs.isEmpty) H):=by
 intro za s σ H x y v u Q I rx ry h;obtain⟨p,q,xs,rfl,rfl,h1,h2,k⟩:=h;obtain⟨its,rv,ht,_⟩:=I.list h1;obtain⟨jts,rv2,ht2,_⟩:=I.list h2;have ht:=aCr ht;have ht2:=aCr ht2;cases rx;cases ry;have l1:its.toArray.size=xs.length:=by rw[bD,<-rv.length]
 have l2:jts.toArray.size=0:=by rw[bD,<-rv2.length];rfl
 have kk:EP X za σ Q (.bool<|!xs.isEmpty) s:=⟨.bl<|!xs.isEmpty,H,I,rfl,k⟩
 by_cases hl:xs=[]
 ·subst hl;refine SeqAt.RcNeAt.lists (e:=λ_=>true) ht ht2 (l1.trans l2.symm) (by lia) (λj h1 h2=>absurd h2<|by lia) _ _ _ _ ?_;rw[l1];exact kk
 ·have:(!xs.isEmpty)=true:=by cases xs with|nil=>exact absurd rfl hl|cons _ _=>rfl
  rw[this] at kk;exact SeqAt.RcNeAt.lists_lengths ht ht2 (by rw[l1,l2];cases xs with|nil=>exact absurd rfl hl|cons _ _=>simp) (by lia) _ _ _ _ kk
def aJf(hu:X.A.units+1<AR)(ha:PEd X sd a (.val<|.scr ns))(hb:PEd X sd b (.val<|.lst [])):PTd X sd (.Compare a [.NotEq] [b] pos) (!ns.isEmpty):=
 iY (aMd hu) ha hb trivial (fN _) λσ F H x u Q S q1 q2 k=>by
  have q1:=Rep.mono S.sub q1;obtain⟨p,rfl,hp⟩:=q1;obtain⟨q,xs,rfl,hq,rl⟩:=q2;have e:=by simpa using rl
  subst e;refine⟨p,q,ns.map V.int,rfl,rfl,hp,.of<|S.sub _ _ hq,?_⟩
  ·have:(ns.map V.int).isEmpty=ns.isEmpty:=by cases ns<;>rfl
   rw[this];exact k F H S<|Same.refl _
theorem aGo{g g':Int->Int->Bool}(ho:OpR X (AT op) (rI0 λi j=>.bl<|g i j))(ho':OpR X (AT op') (rI0 λi j=>.bl<|g' i j))(ha:PEd X sd a (.val<|.int i))(hb:PEd X sd b (.val<|.int j))(hc:PEd X sd c (.val<|.int l))(hm:lastMarks [op,op'] [b,c]=false:=by with_unfolding_all rfl):PEd X sd (.Compare a [op,op'] [b,c] pos) (.val (.bl<|g i j&&g' j l)):=.mk λσ F H S=>
 (aJj ho ho' eO eO eO hm).to ((ha σ F H S).imp fun v H1 ⟨F1,S1,s1,q1⟩=>(hb σ F1 H1 S1).imp fun u H2 ⟨F2,S2,s2,q2⟩=>by
  refine⟨i,j,q1,q2,g i j,rfl,?_⟩;cases hk:g i j with
  |true=>
   refine(hc σ F2 H2 S2).imp λw H3 ⟨F3,S3,s3,q3⟩=>?_
   exact⟨j,l,q2,q3,F3,S3,s1.trans<|s2.trans s3,by simp only[ResOk,Rep,uI]⟩
  |false=>exact⟨F2,S2,s1.trans s2,by simp only[ResOk,Rep,aQh]⟩)
theorem aMy(d:D)(hs:(∃es,d=.lst es)\/∃es,d=.tup es)(hu:X.A.units+1<AR):OpR X (AT .Eq) (λx y H Q=>∃z,y=.str z/\Rep X.K H d x/\Q (.bl false) H):=by
 intro za s σ H x y v u Q I rx ry h;obtain⟨z,rfl,hd,k⟩:=h;obtain⟨t,rfl⟩:=ry;have kk:EP X za σ Q (.bool false) s:=⟨.bl false,H,I,rfl,k⟩
 rcases hs with⟨es,rfl⟩|⟨es,rfl⟩
 ·obtain⟨a,xs,its,rfl,rfl,rl,rv,ht⟩:=kN I.hok hd rx;exact SeqAt.RcAt.list_str z t ht (by lia) _ _ _ _ kk
 ·obtain⟨a,xs,its,rfl,rfl,rl,rv,ht⟩:=hW I.hok hd rx;exact SeqAt.RcAt.tuple_str z t ht (by lia) _ _ _ _ kk
variable {o:Expr}
def PEd.ic(h:PEd X sd e (.val<|.int i))(q:i=j):PEd X sd e (.val<|.int j):=q▸h
def zR{E:BD->BE->Prop}{lo hi:Option Int}(ht:IsTup s.heap t items)(hs:s.heap.IsSliceOf sl vl vu .none)(pl:IsPart vl lo)(pu:IsPart vu hi)(hw:HT.sIx items.size 0 lo=0/\HT.sIx items.size items.size hi=items.size) (h:Q (.ref t) s):AK (AG prog w) A (getItem (.ref t)<|.ref sl) Q E s:=by
 obtain⟨os,hos,hcs,hds⟩:=id hs;have hTs:s.TypeIs (.ref sl) "slice":=⟨os,hos,hcs⟩;unfold getItem
 try with_reducible refine AY ?_
 first|refine AA (AC ?_)|skip
 refine AA<|wpAny_sequenceKey ht.typeIs (by decide) ?_
 refine AA (Ao ht.typeIs PyProof.Rows.slot_tuple_getitem
  (Av PyProof.Rows.slot_tuple_getitem ht.typeIs entry_tuple_getitem ?_ (args_tuple_getitem _ _)))
 show AK _ _ (Builtin.Tuple.tupleItemsOf (.ref t)>>=_) _ _ s;refine AA<|tupleItemsOf_ ht ?_;refine AA<|wpAny_typeOf hTs ?_;refine AA<|HT.sliceApplied_gen hs pl pu ?_
 have yes:(((HT.sIx items.size 0 lo):Int)==0&&(1:Int)==1&&(HT.sIx items.size items.size hi-HT.sIx items.size 0 lo)==items.size)=true:=by rw[hw.1,hw.2];simp
 show AK _ _ (if(((HT.sIx items.size 0 lo):Int)==0&&(1)==1&&(HT.sIx items.size items.size hi-HT.sIx items.size 0 lo)==items.size)=true then _ else _) _ _ s;rw[zt yes];refine AA ?_;refine AA (wpAny_typeOf ht.typeIs<|AC ?_);exact AA (BB<|AC ⟨_,rfl,AC h⟩)
def aLw:SlR X (λx lo hi H Q=>∃a xs,x=.ref a/\SqT X.K H a xs/\(HT.sIx xs.length 0 lo=0/\HT.sIx xs.length xs.length hi=xs.length)/\Q (.ref a) H):=by
 intro za s σ H x v vl vu lo hi sl Q I rx hs pl pu h;obtain⟨a,xs,rfl,hx,hw,q⟩:=h;cases rx;obtain⟨its,r,ht,hz⟩:=I.tuple hx;have hlen:its.toArray.size=xs.length:=r.length.symm
 refine⟨"tuple",_,PyProof.Rows.slot_tuple_getitem.lookup,ht.typeIs,zR ht hs pl pu (by rw[hlen];exact hw) ⟨.ref a,H,I,rfl,q⟩⟩
theorem aBh{lo hi:Option Expr}(ha:PEd X sd a (.val<|.tup ds))(hl:POd X sd lo ol)(hh:POd X sd hi oh)(hw:HT.sIx ds.length 0 ol=0/\HT.sIx ds.length ds.length oh=ds.length):PEd X sd (.Subscript a (.Slice lo hi none p2) pos) (.val<|.tup ds):=.mk λσ F H S=>by obtain⟨tl,pl,kl⟩:=qR hl;obtain⟨th,ph,kh⟩:=qR hh;refine(zE aLw eO pl ph).to<|(ha σ F H S).imp λv H1 ⟨F1,S1,s1,q1⟩=>kl σ F1 H1 S1 _ λF2 H2 S2 s2=>kh σ F2 H2 S2 _ λF3 H3 S3 s3=>?_;have q1:=Rep.mono (s2.trans s3) q1;obtain⟨l,xs,rfl,hl',rl⟩:=q1;refine⟨l,xs,rfl,.of<|S3.sub _ _ hl',by rw[rl.len];exact hw,F3,S3,(s1.trans s2).trans s3,?_⟩;exact⟨l,xs,rfl,hl',rl⟩
theorem uH{k:Nat}(ha:PEd X sd a (.val<|.tup ds))(hb:PEd X sd b (.val<|.int (k:Int))):PEd X sd (.Subscript a (.Slice none (some b) none p2) pos) (.val (.tup<|ds.take k)):=by
 by_cases h:k<ds.length
 ·have e:DL.cutD ds none (some<|k)=ds.take k:=by unfold DL.cutD;rw[HT.sIx_nat,HT.sIx_none];simp
  exact PEd.cast (yH (ol:=none) (oh:=some<|k) ha trivial hb<|by rw[HT.sIx_nat];lia) (by rw[e])
 ·rw[eX<|by lia];exact aBh (ol:=none) (oh:=some<|k) ha trivial hb (by rw[HT.sIx_nat,HT.sIx_none];lia)
theorem qD{k:Nat}(ha:PEd X sd a (.val<|.tup ds))(hb:PEd X sd b (.val<|.int (k:Int))):PEd X sd (.Subscript a (.Slice (some b) none none p2) pos) (.val (.tup<|ds.drop k)):=by
 by_cases h:0<k/\0<ds.length
 ·have e:DL.cutD ds (some<|k) none=ds.drop k:=by
   unfold DL.cutD;rw[HT.sIx_nat,HT.sIx_none]
   by_cases q:k<=ds.length
   ·rw[aQg q];exact eX<|by simp
   ·rw[Nat.min_eq_right<|by lia,kJ<|aQ _,kJ<|by lia];simp
  exact PEd.cast (yH (ol:=some<|k) (oh:=none) ha hb trivial<|by rw[HT.sIx_nat];lia) (by rw[e])
 ·have e:ds.drop k=ds:=by
   by_cases q:k=0
   ·rw[q];rfl
   ·have:ds=[]:=aDk.mp (by lia);rw[this];simp
  rw[e];exact aBh (ol:=some<|k) (oh:=none) ha hb trivial (by rw[HT.sIx_nat,HT.sIx_none];lia)
mutual
def noL:D->Bool
 |.tup ds=>aNF ds
 |.lst _=>false
 |.scr _=>false
 |.dic=>false
 |.dki _ _=>false
 |.any _=>false
 |_=>true
def aNF:List D->Bool
 |[]=>true
 |d::ds=>noL d&&aNF ds
end
def del(F:Hp)(l:BF):Hp:=λb=>if b=l then none else F b
def xD{l b:BF}(h:b≠l):del F l b=F b:=by unfold del;rw[zr h]
def aDi:del F l l=none:=by unfold del;rw[zt rfl]
mutual
theorem Rep.del{K:aB}{F:Hp}{l:BF}{xs:List V}(hl:F l=some (.lst xs)):∀ {d:D}{v:V},noL d=true->Rep K F d v->Rep K (del F l) d v
 |.non,_,_,r=>by simpa only[Rep] using r
 |.bl _,_,_,r=>by simpa only[Rep] using r
 |.int _,_,_,r=>by simpa only[Rep] using r
 |.str _,_,_,r=>by simpa only[Rep] using r
 |.tup ds,v,h,r=>by
  obtain⟨a,ys,e,q,rl⟩:=r
  have ne:a≠l:=λz=>by rw[z,hl] at q;cases q
  exact⟨a,ys,e,by rw[xD ne];exact q,RepL.del hl (by simpa only[noL] using h) rl⟩
 |.lst _,_,h,_=>by simp[noL] at h
 |.dic,_,h,_=>by simp[noL] at h
 |.dki _ _,_,h,_=>by simp[noL] at h
 |.any _,_,h,_=>by simp[noL] at h
 |.scr _,_,h,_=>by simp[noL] at h
theorem RepL.del{K:aB}{F:Hp}{l:BF}{xs:List V}(hl:F l=some (.lst xs)):∀ {ds:List D}{ys:List V},aNF ds=true->RepL K F ds ys->RepL K (del F l) ds ys
 |[],_,_,r=>by simpa only[RepL] using r
 |d::ds,ys,h,r=>by simp only[aNF,bU] at h;obtain⟨y,zs,rfl,a,rl⟩:=r.uncons;exact .cons (Rep.del hl h.1 a)<|RepL.del hl h.2 rl
end
theorem aCO:∀ {sd:List Slot}{σ:St},σ.length=sd.length->(∀ (k:Nat) (z:Slot),sd[k]? =some z->∃o,σ[k]? =some o/\eF K F H z o)->SlotsOk K F H sd σ
 |[],[],_,_=>rfl
 |z::zs,o::r,hl,h=>by
  obtain⟨o',e,q⟩:=h 0 z rfl;have:=by simpa using e
  subst this
  exact ⟨o,r,rfl,q,aCO (by simpa using hl) fun k z hz=>by
   obtain⟨o',e,q⟩:=h (k+1) z (by simpa using hz)
   exact⟨o',by simpa using e,q⟩⟩
 |[],_::_,hl,_=>by simp at hl
 |_::_,[],hl,_=>by simp at hl
noncomputable def okS:Slot->Bool
 |.own _ ds=>aNF ds
 |.od _ _ ds=>aNF ds
 |.ox _ _=>false
 |_=>true
def Oth(sd:List Slot)(i:Nat):Prop:=∀ (k:Nat) (z:Slot),k≠i->sd[k]? =some z->okS z=true
variable {i:Nat}{l:BF}{xs:List V}
def StF.lend(S:StF K H₀ F H σ sd)(hs:sd[i]? =some (.own l ds))(hx:H l=some (.lst xs)):StF K H₀ (upd F l<|.lst xs) H σ (sd.set i (.val<|.lst ds)):=by obtain⟨o,h1,h2,n,ys,q,rl⟩:=S.slots.get hs;rw[hx] at q;cases q;have S0:=S.le<|gK sd i;obtain⟨S1,s1⟩:=S0.freeze hx n<|uT S.nd hs;have S2:=S1.set (d:=.lst ds) i (⟨l,xs,rfl,bH,rl.mono s1⟩);rw[jX,mK<|by rw[h1,h2]] at S2;exact S2
def StF.back(S:StF K H₀ F H σ sd)(hs:sd[i]? =some (.own l ds))(hx:H l=some (.lst xs))(ho:Oth sd i)(S':StF K H₀ F' H' σ (sd.set i (.val<|.lst ds)))(s:Same (upd F l<|.lst xs) F'):StF K H₀ (del F' l) H' σ sd/\Same F (del F' l)/\F' l=some (.lst xs):=by
 obtain⟨o,h1,h2,n,ys,q,rl⟩:=S.slots.get hs;rw[hx] at q;cases q;have fl:=s _ _ bH
 have sF:Same F (del F' l):=λb u e=>by have ne:=cC e n;rw[xD ne];exact s _ _ (by rw[aW ne];exact e)
 refine⟨⟨λb u e=>sF _ _<|S.base _ _ e,λb u e=>?_,S'.smp,?_,S.nd⟩,sF,fl⟩
 ·by_cases h:b=l
  ·subst h;rw[aDi] at e;cases e
  ·rw[xD h] at e;exact S'.sub _ _ e
 ·refine aCO S.slots.len λk z hz=>?_
  by_cases hk:k=i
  ·subst hk;rw[hs] at hz;cases hz;exact⟨o,h1,h2,aDi,xs,S'.sub _ _ fl,rl.mono sF⟩
  ·obtain⟨o1,g1,g2⟩:=S.slots.get hz;obtain⟨o2,g3,g4⟩:=S'.slots.get (by rw[gU<|Ne.symm hk];exact hz);rw[g1] at g3;cases g3;refine⟨o1,g1,?_⟩;cases z with
   |un=>trivial
   |val d=>obtain⟨v,e,r⟩:=g2;exact⟨v,e,r.mono sF⟩
   |gh d G=>obtain⟨v,e,r,g⟩:=g2;exact⟨v,e,r.mono sF,λF2 s2=>g F2<|sF.trans s2⟩
   |own l' ds'=>
    obtain⟨e,n',ys,q',rl'⟩:=g4
    have ne:l'≠l:=λe2=>by rw[e2,fl] at n';cases n'
    exact⟨e,by rw[xD ne];exact n',ys,q',RepL.del fl (ho k _ hk hz) rl'⟩
   |od l' ks ds'=>
    obtain⟨e,n',ys,q',ln,rl'⟩:=g4
    have ne:l'≠l:=λe2=>by rw[e2,fl] at n';cases n'
    exact⟨e,by rw[xD ne];exact n',ys,q',ln,RepL.del fl (ho k _ hk hz) rl'⟩
   |ox ls G=>exact absurd (ho k _ hk hz) (by simp[okS])
def PTd.lend(i:Nat)(hs:sd[i]? =some (.own l ds))(ho:Oth sd i)(h:PTd X (sd.set i (.val<|.lst ds)) e k):PTd X sd e k:=.mk λσ F H S=>by
 obtain⟨o,h1,h2,n,xs,q,rl⟩:=S.slots.get hs;refine(h σ _ H<|S.lend hs q).imp λv H' ⟨e,F',S',s'⟩=>?_
 obtain⟨S2,s2,fl⟩:=S.back hs q ho S' s';exact⟨e,del F' l,S2,s2⟩
def PTd.cast(h:PTd X sd e k)(q:k=k'):PTd X sd e k':=q▸h
def aQF:List Slot->Nat->Bool
 |[],_=>true
 |_::zs,0=>zs.all okS
 |z::zs,i+1=>okS z&&aQF zs i
theorem aOu:∀ {sd:List Slot}{i:Nat},aQF sd i=true->Oth sd i
 |[],_,_,k,y,_,hz=>by simp at hz
 |z::zs,0,h,k,y,hk,hz=>by
  cases k with
  |zero=>exact absurd rfl hk
  |succ k=>exact fG.mp (h) _ (bC<|by simpa using hz)
 |z::zs,i+1,h,k,y,hk,hz=>by
  have h':(okS z&&aQF zs i)=true:=h;rw[bU] at h';cases k with
  |zero=>
   have:=by simpa using hz
   subst this;exact h'.1
  |succ k=>exact aOu h'.2 k y (λq=>hk<|by rw[q]) (by simpa using hz)
def aFG(ha:PEd X sd a ra)(hb:PEd X sd b rb)(ka:ra.keeps)(kb:rb.keeps)(hs:(isT ra.toD=true/\isT rb.toD=true)\/(isL ra.toD=true/\isL rb.toD=true))(p1:pl ra.toD=true)(p2:pl rb.toD=true)(hu:X.A.units+dep ra.toD+1<AR):PTd X sd (.Compare a [.Eq] [b] pos) (deq ra.toD rb.toD):=
 iY (aKa X.K _ _ hs p1 p2 hu) ha hb ka (fN _) λσ F H v u Q S q1 q2 k=>⟨q1.rep S ka,q2.rep S kb,k F H S<|Same.refl _⟩
def aGN:lA X (.type "int") (λxs H Q=>∃k,xs=[.bl k]/\Q (.int (if k then 1 else 0)) H):=by intro za s σ H xs us Q I r h;obtain⟨k,rfl,q⟩:=h;obtain⟨u,rfl,ru⟩:=pF r;cases(ru);exact call_int_bool ⟨.int _,H,I.kept λb o g=>g,⟨_,rfl⟩,q⟩
def qT(hg:Gl X "int")(hm:X.mg "int"=none)(ha:PEd X sd e (.val<|.bl k))(hst:AB [e] X.env=(false,eval e X.env)::AB [] X.env:=by rfl):PEd X sd (.Call (.Name "int" p) [e] [] pos) (.val<|.int (if k then 1 else 0)):=
 uW (he:=hst) aGN hg hm PyProof.Rows.boot_int (aA ha aE trivial hst) λσ F H vs Q S q kk=>by
  cases q with
  |cons q1 q2=>cases q2;subst q1;exact⟨k,rfl,kk _ F H S (Same.refl _)<|by simp only[ResOk,Rep]⟩
def aGA(hc:X.calm=true):lA X (.builtin "sum") (λxs H Q=>∃ (a:BF) (ns:List Int),xs=[.ref a]/\SqL X.K H a (ns.map V.int)/\Q (.int<|preSum (λi=>ns.getD i 0) ns.length) H):=by
 intro za s σ H xs us Q I r h;obtain⟨a,ns,rfl,ha,q⟩:=h;obtain⟨u,rfl,ru⟩:=pF r;cases ru;obtain⟨its,rv,p,hz⟩:=I.list ha;have hl:=rv.length;rw[aC] at hl;have isl:=p.isList;have alt:a<s.heap.objs.size:=by obtain⟨o,ho,_⟩:=isl;exact aU ho
 refine call_sum_walkAnyS<|BA isl ?_;refine⟨s.heap.objs.size,_,_,_,its.toArray.size,_,_,λi=>ns.getD i 0,rfl,(Walks.list (A:=X.A.in1) (I.ok.hd hc) s.heap.objs.size a (bR alt) its.toArray).toS,⟨⟨_,bO _ rfl,rfl,rfl⟩,isl.push _⟩,λb hb=>?_,λi v hv=>(aMJ rv<|by simpa using hv).2,λs' t' hm=>?_⟩
 ·rw[size_push']
  rcases bL.mp hb with e|hb
  ·rw[e];exact iE _
  ·have e:=by simpa using hb
   rw[e];exact oQ alt
 ·rw[Moved.eq_with hm];have sz:its.toArray.size=ns.length:=by rw[bD,hl]
  rw[sz];refine⟨.int _,H,I.kept λb o g=>hm.heap b o (λhI=>?_)<|aD _ g,⟨_,rfl⟩,q⟩;have e:=by simpa using hI
  exact absurd (aU g) (by rw[e];exact eU _)
def aNt{p:Pos}{ns:List Int}(hg:Gl X "sum")(hm:X.mg "sum"=none)(ha:PEd X sd e (.bor<|ns.map D.int))(hc:X.calm=true:=by rfl)(hst:AB [e] X.env=(false,eval e X.env)::AB [] X.env:=by rfl):PEd X sd (.Call (.Name "sum" p) [e] [] pos) (.val (.int<|preSum (λi=>ns.getD i 0) ns.length)):=
 mL (he:=hst) (aGA hc) hg hm boot_sum (aA ha aE trivial hst) λσ F H vs Q S q k=>by
  cases q with
  |cons q1 q2=>cases q2;obtain⟨p,xs,rfl,hp,rl,_⟩:=q1;exact⟨p,ns,rfl,.of (by rw[<-rl.ints];exact hp),k _ F H S (Same.refl _)<|by simp only[ResOk,Rep]⟩
abbrev SQ:=Nat×Int×Int×Int
def sqD(q:SQ):D:=mO q.1 q.2.1 q.2.2.1 q.2.2.2
structure uV(p:Int×Int)(q:SQ):Prop where
 sz:p∈bX
 k10:q.1<10
 i0:0<=q.2.1/\q.2.1<p.2
 j0:0<=q.2.2.1/\q.2.2.1<p.2
 n0:0<=q.2.2.2/\q.2.2.2<((2^p.1.toNat:Nat):Int)
theorem pw0(n:Nat):(0:Int)<((2^n:Nat):Int):=by have:0<2^n:=Nat.pow_pos (by decide);generalize 2^n=q at this ⊢;lia
abbrev SK:=SQ×Int
def skD(s:SK):D:=.tup [sqD s.1,.int s.2]
structure StkOk(p:Int×Int)(L:List SK):Prop where
 pos:0<L.length
 le:L.length<=8
 st:∀s∈L,uV p s.1/\1<=s.2/\s.2<=9
structure Fil(p:Int×Int)(ws:List Int):Prop where
 len:ws.length=p.2.toNat
 wd:∀w∈ws,0<=w/\w<((2^p.1.toNat:Nat):Int)
def nwQ(p:Int×Int)(q:SQ)(ws:List Int):Int:=newW q.1 ((2^p.1.toNat:Nat):Int) (ws.getD q.2.1.toNat 0) (ws.getD q.2.2.1.toNat 0) q.2.2.2
def onQ(p:Int×Int)(q:SQ)(ws:List Int):List Int:=ws.set q.2.1.toNat<|nwQ p q ws
def fH(p:Int×Int)(L:List SK)(row:List Nat)(ws:List Int):List Int:=row.foldl (λf t=>onQ p (L.getD t AS).1 f) ws
theorem aNd(O:uV p q)(G:Fil p ws):0<=nwQ p q ws/\nwQ p q ws<((2^p.1.toNat:Nat):Int):=by obtain⟨h1,h2,h3,h4,h5⟩:=aHq p O.sz;exact aIh (by lia) O.k10 (G.wd _ (getD_mem<|by have:=O.i0;rw[G.len];lia)) (G.wd _ (getD_mem<|by have:=O.j0;rw[G.len];lia)) O.n0
def wN(O:uV p q)(G:Fil p ws):Fil p (onQ p q ws):=by
 refine⟨by unfold onQ;rw[aNM];exact G.len,λw hw=>?_⟩
 rcases List.mem_or_eq_of_mem_set hw with hw|rfl
 ·exact G.wd w hw
 ·exact aNd O G
theorem kB(S:StkOk p L):∀ (row:List Nat) (ws:List Int),(∀t∈row,t<L.length)->Fil p ws->Fil p (fH p L row ws)
 |[],ws,_,G=>G
 |t::row,ws,h,G=>by have ht:=h t aO;exact kB S row _ (λu hu=>h u<|aH _ hu)<|wN (S.st _<|getD_mem ht).1 G
def aHc(p:Int×Int)(L:List SK)(row:List Nat)(t:Nat)(ws:List Int):fH p L (row++[t]) ws=onQ p (L.getD t AS).1 (fH p L row ws):=by unfold fH;rw[eC];rfl
theorem kC(hp:p∈bX)(h:ws∈jF (2^p.1.toNat) p.2.toNat):Fil p ws:=by
 have g:∀ (m k:Nat),∀s∈jF m k,s.length=k/\∀x∈s,0<=x/\x<(m):=λm k=>by
  induction k with
  |zero=>
   intro s h;have:=by simpa[jF] using h
   subst this;exact⟨rfl,λx hx=>by cases hx⟩
  |succ k ih=>
   intro s h;obtain⟨t,ht,hs⟩:=dZ.mp h;obtain⟨w,hw,rfl⟩:=aS.mp hs;obtain⟨a,b⟩:=ih t ht;refine⟨by rw[aP,a];rfl,λx hx=>?_⟩
   rcases aV.mp hx with hx|hx
   ·exact b x hx
   ·have e:=by simpa using hx
    have:=cN.mp hw;lia
 obtain⟨a,b⟩:=g _ _ ws h;exact⟨a,b⟩
noncomputable def bA(row:List Nat):List D:=row.map λ(t:Nat)=>D.int (t:Int)
noncomputable def vS(L:List SK)(row:List Nat):List Int:=row.map λt=>(L.getD t AS).2
def vC(l:List Int):Int:=preSum (λi=>l.getD i 0) l.length
def xQ:List D->R->Prop:=λds r=>∃ (L:List SK) (row:List Nat),(∀t∈row,t<L.length)/\row.length<=500/\ds=[.lst<|L.map skD,.tup<|bA row]/\r=.val (.int (vC<|vS L row))
theorem yG:∀n,(∀i,i<n->f i=g i)->preSum f n=preSum g n
 |0,_=>rfl
 |n+1,h=>by show preSum f n+f n=preSum g n+g n;rw[yG n λi hi=>h i<|by lia,h n<|by omega]
def aHf(l:List Int)(x:Int):vC (l++[x])=vC l+x:=by unfold vC;rw[aP];show preSum _ l.length+_=_;rw[yG (g:=λi=>l.getD i 0) l.length λi hi=>by simp[bV,dS hi]];simp[bV]
def aCd(ha:PEd X sd a (.val d1))(hb:PEd X sd b (.val d2))(h1:flt d1=some x)(h2:flt d2=some y)(hs:aNz x y=true)(hk:decide (x=y)=k):PEd X sd (.Compare a [.Eq] [b] pos) (.val<|.bl k):=
 nE aOG ha hb trivial (fN _) λσ F H v u Q S q1 q2 kk=>by have e1:=lX h1 q1;have e2:=lX h2 q2;subst e1 e2;exact⟨hs,by rw[hk];exact kk F H S<|Same.refl _⟩
def yM(hg:Gl X "list")(hm:X.mg "list"=none)(ha:PEd X sd e (.bor ds))(hst:AB [e] X.env=(false,eval e X.env)::AB [] X.env:=by rfl):PEd X sd (.Call (.Name "list" p) [e] [] pos) (.own ds):=
 uW (he:=hst) aAL hg hm PyProof.Rows.boot_list (aA ha aE trivial hst) λσ F H vs Q S q k=>by
  cases q with
  |cons q1 q2=>cases q2;obtain⟨p,xs,rfl,hp,rl,_⟩:=q1;refine⟨p,xs,rfl,.inl<|.of hp,λl hl=>?_⟩;obtain⟨S2,fp,no⟩:=S.layO hl;exact k _ F _ S2 (Same.refl _) ⟨l,xs,rfl,fp,bH,rl,no⟩
mutual
theorem zI:∀d:D,pl d=true->deq d d=true
 |.non,_=>rfl
 |.bl b,_=>by simp[deq]
 |.int i,_=>by simp[deq]
 |.str x,_=>by simp[deq]
 |.tup ds,h=>by exact vA ds (by simpa only[pl] using h)
 |.lst ds,h=>by exact vA ds (by simpa only[pl] using h)
 |.dic,h=>by simp[pl] at h
 |.dki _ _,h=>by simp[pl] at h
 |.any _,h=>by simp[pl] at h
 |.scr _,h=>by simp[pl] at h
theorem vA:∀ds:List D,plL ds=true->mP ds ds=true
 |[],_=>rfl
 |d::ds,h=>by simp only[plL,bU] at h;simp only[mP,bU];exact⟨zI d h.1,vA ds h.2⟩
end
def aFS(h:(bA row)[k]? =some d):k<row.length/\d=.int ((row.getD k 0:Nat):Int):=by
 unfold bA at h;rw[bE] at h;cases e:row[k]? with
 |none=>rw[e] at h;cases h
 |some z=>rw[e] at h;refine⟨(aF.mp e).1,?_⟩;rw[<-bZ.inj h,bV,e];rfl
def aEs{L:List SK}(h:t<L.length):(L.map skD)[t]? =some (skD<|L.getD t AS):=by simp[bV,h]
def aIM{row:List Nat}(h:k<row.length):row.take (k+1)=row.take k++[row.getD k 0]:=by simp[bV,h]
def vL(L:List (List Int))(m:Nat):(L.flatMap λs=>(bT m).map λ(w:Nat)=>s++[(w:Int)]).length=L.length*m:=by
 induction L with
 |nil=>simp
 |cons s L ih=>rw[List.flatMap_cons,aP,ih,aC,fZ,bJ,aHl,aSA]
theorem aBi:∀ (m k:Nat),(jF m k).length=m^k
 |_,0=>rfl
 |m,k+1=>by show((jF m k).flatMap _).length=_;rw[vL,aBi m k,Nat.pow_succ]
theorem aCs:∀ (m k:Nat),∀s∈jF m k,s.length=k
 |_,0,s,h=>by
  have:=by simpa[jF] using h
  subst this;rfl
 |m,k+1,s,h=>by obtain⟨t,ht,hs⟩:=dZ.mp h;obtain⟨w,_,rfl⟩:=aS.mp hs;rw[aP,aCs m k t ht];rfl
def aGg:∀p∈bX,∀k,k<p.2.toNat->((2^p.1.toNat)^k)*2^p.1.toNat<=900:=by decide+kernel
def tabQ(p:Int×Int)(L:List SK)(row:List Nat):List (List Int):=(jF (2^p.1.toNat) p.2.toNat).map λws=>fH p L row ws
def aEt:List D->R->Prop:=λds r=>∃p L row,p∈bX/\StkOk p L/\(∀t∈row,t<L.length)/\ds=[cP p,.lst<|L.map skD,.tup<|bA row]/\r=.val (.tup<|(tabQ p L row).map cB)
def aCZ(p:Int×Int)(L:List SK)(row:List Nat):(tabQ p L row).length=(jF (2^p.1.toNat) p.2.toNat).length:=aC _
def lR(hp:p∈bX):(jF (2^p.1.toNat) p.2.toNat).length<=64:=by
 have:∀p∈bX,(2^p.1.toNat)^p.2.toNat<=64:=by decide+kernel
 rw[aBi];exact this p hp
def yJ{L:List (List Int)}(h:d∈L.map cB):∃ws∈L,d=cB ws:=by obtain⟨ws,hw,rfl⟩:=aS.mp h;exact⟨ws,hw,rfl⟩
def aDb(hp:p∈bX)(S:StkOk p L)(h:∀t∈row,t<L.length):∀ws∈tabQ p L row,Fil p ws:=λws hw=>by obtain⟨v,hv,rfl⟩:=aS.mp hw;exact kB S row v h<|kC hp hv
noncomputable def lM:D->List Int
 |.tup ds=>ds.map λd=>match d with | .int i=>i|_=>0
 |_=>[]
def iZ(ws:List Int):lM (cB ws)=ws:=by
 show(ws.map D.int).map _=ws;rw[aY]
 induction ws with
 |nil=>rfl
 |cons w ws ih=>rw[cA,ih];rfl
def isN:D->Bool
 |.non=>true
 |_=>false
def aBk(h:Rep K H d v):decide (v=.non)=isN d:=by
 cases d with
 |non=>subst h;rfl
 |bl=>subst h;rfl
 |int=>subst h;rfl
 |str=>subst h;rfl
 |tup=>obtain⟨a,xs,rfl,_⟩:=h;rfl
 |lst=>obtain⟨a,xs,rfl,_⟩:=h;rfl
 |dic=>obtain⟨a,rfl,_⟩:=h;rfl
 |dki=>obtain⟨a,xs,rfl,_⟩:=h;rfl
 |any=>obtain⟨⟨a,rfl⟩,_⟩:=h;rfl
 |scr=>obtain⟨a,rfl,_⟩:=h;rfl
def wO(ha:PEd X sd a (.val d))(hb:PEd X sd b (.val .non)):PTd X sd (.Compare a [.Is] [b] pos) (isN d):=
 iY aER ha hb trivial (fN _) λσ F H v u Q S q1 q2 k=>⟨q2,by rw[aBk q1];exact k F H S<|Same.refl _⟩
def iX(ha:PEd X sd a (.val d))(hb:PEd X sd b (.val .non)):PTd X sd (.Compare a [.IsNot] [b] pos) (!isN d):=
 iY aLC ha hb trivial (fN _) λσ F H v u Q S q1 q2 k=>⟨q2,by rw[aBk q1];exact k F H S<|Same.refl _⟩
def vI(ha:PEd X sd a (.val d))(hb:PEd X sd b (.val .non)):PEd X sd (.Compare a [.Is] [b] pos) (.val (.bl<|isN d)):=
 nE aER ha hb trivial (fN _) λσ F H v u Q S q1 q2 k=>⟨q2,by rw[aBk q1];exact k F H S<|Same.refl _⟩
theorem aAO{p p2 q2:Pos}{n:Nat}(hg:Gl X "list")(hm:X.mg "list"=none)(hg2:Gl X "range")(hm2:X.mg "range"=none)(ha:PEd X sd e (.val<|.int (n:Int)))(h1:n<=10000)(hc:X.calm=true:=by rfl) (hst:AB [e] X.env=(false,eval e X.env)::AB [] X.env:=by rfl) (hst2:AB [.Call (.Name "range" p2) [e] [] q2] X.env=(false,eval (.Call (.Name "range" p2) [e] [] q2) X.env)::AB [] X.env:=by rfl):PEd X sd (.Call (.Name "list" p) [.Call (.Name "range" p2) [e] [] q2] [] pos) (.own<|iW 0 n):=.mk λσ F H S za s I=>by
 refine AO<|mH I hg hm PyProof.Rows.boot_list ?_;refine PyProof.Rows.callWith_type1 ?_ hst2 rfl;refine Calls.spliced_cons (AO<|mH I hg2 hm2 boot_range ?_);refine PyProof.Rows.callWith_type1 (thn ((cO eO pa_nil hst) q2 za s σ H (λus H1=>∃v F1,us=[v]/\StF X.K X.B₀ F1 H1 σ sd/\Same F F1/\ResOk X.K F1 H1 sd (.val (.int<|n)) v) I<|(ha σ F H S).imp λv H1 ⟨F1,S1,s1,q1⟩=>⟨v,F1,rfl,S1,s1,q1⟩) λus s1 hus=>?_) hst rfl;obtain⟨ws,H1,I1,rv,v,F1,rfl,S1,sF,q1⟩:=hus;obtain⟨u,rfl,ru⟩:=pF rv;subst q1;obtain⟨t,rfl⟩:=ru;refine call_range_1<|Calls.spliced_nil ?_;have hr:IsRange (s1.heap.push {cls:=.type "range",data:=.fields #[.int 0 s1.toks,.int (n) t,.int 1<|s1.toks+1]}) s1.heap.objs.size 0 (n) 1 s1.toks t (s1.toks+1):=IsRange.new ..
 have sz:Builtin.Range.rangeSize 0 (n) 1=(n):=by
  rw[rangeSize_one]
  split<;>lia
 refine call_list_range (I1.ok.hd hc) hr (small_one (by lia) (by lia) (by lia)<|by lia) sz (by lia) λh' tk acc c' kp g it=>?_
 have kp2:=λb o g=>kp b o<|aD _ g
 have le:s1.heap.objs.size<=(s1.heap.push {cls:=.type "range",data:=.fields #[.int 0 s1.toks,.int (n) t,.int 1<|s1.toks+1]}).objs.size:=by rw[size_push'];exact iL _
 generalize (s1.heap.push {cls:=.type "range",data:=.fields #[.int 0 s1.toks,.int (n) t,.int 1<|s1.toks+1]}).objs.size=dd at g le;have hD:=I1.hok.fresh le;have ln:acc.toList.length=n:=it.1
 have vl:=by
  have g:∀ (l:List BD) (f:Nat->Int),(∀ (j:Nat) (v:BD),l[j]? =some v->∃t,v=.int (f j) t)->Vals ((bT l.length).map λ(k)=>V.int<|f k) l:=λl=>by
   induction l with
   |nil=>intro f _;exact .nil
   |cons x l ih=>intro f h;obtain⟨t,e⟩:=h 0 x rfl;rw[bJ,aEd,cA,aY];exact .cons ⟨t,e⟩ (ih (λk=>f<|k+1) λj v hv=>h (j+1) v<|by simpa using hv)
  have:=g acc.toList (λk=>0+(k)) λj v hv=>by obtain⟨t,e⟩:=it.2 j v (by rw[<-dM];exact hv);exact⟨t,by rw[e];congr 1;lia⟩
  rw[ln] at this;exact this
 have I3:Inv X za σ (upd H1 dd<|.lst ((bT n).map λ(k:Nat)=>V.int<|0+(k))) {s1 with heap:=h',toks:=tk}:=
  I1.laid kp2 le ⟨by rw[aC,fZ];exact cZ<|eY h1,acc.toList,c',vl,by simpa using g⟩
 obtain⟨S4,fp,no⟩:=S1.layO hD;refine⟨.ref dd,_,I3,rfl,F1,S4,sF,dd,_,rfl,fp,bH,?_,no⟩
 have gg:∀ks:List Nat,RepL X.K F1 (ks.map λ(k:Nat)=>D.int<|0+(k)) (ks.map λ(k:Nat)=>V.int<|0+(k)):=λks=>by
  induction ks with
  |nil=>exact .nil
  |cons k ks ih=>exact .cons (by simp only[Rep]) ih
 exact gg _
theorem aRu{u d n c:Nat}(h:u+n<c)(hd:d+1<=n):u+d+1<c:=by lia
def bW(p:Int×Int):List (List Int):=jF (2^p.1.toNat) p.2.toNat
noncomputable def unl(bs:List Nat)(a b:List Int):Bool:=bs.any λj=> !decide (a.getD j 0=b.getD j 0)
def unK(bs:List Nat)(T U:List (List Int))(k:Nat):Bool:=unl bs (T.getD k [])<|U.getD k []
def pW(bs:List Nat)(A T U:List (List Int)):Option (List Int):=((bT A.length).find? λk=>unK bs T U k).map λk=>A.getD k []
def aNY:Option (List Int)->D
 |none=>.non
 |some ws=>cB ws
def lkD:Option (List Nat)->D
 |none=>.non
 |some l=>.lst<|bA l
noncomputable def bxQ(n:Nat):Option (List Nat)->List Nat
 |none=>bT n
 |some l=>l
structure tF(p:Int×Int)(T:List (List Int)):Prop where
 len:T.length=(bW p).length
 fil:∀ws∈T,Fil p ws
def zY(p:Int×Int)(o:Option (List Nat)):Prop:=∀l,o=some l->l.length<=100/\∀b∈l,b<p.2.toNat
theorem aOD(hp:p∈bX){o:Option (List Nat)}(h:zY p o):(bxQ p.2.toNat o).length<=100/\∀b∈bxQ p.2.toNat o,b<p.2.toNat:=by
 cases o with
 |none=>obtain⟨h1,h2,h3,h4,h5⟩:=aHq p hp;exact⟨by show(bT _).length<=100;rw[fZ];lia,λb hb=>cN.mp hb⟩
 |some l=>exact h l rfl
def aBy(bs:List Nat)(a b:List Int):(!decide ((bs.map λj=>a.getD j 0)=bs.map λj=>b.getD j 0))=unl bs a b:=by
 induction bs with
 |nil=>rfl
 |cons j bs ih=>
  show _=(!decide (a.getD j 0=b.getD j 0)||unl bs a b);rw[<-ih,]
  by_cases h:a.getD j 0=b.getD j 0
  ·simp
  ·simp[h]
def aJg(bs:List Nat)(a:List Int):unl bs a a=false:=by rw[<-aBy];simp
def aDU(hk:k<A.length)(h:unK bs T U k=true)(hn:∀j,j<k->unK bs T U j=false):pW bs A T U=some (A.getD k []):=by
 unfold pW
 have:(bT A.length).find? (λk=>unK bs T U k)=some k:=by rw[aBP];exact⟨h,cN.mpr hk,λj hj=>by rw[hn j hj];rfl⟩
 rw[this];rfl
def yV(hn:∀j,j<A.length->unK bs T U j=false):pW bs A T U=none:=by unfold pW;rw[uK.mpr λk hk=>by rw[hn k<|cN.mp hk];simp];rfl
def aEI:List D->R->Prop:=λds r=>∃p o,p∈bX/\ds=[cP p,lkD o]/\r=.own (bA<|bxQ p.2.toNat o)
def zH:List D->R->Prop:=λds r=>∃ (bs:List Nat) (ws:List Int),bs.length<=100/\(∀b∈bs,b<ws.length)/\ds=[.lst<|bA bs,cB ws]/\r=.own ((bs.map λj=>ws.getD j 0).map D.int)
def aKk:List D->R->Prop:=λds r=>∃p T U o,p∈bX/\tF p T/\tF p U/\zY p o/\ds=[cP p,.tup<|T.map cB,.tup<|U.map cB,lkD o]/\r=.val (aNY<|pW (bxQ p.2.toNat o) (bW p) T U)
def aAv(n:Nat):iW 0 n=bA (bT n):=by
 refine cH λk _=>?_
 rw[mQ]
def aFe{V:List (List Int)}(h:k<V.length):(V.map cB)[k]? =some (cB<|V.getD k []):=by simp[bV,h]
def aAi{α:Type}{L:List α}(d:α)(h:k<L.length):L.take (k+1)=L.take k++[L.getD k d]:=by simp[bV,h]
theorem aGa(d:D)(ds:List D)(p1:pl d=true)(p2:plL ds=true)(hu:X.A.units+1+lN ds<AR):OpR X (AT .NotIn) (λx y H Q=>Rep X.K H (.lst ds) y/\Rep X.K H d x/\Q (.bl<|!ds.any λz=>deq z d) H):=by
 intro za s σ H x y v u Q I rx ry h;obtain⟨hl,hd,k⟩:=h;obtain⟨a,xs,its,rfl,rfl,rl,rv,ht⟩:=kN I.hok hl ry
 have hat:∀ (j:Nat) (w:BD),its[j]? =some w->∃z v,ds[j]? =some z/\xs[j]? =some v/\Rep X.K H z v/\RelV v w:=λj w hw=>by
  have hj:=(aF.mp hw).1;have hx:j<xs.length:=by rw[Vals.length rv];exact hj
  have hd:j<ds.length:=by rw[<-rl.len];exact hx
  obtain⟨v,hv,rz⟩:=rl.get (i:=j) (d:=ds[j]) (by simp[hd])
  exact ⟨ds[j],v,by simp [hd],hv,rz,by
   have:=rv.get hv;obtain⟨w',hw',r⟩:=this;rw[hw] at hw';cases hw'
   exact r⟩
 have dc:=λw=>Classical.propDecidable (∃ (j:Nat) (z:D),its[j]? =some w/\ds[j]? =some z/\deq z d=true)
 refine SeqAt.notIn_listAt (λw=> @decide _<|dc w) ht (λw hw=>?_) ⟨.bl _,H,I,rfl,?_⟩
 ·by_cases q:∃ (j:Nat) (z:D),its[j]? =some w/\ds[j]? =some z/\deq z d=true
  ·obtain⟨j,z,e1,e2,e3⟩:=q;obtain⟨z',v,f1,f2,f3,f4⟩:=hat j w e1;rw[e2] at f1;cases f1;have: @decide _ (dc w)=true:=by rw[decide_eq_true_eq];exact⟨j,z,e1,e2,e3⟩
   rw[this,<-e3];exact vG I.hok z (tV p2 e2) p1 f3 hd f4 rx (by have:=qE e2;show X.A.units+1+dep z<AR;lia)
  ·have hw':=by simpa using hw
   obtain⟨j,hj,rfl⟩:=eB hw';obtain⟨z,v,f1,f2,f3,f4⟩:=hat j its[j] (by simp[hj])
   have e3:deq z d=false:=by
    cases h:deq z d with
    |false=>rfl
    |true=>exact(q ⟨j,z,by simp[hj],f1,h⟩).elim
   have: @decide _ (dc its[j])=false:=by rw[decide_eq_false_iff_not];exact q
   rw[this,<-e3];exact vG I.hok z (tV p2 f1) p1 f3 hd f4 rx (by have:=qE f1;show X.A.units+1+dep z<AR;lia)
 ·have e:its.toArray.any (λw=> @decide _<|dc w)=ds.any λz=>deq z d:=by
   rw[gA,aNu,lD,lD]
   constructor
   ·rintro⟨w,hw,q⟩;rw[decide_eq_true_eq] at q;obtain⟨j,z,e1,e2,e3⟩:=q;exact⟨z,bC e2,e3⟩
   ·rintro⟨z,hz,e3⟩;obtain⟨j,hj,rfl⟩:=eB hz;have hi:j<its.length:=by rw[<-Vals.length rv,rl.len];exact hj
    exact⟨its[j],gF hi,by rw[decide_eq_true_eq];exact⟨j,ds[j],by simp[hi],by simp[hj],e3⟩⟩
  rw[e];exact k
def aCN(ha:PEd X sd a (.val d))(hb:PEd X sd b (.val<|.lst ds))(p1:pl d=true)(p2:plL ds=true)(hu:X.A.units+1+lN ds<AR)(hk:AX .NotIn b=false:=by with_unfolding_all rfl):PTd X sd (.Compare a [.NotIn] [b] pos) (!ds.any λz=>deq z d):=
 iY (aGa d ds p1 p2 hu) ha hb trivial hk λσ F H x u Q S q1 q2 k=>⟨Rep.mono S.sub q2,Rep.mono S.sub q1,k F H S<|Same.refl _⟩
variable {es:List D}
def RepL.atI{i:Int}(r:RepL K H ds xs)(h:L2.atI ds i=some d):∃v,L2.atI xs i=some v/\Rep K H d v:=by
 unfold L2.atI at h ⊢;rw[r.len];cases e:ixN ds.length i with
 |none=>rw[e] at h;cases h
 |some j=>rw[e] at h;exact r.get h
theorem aMT{i:Int}(ha:PEd X sd a (.bor ds))(hb:PEd X sd b (.val<|.int i))(hd:atI ds i=some d)(hs:nD b):PEd X sd (.Subscript a b pos) (.val d):=.mk λσ F H S=>
 (aHK aBf eO eO hs).to ((ha σ F H S).imp fun v H1 ⟨F1,S1,s1,q1⟩=>(hb σ F1 H1 S1).imp fun u H2 ⟨F2,S2,s2,q2⟩=>by
  obtain⟨p,xs,e1,hp,rl,_⟩:=ResOk.keep (r:=.bor ds) trivial q1 S2 s2;obtain⟨w,hw,rw'⟩:=rl.atI hd
  exact⟨p,xs,i,w,e1,q2,.of hp,hw,F2,S2,s1.trans s2,rw'⟩)
def aPC{b:Nat}(h:b<τ.length):(bA τ)[b]? =some (.int ((τ.getD b 0:Nat):Int)):=by unfold bA;simp[bV,h]
variable {es:List Expr}{d':D}{ls:List D}
def PEd.valP(h:PEd X sd e (.pr d ls)):PEd X sd e (.val<|.tup [d,.lst ls]):=.mk λσ F H S=>(h σ F H S).imp λv H' ⟨F',S',s,t,l,xs,y,e,ft,ry,n,q,rl,no⟩=>by obtain⟨S2,s2⟩:=S'.freeze q n no;refine⟨_,S2,s.trans s2,?_⟩;refine⟨t,[y,.ref l],e,s2 _ _ ft,.cons (ry.mono s2)<|.one ?_⟩;exact⟨l,xs,rfl,bH,rl.mono s2⟩
theorem zG:∀ {sd:List Slot}{i:Nat}{z:Slot},(cS sd).Nodup->sd[i]? =some z->(iM z).Nodup
 |[],_,_,_,e=>by simp at e
 |y::zs,0,z,h,e=>by
  have:=by simpa using e
  subst this;exact(bK.mp<|h).1
 |y::zs,i+1,z,h,e=>zG (bK.mp<|h).2.1 (by simpa using e)
variable {ls:List BF}{nss:List (List Int)}
def StF.setX(S:StF K H₀ F H σ sd)(i:Nat)(q:eF K F H (.ox as G) (some v))(nd:as.Nodup)(no:∀a∈as,a∉cS sd):StF K H₀ F H (σ.set i (some v)) (sd.set i<|.ox as G):=
 ⟨S.base,S.sub,S.smp,S.slots.set q i,(jB (z:=.ox as G) i S.nd (λl e=>.inl<|no l e) nd).1⟩
def StF.reX{o:Option V}(S:StF K H₀ F H σ sd)(hs:sd[i]? =some z)(ho:σ[i]? =some o)(keep:∀b ob,b∉iM z->H b=some ob->H' b=some ob)(sm:Smp H')(q:eF K F H' z' o)(nd:(iM z').Nodup)(no:∀a∈iM z',a∈iM z\/a∉cS sd):StF K H₀ F H' σ (sd.set i z'):=by
 have S0:=S.le<|gK sd i;have mz:∀a∈iM z,a∈cS sd:=λa ha=>dZ.mpr ⟨z,bC hs,ha⟩
 refine⟨S.base,λb u e=>?_,sm,?_,?_⟩
 ·refine keep b u (λhb=>?_)<|S.sub _ _ e;have:=(S.slots.owns<|mz b hb).1;rw[e] at this;cases this
 ·have q1:=S0.slots.mono (Same.refl _) λa ha=>⟨(S0.slots.owns ha).1,λob e=>keep a ob (λhb=>gR S.nd hs hb ha) e⟩
  have q2:=q1.set q i;rw[jX,mK ho] at q2;exact q2
 ·have:=jB i S0.nd (fun a ha=>by
   rcases no a ha with h|h
   ·exact .inl<|gR S.nd hs h
   ·exact .inl λhm=>h ((gK sd i).own.subset hm)) nd
  rw[jX] at this;exact this.1
noncomputable def inF(F H:Hp)(as:List BF):Hp:=λb=>if b∈as then H b else F b
def aEq{b:BF}(h:b∈as):inF F H as b=H b:=zt h
def aEP{b:BF}(h:b∉as):inF F H as b=F b:=zr h
def aLQ(h:∀a∈as,F a=none):Same F (inF F H as):=λb u e=>by rw[aEP λhb=>by rw[h b hb] at e;cases e];exact e
def StF.inN(S:StF K H₀ F H σ sd)(h0:∀a∈l::ls,F a=none)(no:∀a∈l::ls,a∉cS sd):StF K H₀ (inF F H (l::ls)) H σ sd/\Same F (inF F H (l::ls)):=by
 have s1:=aLQ (H:=H) h0;refine⟨⟨λb u e=>s1 _ _<|S.base _ _ e,λb u e=>?_,S.smp,S.slots.mono s1 λa ha=>⟨?_,λob e=>e⟩,S.nd⟩,s1⟩
 ·by_cases h:b∈l::ls
  ·rw[aEq h] at e;exact e
  ·rw[aEP h] at e;exact S.sub _ _ e
 ·rw[aEP λhb=>no a hb ha];exact(S.slots.owns ha).1
variable {ns:List Int}
def aNp(h:Smp H)(a:BF):Smp (upd H a<|.lst xs):=λb u e=>by
 by_cases z:b=a
 ·subst z;rw[bH] at e;cases e;trivial
 ·rw[aW z] at e;exact h _ _ e
def InD(K:aB)(F H:Hp):List BF->List (List D)->Prop
 |[],[]=>True
 |a::as,ds::dss=>(∃xs,H a=some (.lst xs)/\RepL K F ds xs)/\InD K F H as dss
 |_,_=>False
def InD.len:∀ {as:List BF}{dss:List (List D)},InD K F H as dss->as.length=dss.length
 |[],[],_=>rfl
 |[],_::_,h=>h.elim
 |_::_,[],h=>h.elim
 |_::as,_::dss,h=>by rw[bJ,bJ,InD.len h.2]
def InD.of:∀ {as:List BF}{dss:List (List D)},InD K F H as dss->∀a∈as,∃xs,H a=some (.lst xs)
 |[],[],_,a,ha=>by cases ha
 |[],_::_,h,_,_=>h.elim
 |_::_,[],h,_,_=>h.elim
 |b::as,_::dss,h,a,ha=>by
  rcases bL.mp ha with rfl|ha
  ·exact⟨h.1.choose,h.1.choose_spec.1⟩
  ·exact InD.of h.2 a ha
variable {dss:List (List D)}
def InD.mono2:∀ {as:List BF}{dss:List (List D)},InD K F H as dss->Same F F'->(∀a∈as,∀ob,H a=some ob->H' a=some ob)->InD K F' H' as dss
 |[],[],_,_,_=>trivial
 |[],_::_,h,_,_=>h.elim
 |_::_,[],h,_,_=>h.elim
 |a::as,_::dss,h,s,k=>by obtain⟨⟨xs,e,r⟩,h2⟩:=h;exact⟨⟨xs,k a aO _ e,r.mono s⟩,InD.mono2 h2 s λb hb=>k b<|aH _ hb⟩
def InD.get:∀ {as:List BF}{dss:List (List D)}{t:Nat}{a:BF},InD K F H as dss->as[t]? =some a->∃ds xs,dss[t]? =some ds/\H a=some (.lst xs)/\RepL K F ds xs
 |[],[],t,a,_,e=>by simp at e
 |[],_::_,_,_,h,_=>h.elim
 |_::_,[],_,_,h,_=>h.elim
 |b::as,ds::dss,0,a,h,e=>by
  have:=by simpa using e
  subst this;obtain⟨⟨xs,e1,r⟩,_⟩:=h;exact⟨ds,xs,rfl,e1,r⟩
 |b::as,ds::dss,t+1,a,h,e=>by obtain⟨ms,xs,e1,e2⟩:=InD.get h.2 (by simpa using e);exact⟨ms,xs,by simpa using e1,e2⟩
def InD.set:∀ {as:List BF}{dss:List (List D)}{t:Nat}{a:BF}{es:List D}{ys:List V},as.Nodup->InD K F H as dss->as[t]? =some a->RepL K F es ys->InD K F (upd H a<|.lst ys) as (dss.set t es)
 |[],[],t,a,_,_,_,_,e,_=>by simp at e
 |[],_::_,_,_,_,_,_,h,_,_=>h.elim
 |_::_,[],_,_,_,_,_,h,_,_=>h.elim
 |b::as,ds::dss,0,a,es,ys,nd,h,e,r=>by
  have:=by simpa using e
  subst this;refine⟨⟨ys,bH,r⟩,h.2.mono2 (Same.refl _) λc hc ob q=>?_⟩;rw[aW (show c≠b from λz=>(bY.mp nd).1<|z▸hc)];exact q
 |b::as,ds::dss,t+1,a,es,ys,nd,h,e,r=>by
  have e':=by simpa using e
  obtain⟨⟨xs,e1,r1⟩,h2⟩:=h;refine⟨⟨xs,?_,r1⟩,InD.set (bY.mp nd).2 h2 e' r⟩;rw[aW (show b≠a from λz=>(bY.mp nd).1<|z▸bC e')];exact e1
theorem aFR:∀ {as:List BF}{dss:List (List D)},InD K G G as dss->RepL K G (dss.map D.lst) (as.map V.ref)
 |[],[],_=>.nil
 |[],_::_,h=>h.elim
 |_::_,[],h=>h.elim
 |a::as,ds::dss,h=>by obtain⟨⟨xs,e,r⟩,h2⟩:=h;refine .cons ?_<|aFR h2;exact⟨a,xs,rfl,e,r⟩
noncomputable def rV(f:Nat->Bool)(A:List (List Int)):Option (List Int):=((bT A.length).find? f).map λk=>A.getD k []
def aDN(hk:k<A.length)(h:f k=true)(hn:∀j,j<k->f j=false):rV f A=some (A.getD k []):=by
 unfold rV
 have:(bT A.length).find? f=some k:=by rw[aBP];exact⟨h,cN.mpr hk,λj hj=>by rw[hn j hj];rfl⟩
 rw[this];rfl
def xS(hn:∀j,j<A.length->f j=false):rV f A=none:=by unfold rV;rw[uK.mpr λk hk=>by rw[hn k<|cN.mp hk];simp];rfl
noncomputable def wsD:Option (List<|List Int)->D
 |none=>.non
 |some L=>.lst<|L.map cB
def WsOk(p:Int×Int)(o:Option (List<|List Int)):Prop:=∀L,o=some L->0<L.length/\L.length<=100/\∀ws∈L,Fil p ws
structure aBV(p:Int×Int)(w:List (Option (List<|List Int))):Prop where
 len:w.length=(bW p).length
 ok:∀o∈w,WsOk p o
def aRn{w:List (Option (List<|List Int))}(h:k<w.length):(w.map wsD)[k]? =some (wsD<|w.getD k none):=by simp[bV,h]
def aMa(o:Option (List Int)):isN (aNY o)=o.isNone:=by cases o<;>rfl
noncomputable def aNH(w:List (Option (List<|List Int)))(T:List (List Int))(k:Nat):Bool:=match w.getD k none with
 |none=>false
 |some L=> !decide (T.getD k []∈L)
def zC(w:List (Option (List<|List Int)))(A T:List (List Int)):Option (List Int):=rV (aNH w T) A
def aOh:List D->R->Prop:=λds r=>∃p w T,p∈bX/\aBV p w/\tF p T/\ds=[cP p,.lst<|w.map wsD,.tup<|T.map cB]/\r=.val (aNY<|zC w (bW p) T)
def aOf:List D->R->Prop:=λds r=>∃p w T,p∈bX/\aBV p w/\tF p T/\ds=[cP p,.lst<|w.map wsD,.tup<|T.map cB]/\r=.val (.bl (zC w (bW p) T).isNone)
def aCj(L:List (List Int))(t:List Int):((L.map cB).any λz=>deq z<|cB t)=decide (t∈L):=by
 induction L with
 |nil=>simp
 |cons a L ih=>
  rw[cA,lO,ih,aCV]
  by_cases h:t=a
  ·simp[h]
  ·have h2:¬ a=t:=λq=>h q.symm
   simp[h,h2]
noncomputable def wdQ(bs:List Nat)(f:List Int):List Int:=bs.map λj=>f.getD j 0
def aIT{α β:Type}{xs:List α}{ys:List β}(h:xs.length=ys.length)(x:α)(y:β):(xs++[x]).zip (ys++[y])=xs.zip ys++[(x,y)]:=by rw[aNN h];rfl
theorem qV{ks:List Key}(hk:k∉ks):∀ {ks':List Key}{xs:List V},(∀j∈ks',j∈ks)->jG (ks'.zip xs) k=none
 |[],_,_=>rfl
 |_::_,[],_=>rfl
 |j::js,x::xs,h=>by rw[dC,iG (p:=(j,x)) (λe=>hk<|(show j=k from e)▸h j aO)];exact qV hk λi hi=>h i<|aH _ hi
theorem aBv:∀ {ks:List Key}{xs:List V}{n:Nat}{k:Key}{x:V},ks.Nodup->ks[n]? =some k->xs[n]? =some x->jG (ks.zip xs) k=some x
 |[],_,n,_,_,_,h,_=>by simp at h
 |_::_,[],n,_,_,_,_,h=>by simp at h
 |j::js,y::ys,0,k,x,nd,h1,h2=>by
  have e1:=by simpa using h1
  have e2:=by simpa using h2
  rw[dC,jW e1,e2]
 |j::js,y::ys,n+1,k,x,nd,h1,h2=>by obtain⟨nj,nd⟩:=bY.mp nd;rw[dC,iG (p:=(j,y)) (λe=>nj<|(show j=k from e)▸bC h1)];exact aBv nd h1 h2
def aId(h:BH)(vs:List BD)(out:Array BD):(∀b x,h.get? b=some x->(sortedAll h vs out).get? b=some x)/\∃n,(sortedAll h vs out).get? (h.objs.size+1)=some (Am "list" out n):=by
 have hsz:((h.push<|Am "list" #[] 0).update h.objs.size (Obj.mapSeq (·++vs.toArray))).objs.size=h.objs.size+1:=by rw[pK,size_push']
 have hoL:(((h.push<|Am "list" #[] 0).update h.objs.size (Obj.mapSeq (·++vs.toArray))).push<|Am "list" vs.toArray 0).get? (h.objs.size+1)=some (Am "list" vs.toArray 0):=by rw[<-hsz];exact bO _ rfl
 constructor
 ·intro b x g;have lt:=aU g;have n1:h.objs.size≠b:=λz=>absurd lt (by rw[z];exact eU _)
  have n2:h.objs.size+1≠b:=λz=>absurd lt (by rw[<-z];exact qG.mpr<|iL _)
  unfold sortedAll sortedHeap;rw[cW _ _ n2];refine aD _<|aD _ ?_;rw[cW _ _ n2];refine aD _ ?_;rw[cW _ _ n1];exact aD _ g
 ·obtain⟨n1,g1⟩:∃n1,((((h.push<|Am "list" #[] 0).update h.objs.size (Obj.mapSeq (·++vs.toArray))).push<|Am "list" vs.toArray 0).update (h.objs.size+1)<|Obj.mapSeq λ_=> #[]).get? (h.objs.size+1)=some (Am "list" #[] n1):=⟨_,get?_update_seq hoL λ_=> #[]⟩;exact⟨_,get?_update_seq (aD _<|aD _ g1) λ_=>out⟩
def exO(l:BF)(o:BI):HO:=.ext λh=>h.get? l=some o
def pU{o:BI}(g:h.get? l=some o):ObjOk P w H h l (exO l o):=⟨g,⟨o,g⟩,λ_ _ q k=>k _ q⟩
def TDo(P:AD)(w:AL)(F:Hp)(l:BF)(o:BI)(kvs:List (List Key×V)):Prop:=
 kvs.length<=AJ/\(l==Aa)=false/\∃xs,KT F kvs xs/\∃es ep,o.ExactDict/\o.data=.dict es ep/\es.toList=xs.map (entryOfKey (Ak<|fA P w))/\(xs.map (·.1)).Nodup
def TDo.mono{o:BI}(t:TDo P w F l o kvs)(s:Same F F'):TDo P w F' l o kvs:=by obtain⟨z,y,xs,r,q⟩:=t;exact⟨z,y,xs,r.keeps λb ys e=>s _ _ e,q⟩
def KT.all(ok:HOk P w H h){l:List (List Key×V)}(q:KT H l m):∀x∈m,(Ak<|fA P w).is h x.1 x.2.1:=by
 induction q with
 |nil=>intro x hx;exact nomatch hx
 |@cons p q ps qs hq t ih=>
  intro x hx
  rcases bL.mp hx with e|hx
  ·subst e;exact nJ ok (by rw[<-hq.1];exact hq.2.1)
  ·exact ih x hx
def kD:Key->D
 |.inl i=>.int i
 |.inr x=>.str x
theorem pS:∀ {k:List Key}{xs:List V},RepL K F (k.map kD) xs->xs=k.map kV
 |[],xs,r=>by simpa only[gB,RepL] using r
 |a::k,xs,r=>by
  obtain⟨y,ys,rfl,q,rl⟩:=r.uncons;rw[pS rl];congr 1;cases a with
  |inl i=>exact q
  |inr x=>exact q
def vD{α β:Type}{xs:List α}{ys:List β}(h:xs.length=ys.length)(x:α)(y:β):(xs++[x]).zip (ys++[y])=xs.zip ys++[(x,y)]:=by rw[aNN h];rfl
theorem aAp{ks:List (List Key)}(hk:k∉ks):∀ {ks':List (List Key)}{xs:List V},(∀j∈ks',j∈ks)->jG (ks'.zip xs) k=none
 |[],_,_=>rfl
 |_::_,[],_=>rfl
 |j::js,x::xs,h=>by rw[dC,iG (p:=(j,x)) (λe=>hk<|(show j=k from e)▸h j aO)];exact aAp hk λi hi=>h i<|aH _ hi
theorem aFk:∀ {ks:List (List Key)}{xs:List V}{n:Nat}{k:List Key}{x:V},ks.Nodup->ks[n]? =some k->xs[n]? =some x->jG (ks.zip xs) k=some x
 |[],_,n,_,_,_,h,_=>by simp at h
 |_::_,[],n,_,_,_,_,h=>by simp at h
 |j::js,y::ys,0,k,x,nd,h1,h2=>by
  have e1:=by simpa using h1
  have e2:=by simpa using h2
  rw[dC,jW e1,e2]
 |j::js,y::ys,n+1,k,x,nd,h1,h2=>by obtain⟨nj,nd⟩:=bY.mp nd;rw[dC,iG (p:=(j,y)) (λe=>nj<|(show j=k from e)▸bC h1)];exact aFk nd h1 h2
theorem zD:∀ {sd:List Slot}{i:Nat}{z:Slot},(cS sd).Nodup->sd[i]? =some z->(iM z).Nodup
 |[],_,_,_,e=>by simp at e
 |y::zs,0,z,h,e=>by
  have:=by simpa using e
  subst this;exact(bK.mp<|h).1
 |y::zs,i+1,z,h,e=>zD (bK.mp<|h).2.1 (by simpa using e)
variable {ks:List (List Key)}
def StF.setT(S:StF K H₀ F H σ sd)(i:Nat)(q:eF K F H (.ox as G) (some v))(nd:as.Nodup)(no:∀a∈as,a∉cS sd):StF K H₀ F H (σ.set i (some v)) (sd.set i<|.ox as G):=
 ⟨S.base,S.sub,S.smp,S.slots.set q i,(jB (z:=.ox as G) i S.nd (λl e=>.inl<|no l e) nd).1⟩
def StF.reT{o:Option V}(S:StF K H₀ F H σ sd)(hs:sd[i]? =some z)(ho:σ[i]? =some o)(keep:∀b ob,b∉iM z->H b=some ob->H' b=some ob)(sm:Smp H')(q:eF K F H' z' o)(nd:(iM z').Nodup)(no:∀a∈iM z',a∈iM z\/a∉cS sd):StF K H₀ F H' σ (sd.set i z'):=by
 have S0:=S.le<|gK sd i;have mz:∀a∈iM z,a∈cS sd:=λa ha=>dZ.mpr ⟨z,bC hs,ha⟩
 refine⟨S.base,λb u e=>?_,sm,?_,?_⟩
 ·refine keep b u (λhb=>?_)<|S.sub _ _ e;have:=(S.slots.owns<|mz b hb).1;rw[e] at this;cases this
 ·have q1:=S0.slots.mono (Same.refl _) λa ha=>⟨(S0.slots.owns ha).1,λob e=>keep a ob (λhb=>gR S.nd hs hb ha) e⟩
  have q2:=q1.set q i;rw[jX,mK ho] at q2;exact q2
 ·have:=jB i S0.nd (fun a ha=>by
   rcases no a ha with h|h
   ·exact .inl<|gR S.nd hs h
   ·exact .inl λhm=>h ((gK sd i).own.subset hm)) nd
  rw[jX] at this;exact this.1
def oI{o:BI}(h:Smp H)(a:BF):Smp (upd H a<|exO a o):=λb u e=>by
 by_cases z:b=a
 ·subst z;rw[bH] at e;cases e;trivial
 ·rw[aW z] at e;exact h _ _ e
variable {k:List Key}
def aKZ:BI:={cls:=.type "dict",data:=.dict #[]}
def aCt:PE X (.Dict [] [] pos) (λ_ H Q=>∀p,H p=none->(p==Aa)=false->Q (.ref p) (upd H p<|exO p aKZ)):=λza s σ H Q I h=>wpAny_Dict_empty ⟨.ref s.heap.objs.size,_,I.laid (λ_ _ q=>aD _ q) (aQ _) (pU<|bO _ rfl),rfl,h _ (I.hok.fresh<|aQ _)<|beq_eq_false_iff_ne.mpr (Ne.symm<|bR I.big)⟩
section
variable {prog:AD}{w:AL}{K:Type}[DecidableEq K]{knd:HeapKind prog w K}{A:BG}{E:BD->BE->Prop}{s:BE}
theorem rD{d a:BF}{xs:List (K×BF×BD)}{k:K}{v:BD}(hu:knd.room A)(hkey:knd.is s.heap k a)(hm:s.heap.DictOfH knd d xs)(hold:∀u,(atKey xs k).map (·.2)=some u->Q u {s with toks:=s.toks+knd.draws k})(hnew:atKey xs k=none->∀h',h'.DictOfH knd d (storedH xs k a v)->Heap.SameBut d s.heap h'->Q v {s with heap:=h',toks:=s.toks+knd.draws k})(hsz:xs.length<=AJ):AK (AG prog w) A (dictSetDefault d (.ref a) v) Q E s:=by
 obtain⟨o,es,ep,ho,hc,hd,he,his,hn⟩:=hm;unfold dictSetDefault
 try with_reducible refine AY ?_
 refine AA<|knd.pyHash hu hkey ?_;refine AA<|wpAny_dictFind_heap hu hkey ho hd he his hn ?_ ?_
 ·intro hno;have hnot:=not_mem_keys_of_get hno
  refine AA (BB (AA (wpAny_updateDictKeys (hz:=by have e:=Ax he; lia) ho hd (AC (hnew (atKey_none_of_get hno) _ ⟨_,_,ep+1,gJ _ ho (Obj.isFreed_of_dict (Obj.data_mapDictKeys hd _)),
   hc.mapDictKeys _,Obj.data_mapDictKeys hd _,?_,?_,?_⟩ (Heap.SameBut.update ..))))))
  ·rw[storedH_new<|atKey_none_of_get hno];simp[he,entryOfKey]
  ·rw[storedH_new<|atKey_none_of_get hno];intro x hx
   rcases aV.mp hx with hx|hx
   ·exact knd.keeps (his x hx) ho hd<|Heap.SameBut.update ..
   ·simp at hx;subst hx;exact knd.keeps hkey ho hd<|Heap.SameBut.update ..
  ·rw[storedH_new<|atKey_none_of_get hno];rw[aX,bK];refine⟨hn,by simp,?_⟩;intro x hx y hy;simp at hy;subst hy;exact λe=>hnot<|e▸hx
 ·intro j p hj;refine AA<|Ap ho hd ?_;rw[entry_at he j,hj];have:=hold p.2 (by rw[atKey_of_get hn hj];rfl);exact AA (BB<|AC this)
end
section
variable {prog:AD}{w:AL}{K:Type}[DecidableEq K](knd:HeapKind prog w K)(d a:BF)
def tE(hd:(d==Aa)=false)(dflt:BD):MeetsIn prog w (Builtin.«dict.setdefault» ⟨[.ref d, .ref a,dflt],[]⟩) (fun A R s=>knd.room A.in1∧∃k xs,knd.is s.heap k a∧s.heap.DictOfH knd d xs∧xs.length≤AJ∧
   (∀u,(atKey xs k).map (·.2)=some u->R (.ok<|.ret u) {s with toks:=s.toks+knd.draws k})/\
   (atKey xs k=none->∀h',h'.DictOfH knd d (storedH xs k a dflt)->Heap.SameBut d s.heap h'->R (.ok (.ret dflt)) {s with heap:=h',toks:=s.toks+knd.draws k})):=
 .of_wp λA R s ⟨hu,k,xs,hkey,hm,hz,h1,h2⟩=>by refine AA ?_;refine AA<|Az hm.typeIs ?_;refine AC ?_;show AK _ _ (if(d==Aa)=true then _ else(dictSetDefault d (.ref a) dflt>>=_)) _ _ s;rw[zr<|by rw[hd];exact bM];exact AA<|rD (hsz:=hz) hu hkey hm (λv hv=>AC ⟨v,rfl,h1 v hv⟩) λhn h' hm' hs'=>AC ⟨dflt,rfl,h2 hn h' hm' hs'⟩
end
section
variable {X:Cx}{o e:Expr}{es:List Expr}{to:TE}{t:TA}{name:Str}{apos cpos:Pos}{id:String}{r:V->List V->Hp->VK->Prop}
def aOm(pa:PlainAttrs "dict")(slot:PySem.Slot "dict" name id)(hty:typeOf (.builtin id)=pure (.type "method_descriptor"))(hm:MtR X id r)(ho:PE X o to)(ha:PA X (e::es) t)(hbase:Ag o name X.env (eval o X.env)=eval o X.env:=by rfl)(hfew:((AV cpos (AB (e::es) X.env)).all (fun x=> !x.1) && (backToKw cpos (keywordEach [] X.env)).all (fun x=>x.1.isSome)
  &&decide ((e::es).length+([]:List Keyword).length+(if([]:List Keyword).isEmpty then 0 else 1)<30))=true:=by rfl)
  (hline:(apos.endLine==cpos.line)=true:=by rfl) (hs:AB (e::es) X.env=(false,eval e X.env)::AB es X.env:=by rfl) (hplain:(AV cpos<|AB es X.env).any (·.1)=false:=by rfl):
  PE X (.Call (.Attribute o name apos) (e::es) [] cpos) (λσ H Q=>to σ H λx H1=>(∃l ob,x=.ref l/\H1 l=some (exO l ob)/\ob.ExactDict)/\t σ H1 λxs H2=>r x xs H2 Q):=by
 intro za s σ H Q I h;refine wpAny_Call_method_late hbase hfew hline rfl<|thn (ho za s σ H _ I h) λv s1 ⟨x,H1,I1,r1,⟨l,ob,e1,e2,e3⟩,q1⟩=>?_;subst e1;obtain rfl:v=Value.ref l:=r1;have hg:=(I1.hok l _ e2).1;refine⟨"dict",id,pa,slot,hty,⟨ob,hg,e3.1⟩,λa q=>?_,?_⟩
 ·cases q;exact⟨ob,hg,e3.2.1⟩
 have hA:=ha cpos za s1 σ H1 _ I1 q1;rw[hs] at hA ⊢;refine Calls.callWith_builtin (by show(false||(AV cpos<|AB es X.env).any (·.1))=false;rw[hplain]<;>rfl)<|Calls.evalArgs_plain ?_;exact thn hA λus s2 ⟨vs,H2,I2,r2,q2⟩=>hm za s2 σ H2 (.ref l) vs (.ref l) us Q I2 rfl r2 q2
def rSD(X:Cx):V->List V->Hp->VK->Prop:=λx vs H Q=>∃ (F:Hp) (l ad:BF) (k:List Key) (y:V) (o:BI) (kvs:List (List Key×V)),x=.ref l/\vs=[.ref ad,y]/\Same F H/\H l=some (exO l o)/\F ad=some (.tup<|k.map kV)/\X.A.units+1<AR/\
 TDo X.prog X.w F l o kvs/\kvs.length+1<=AJ/\(∀z,jG kvs k=some z->Q z H)/\(jG kvs k=none->∀o',(∀v,o'.data≠ .cell v)->TDo X.prog X.w F l o' (kvs++[(k,y)])->Q y (upd H l<|exO l o'))
set_option tactic.hygienic true in
def aRc:MtR X "dict.setdefault" (rSD X):=by
 intro za s σ H x vs v us Q I rx rv h;obtain⟨F,l,ad,k,y,o,kvs,rfl,rfl,sF,hl,ha,hu,⟨z,hm,ts,kt,es,ep,t1,t2,t3,t4⟩,hz1,q1,q2⟩:=h;obtain rfl:v=Value.ref l:=rx;cases rv with
 |cons r1 rv=>
  obtain⟨u,rfl,ru⟩:=Vals.one rv;rename_i b;obtain rfl:b=Value.ref ad:=r1;have ho:=(I.hok l _ hl).1;have ktH:=kt.keeps λb ys e=>sF _ _ e
  have dd:s.heap.DictOfH (Ak<|fA X.prog X.w) l ts:=⟨o,es,ep,ho,t1,t2,t3,KT.all I.hok ktH,t4⟩;have hz:ts.length<=AJ:=by rw[<-Paired.length kt];exact z
  refine call_meetsIn wF dd.typeIs PySem.F.entry_dict_setdefault (PySem.F.args_dict_setdefault_3 _ _ _) (tE (Ak<|fA X.prog X.w) l ad hm u) ⟨Af hu,k,ts,nJ I.hok<|sF _ _ ha,dd,hz,λw' hw=>?_,λhn h' dd' hsm=>?_⟩
  ·have rl:=ktH.val k;rw[hw] at rl;cases hv:jG kvs k with
   |none=>rw[hv] at rl;cases rl
   |some z'=>rw[hv] at rl;exact⟨z',H,I.tok _,rl,q1 z' hv⟩
  ·have hn':jG kvs k=none:=by
    have rl:=ktH.val k;rw[hn] at rl;cases hv:jG kvs k with
    |none=>rfl
    |some z'=>rw[hv] at rl;cases rl
   obtain⟨q,es',ep',hq,u2,u3,u4,_,u5⟩:=dd';have I4:=qK (t':=s.toks+(Ak<|fA X.prog X.w).draws k) I (by rw[hl];exact True.intro) hsm ⟨q,hq⟩<|pU hq;have kt':=kt.put k ha ru;rw[tH y hn'] at kt';exact⟨y,_,I4,ru,q2 hn' q (λv z=>by rw[u3] at z;cases z) ⟨by rw[aP];exact hz1,hm,_,kt',es',ep',u2,u3,u4,u5⟩⟩
end
def Gg(P:AD)(w:AL)(K:aB)(l:BF)(ks:List (List Key))(ls:List BF)(dss:List (List D)):V->Hp->Hp->Prop:=λv F H=>v=.ref l/\(∃o,H l=some (exO l o)/\(∀v,o.data≠ .cell v)/\ks.length=ls.length/\TDo P w F l o (ks.zip<|ls.map V.ref))/\InD K F H ls dss
noncomputable def odG(P:AD)(w:AL)(K:aB)(l:BF)(ks:List (List Key))(ls:List BF)(dss:List (List D)):Slot:=.ox (l::ls)<|Gg P w K l ks ls dss
noncomputable def goR(P:AD)(w:AL)(K:aB)(ks:List (List Key))(dss:List (List D)):R:=.ox λv as F H=>∃l ls,as=l::ls/\Gg P w K l ks ls dss v F H
def Gf(P:AD)(w:AL)(K:aB)(ks:List (List Key))(ds:List D):V->Hp->Hp->Prop:=λv F _=>∃l o xs,v=.ref l/\F l=some (exO l o)/\RepL K F ds xs/\ks.length=ds.length/\TDo P w F l o (ks.zip xs)
noncomputable def odF(P:AD)(w:AL)(K:aB)(ks:List (List Key))(ds:List D):Slot:=.ox []<|Gf P w K ks ds
theorem aAg:∀ {ks:List (List Key)}{xs:List V}{k:List Key}{z:V},jG (ks.zip xs) k=some z->∃n:Nat,ks[n]? =some k/\xs[n]? =some z
 |[],_,_,_,h=>by cases h
 |_::_,[],_,_,h=>by cases h
 |j::js,y::ys,k,z,h=>by
  rw[dC] at h
  by_cases e:j=k
  ·rw[jW e] at h;exact⟨0,by simp[e],by simpa using h⟩
  ·rw[iG e] at h;obtain⟨n,h1,h2⟩:=aAg h;exact⟨n+1,by simpa using h1,by simpa using h2⟩
theorem aFu:∀ {ks:List (List Key)}{xs:List V}{k:List Key},ks.length=xs.length->jG (ks.zip xs) k=none->k∉ks
 |[],_,_,_,_=>by simp
 |_::_,[],_,h,_=>by cases h
 |j::js,y::ys,k,hl,h=>by
  rw[dC] at h
  by_cases e:j=k
  ·rw[jW e] at h;cases h
  ·rw[iG e] at h;have:=aFu (Nat.succ.inj hl) h;exact λhm=>(bL.mp hm).elim (λq=>e q.symm) this
def aGb(h:sd[i]? =some z):sd.set i z=sd:=by obtain⟨hi,e⟩:=aF.mp h;rw[<-e,qY]
def iO(S:StF K H₀ F H σ sd)(hs:sd[i]? =some (odG P w K l ks ls dss)):σ[i]? =some (some<|.ref l)/\(∀a∈l::ls,F a=none)/\(∃o,H l=some (exO l o)/\(∀v,o.data≠ .cell v)/\ks.length=ls.length/\TDo P w F l o (ks.zip<|ls.map V.ref))/\InD K F H ls dss/\(l::ls).Nodup:=by
 obtain⟨o,h1,v,h2,h3,h4⟩:=S.slots.get hs;obtain⟨e,q1,q2⟩:=h4 F H (Same.refl _) λ_ _ _ q=>q
 subst e h2;exact⟨h1,λa ha=>(h3 a ha).1,q1,q2,zG S.nd hs⟩
def zA{o:BI}(hF:∀a∈l::ls,F a=none)(h1:H l=some (exO l o))(nc:∀v,o.data≠ .cell v)(hl:ks.length=ls.length)(t:TDo P w F l o (ks.zip<|ls.map V.ref))(h2:InD K F H ls dss):eF K F H (odG P w K l ks ls dss) (some<|.ref l):=by
 refine⟨.ref l,rfl,λa ha=>⟨hF a ha,?_⟩,λF' H' s k=>⟨rfl,⟨o,k _ aO _ h1,nc,hl,t.mono s⟩,h2.mono2 s λa ha=>k a<|aH _ ha⟩⟩
 rcases bL.mp ha with rfl|ha
 ·exact⟨_,h1,o,rfl,nc⟩
 ·obtain⟨xs,e⟩:=h2.of a ha;exact⟨.lst xs,e,trivial⟩
def StF.wrG{a:BF}{es:List D}(S:StF K H₀ F H σ sd)(hs:sd[i]? =some (odG P w K l ks ls dss))(ht:ls[t]? =some a)(r:RepL K F es ys):StF K H₀ F (upd H a<|.lst ys) σ (sd.set i (odG P w K l ks ls<|dss.set t es)):=by
 obtain⟨g1,g2,⟨o,g3,nc,hl,td⟩,g4,g5⟩:=iO S hs;obtain⟨n1,n2⟩:=bY.mp g5;have ma:=bC ht
 refine S.reX hs g1 (fun b ob hb q=>?_) (aNp S.smp a) (zA g2 (by
  rw[aW (show l≠a from λz=>n1<|z▸ma)]
  exact g3) nc hl td (g4.set n2 ht r)) g5 λb hb=>.inl hb
 rw[aW (show b≠a from λz=>hb<|z▸aH _ ma)];exact q
def InD.snoc{a:BF}:∀ {as:List BF}{dss:List (List D)},InD K F H as dss->H a=some (.lst [])->InD K F H (as++[a]) (dss++[[]])
 |[],[],_,e=>⟨⟨[],e,.nil⟩,trivial⟩
 |[],_::_,h,_=>h.elim
 |_::_,[],h,_=>h.elim
 |_::_,_::_,h,e=>⟨h.1,InD.snoc h.2 e⟩
def StF.newG{a:BF}{o:BI}(S:StF K H₀ F H σ sd)(hs:sd[i]? =some (odG P w K l ks ls dss))(fa:F a=none)(ha:H a=some (.lst []))(na:a∉cS sd)(nc:∀v,o.data≠ .cell v)(td:TDo P w F l o (ks.zip (ls.map V.ref)++[(k,.ref a)])):StF K H₀ F (upd H l<|exO l o) σ (sd.set i (odG P w K l (ks++[k]) (ls++[a])<|dss++[[]])):=by
 obtain⟨g1,g2,⟨o',g3,nc',hl,_⟩,g4,g5⟩:=iO S hs;obtain⟨n1,n2⟩:=bY.mp g5;have ml:∀b∈l::ls,b∈cS sd:=λb hb=>dZ.mpr ⟨_,bC hs,hb⟩
 have al:a≠l:=λz=>na<|z▸ml l aO
 have als:=λz=>na (ml a<|aH _ z)
 have sp:∀b,b∈l::(ls++[a])->b∈l::ls\/b=a:=λb hb=>by
  rcases bL.mp hb with h|h
  ·exact .inl<|h▸aO
  ·rcases aV.mp h with h|h
   ·exact .inl<|aH _ h
   ·exact .inr<|aK.mp h
 refine S.reX hs g1 (λb ob hb q=>?_) (oI S.smp l) (zA (λb hb=>?_) bH nc (by rw[aP,aP,hl];rfl) ?_ ?_) ?_ λb hb=>?_
 ·rw[aW (show b≠l from λz=>hb<|z▸aO)];exact q
 ·rcases sp b hb with h|rfl
  ·exact g2 b h
  ·exact fa
 ·rw[aX,cA,gB,vD<|by rw[aC];exact hl];exact td
 ·refine InD.snoc (g4.mono2 (Same.refl _) λb hb ob q=>?_) ?_
  ·rw[aW (show b≠l from λz=>n1<|z▸hb)];exact q
  ·rw[aW al];exact ha
 ·refine bY.mpr ⟨λh=>?_,bK.mpr ⟨n2,by simp,λb hb c hc e=>als<|aK.mp hc▸e▸hb⟩⟩
  rcases aV.mp h with h|h
  ·exact n1 h
  ·exact al (aK.mp h).symm
 ·rcases sp b hb with h|rfl
  ·exact .inl h
  ·exact .inr na
def aAo(i:Nat)(hN:X.N.Nodup)(hi:X.N[i]? =some x)(hx:Loc X.env.scope x)(hE:∀l,E.nx (sd.set i<|odG X.prog X.w X.K l [] [] []))(hs:Ab (.Dict [] [] p2) (some<|.Name x p) pos.line X.env=pure false:=by rfl)(hf:X.fn x=true\/X.env.scope.names.lookup x=some .local:=by first|exact .inl rfl|exact .inr rfl|assumption):PSd1 X sd (.Assign [.Name x p] (.Dict [] [] p2) pos) E:=.mk λσ F H S=>
 (rP hN hi hx aCt hs hf).to λq hq hm=>by
  have fp:=S.sub.free hq
  have no:q∉cS sd:=λhl=>by obtain⟨_,ob,h,_⟩:=S.slots.owns hl;rw[hq] at h;cases h
  have S1:StF X.K X.B₀ F (upd H q<|exO q aKZ) σ sd:=by
   refine⟨S.base,λb u e=>?_,oI S.smp q,S.slots.mono (Same.refl _) λl hl=>?_,S.nd⟩
   ·rw[aW<|cC e fp];exact S.sub _ _ e
   ·obtain⟨n,ys,y,_⟩:=S.slots.owns hl;have hne:=cC y hq;exact⟨n,λys e=>by rw[aW hne];exact e⟩
  refine⟨_,F,S1.setT i (zA (ls:=[]) (dss:=[]) (λa ha=>by rw[aK.mp ha];exact fp) bH (λv z=>by cases z) rfl ⟨bQ _,hm,[],.nil, #[],0,⟨rfl,rfl,rfl⟩,rfl,rfl,cQ⟩ trivial) (by simp) λa ha=>?_,Same.refl _,hE q⟩;rw[aK.mp ha];exact no
theorem aAu(i:Nat)(hu:X.A.units+1<AR)(hs:sd[i]? =some (odG X.prog X.w X.K l ks ls dss))(hx:PE X (.Name x p) (iQ i))(hb:PEd X sd b (.val (.tup<|k.map kD)))(h:∀z,PEd X (sd.set i z) e<|.val d)(hl:dss.length<=10000)(hl2:∀ds∈dss,ds.length<=10000)(hE1:∀n ds,ks[n]? =some k->dss[n]? =some ds->E.nx (sd.set i<|odG X.prog X.w X.K l ks ls (dss.set n<|ds++[d])))(hE2:k∉ks->∀a,E.nx<|sd.set i (odG X.prog X.w X.K l (ks++[k]) (ls++[a])<|dss++[[d]]))(hm:PE X (.Call (.Attribute (.Call (.Attribute (.Name x p) "setdefault" ap1) [b, .List [] p5] [] cp1) "append" ap) [e] [] cp) (tBM X.K "list" wP (λσ H Q=>iQ i σ H λx H1=>(∃l ob,x=.ref l/\H1 l=some (exO l ob)/\ob.ExactDict)/\(qC (wE X b) (qC (wE X (.List [] p5)) aHw)) σ H1 λxs H2=>rSD X x xs H2 Q) (qC (wE X e) aHw)):=by exact aLp oP aAa aAb aAC (aOm aAR wF PySem.F.type_dict_setdefault aRc (pv _) (cO eO (cO eO pa_nil))) (cO eO pa_nil))(hsw:Ab (.Call (.Attribute (.Call (.Attribute (.Name x p) "setdefault" ap1) [b, .List [] p5] [] cp1) "append" ap) [e] [] cp) none pos.line X.env=pure false:=by rfl):PSd1 X sd (.Expr (.Call (.Attribute (.Call (.Attribute (.Name x p) "setdefault" ap1) [b, .List [] p5] [] cp1) "append" ap) [e] [] cp) pos) E:=.mk λσ F H S=>
 (wM hm hsw).to (by
  obtain⟨h1,h2,⟨o,h3,nc,hk,td⟩,h4,h5⟩:=iO S hs;have il:=(aF.mp hs).1
  have fin:∀ (F2 H2:Hp) (ks2:List (List Key)) (ls2:List BF) (dss2:List (List D)) (n:Nat) (ad:BF) (ds:List D),StF X.K X.B₀ F2 H2 σ (sd.set i<|odG X.prog X.w X.K l ks2 ls2 dss2)->Same F F2->ls2[n]? =some ad->dss2[n]? =some ds->ds.length<=10000->E.nx (sd.set i<|odG X.prog X.w X.K l ks2 ls2 (dss2.set n<|ds++[d]))->
    tyV X.K "list" (.ref ad) H2/\(qC (wE X e) aHw) σ H2 λxs H3=>wP (.ref ad) xs H3 λ_ H4=>(lft X F E).nx σ H4:=λF2 H2 ks2 ls2 dss2 n ad ds S2 s2 hn hd hdl hE=>by
   have hs2:(sd.set i<|odG X.prog X.w X.K l ks2 ls2 dss2)[i]? =some (odG X.prog X.w X.K l ks2 ls2 dss2):=iK il;obtain⟨g1,g2,_,g4,g5⟩:=iO S2 hs2;obtain⟨ds',xs,e1,e2,e3⟩:=g4.get hn;refine⟨.inl ⟨rfl,xs,.of e2⟩,(h _ σ F2 H2 S2).imp λv H3 ⟨F3,S3,s3,q3⟩=>?_⟩;obtain⟨f1,f2,_,f4,f5⟩:=iO S3 hs2;obtain⟨ds3,xs3,u1,u2,u3⟩:=f4.get hn;rw[hd] at u1;cases u1;have W:=S3.wrG hs2 hn (u3.app<|.one q3);rw[jX] at W;exact⟨ad,xs3,v,rfl,rfl,u2,by rw[u3.len] ;exact eY hdl,_,F3,W,s2.trans s3,hE⟩
  refine⟨.ref l,h1,⟨l,o,rfl,h3,td.2.2.choose_spec.2.choose_spec.choose_spec.1⟩,(hb σ F H S).imp λv1 H1 ⟨F1,S1,s1,q1⟩=>((lH aE (bQ _):PEd X sd (.List [] p5) (.own [])) σ F1 H1 S1).imp λv2 H2 ⟨F2,S2,s2,q2⟩=>?_⟩;obtain⟨g1,g2,⟨o2,g3,nc2,hk2,td2⟩,g4,g5⟩:=iO S2 hs;obtain⟨ad,ys,rfl,ha,rl⟩:=q1;rw[pS rl] at ha;obtain⟨a,xs,rfl,fa,ha2,rl2,na⟩:=q2;have xn:=iH (by rw[rl2.len];rfl);subst xn;have zl:(ks.zip<|ls.map V.ref).length=dss.length:=by rw[mD,aC,<-hk2,qH,hk2,g4.len]
  refine⟨F2,l,ad,k,.ref a,o2,ks.zip<|ls.map V.ref,rfl,rfl,S2.sub,g3,s2 _ _ ha,hu,td2,by have:=eY hl;lia,λz hz=>?_,λhz o' nc' td'=>?_⟩
  ·obtain⟨n,e1,e2⟩:=aAg hz;rw[bE] at e2;obtain⟨an,e3,rfl⟩:=eV.mp e2;obtain⟨ds,xs,d1,d2,d3⟩:=g4.get e3;have S2':StF X.K X.B₀ F2 H2 σ (sd.set i<|odG X.prog X.w X.K l ks ls dss):=by rw[aGb hs];exact S2
   exact fin F2 H2 ks ls dss n an ds S2' (s1.trans s2) e3 d1 (hl2 ds<|bC d1)<|hE1 n ds e1 d1
  ·have S3:=S2.newG hs fa ha2 na nc' td';have hE:=hE2 (aFu (by rw[aC];exact hk2) hz) a;have en:(dss++[[]]).set dss.length ([]++[d])=dss++[[d]]:=by simp
   exact fin F2 _ (ks++[k]) (ls++[a]) (dss++[[]]) dss.length a [] S3 (s1.trans s2) (by rw[<-g4.len];simp) (by simp) (bQ _) (by rw[en];exact hE))
def aIJ(i:Nat)(hs:sd[i]? =some (.ox as G))(hx:PE X (.Name x p) (iQ i))(hG:∀v F H,G v F H->G' v as F H)(hE:E.rt (.ox G')):PSd1 X sd (.Return (some<|.Name x p) pos) E:=.mk λσ F H S=>
 (rN hx).to (by
  obtain⟨o,h1,v,h2,h3,h4⟩:=S.slots.get hs
  exact⟨v,by rw[h1,h2],.ox G',⟨F,S.base,S.sub,S.smp,as,zD S.nd hs,λl hl=>⟨(h3 l hl).1,(h3 l hl).2,by simp[cS]⟩,λF' H' s k=>hG _ _ _ (h4 F' H' s k)⟩,hE⟩)
theorem aGy(i:Nat)(hN:X.N.Nodup)(hi:X.N[i]? =some x)(hx:Loc X.env.scope x)(h:PEd X sd e (goR X.prog X.w X.K ks dss))(hE:E.nx (sd.set i (odF X.prog X.w X.K ks<|dss.map D.lst)))(hs:Ab e (some<|.Name x p) pos.line X.env=pure false:=by rfl)(hf:X.fn x=true\/X.env.scope.names.lookup x=some .local:=by first|exact .inl rfl|exact .inr rfl|assumption):PSd1 X sd (.Assign [.Name x p] e pos) E:=.mk λσ F H S=>
 (rP hN hi hx eO hs hf).to ((h σ F H S).imp fun v H' ⟨F',S',s',as,nd,q,g⟩=>by
  obtain⟨l,ls,rfl,rfl,⟨o,g1,nc,hk,td⟩,g2⟩:=g F' H' (Same.refl _) λ_ _ _ z=>z
  obtain⟨S2,s2⟩:=S'.inN (λa ha=>(q a ha).1) λa ha=>(q a ha).2.2
  have r2:=aFR (g2.mono2 s2 fun a ha ob e=>by
   rw[aEq<|aH _ ha]
   exact e)
  have f1:(inF F' H' (l::ls)) l=some (exO l o):=by rw[aEq aO];exact g1
  refine⟨_,_,S2.setX (as:=[]) i ⟨.ref l,rfl,λa ha=>(nomatch ha),λF2 H2 s3 _=>⟨l,o,ls.map V.ref,rfl,s3 _ _ f1,r2.mono s3,by rw[aC,hk,g2.len],(td.mono s2).mono s3⟩⟩ cQ λa ha=>(nomatch ha),s'.trans s2,hE⟩)
theorem aJn(i:Nat){n:Nat}(hu:X.A.units+1<AR)(hs:sd[i]? =some (odF X.prog X.w X.K ks ds))(hx:PE X (.Name x p) (iQ i))(hb:PEd X sd b (.val (.tup<|k.map kD)))(hn:ks.Nodup)(hk:ks[n]? =some k)(hd:ds[n]? =some d)(hsl:aQl b):PEd X sd (.Subscript (.Name x p) b pos) (.val d):=.mk λσ F H S za s I=>by
 obtain⟨ov,h1,v0,h2,_,h4⟩:=S.slots.get hs;obtain⟨l,o0,xs0,rfl,_⟩:=h4 F H (Same.refl _) λ_ _ _ q=>q
 subst h2;refine aEZ zQ.lookup hsl<|thn (hx za s σ H (λv H1=>v=.ref l/\H1=H) I ⟨.ref l,h1,rfl,rfl⟩) λu s1 ⟨y,H1,I1,ry,e1,e2⟩=>?_;subst e1 e2;obtain rfl:u=Value.ref l:=ry;refine thn (hb σ F H1 S za s1 I1) λiv s2 ⟨y,H2,I2,ry,F2,S2,sF,q2⟩=>?_
 obtain⟨ov,j1,v1,j2,_,j4⟩:=S2.slots.get hs;obtain⟨l',o,xs,el,g3,g4,g5,z,hm,ts,kt,es,ep,t1,t2,t3,t4⟩:=j4 F2 H2 (Same.refl _) λ_ _ _ q=>q
 subst j2 el;rw[h1] at j1;cases j1;obtain⟨ad,ys,rfl,ha,rl⟩:=q2;rw[pS rl] at ha;obtain rfl:iv=Value.ref ad:=ry;have ho:=(I2.hok l _<|S2.sub _ _ g3).1;have ktH:=kt.keeps λb ys e=>S2.sub _ _ e
 have dd:s2.heap.DictOfH (Ak<|fA X.prog X.w) l ts:=⟨o,es,ep,ho,t1,t2,t3,KT.all I2.hok ktH,t4⟩;obtain⟨v,hv,rv⟩:=g4.get hd;obtain⟨w',hw,rw'⟩:=RelO.some_of (by rw[<-aFk hn hk hv];exact ktH.val k);obtain⟨pr,hp,hp2⟩:=eV.mp hw;refine⟨dd.typeIs,wpAny_getItem_heap (Af hu) (nJ I2.hok<|S2.sub _ _ ha) dd hp ?_⟩;rw[hp2];exact⟨v,H2,I2.tok _,rw',F2,S2,sF,rv⟩
noncomputable def zS(p:Int×Int)(ws:List Int):Nat:=(vW (2^p.1.toNat) ws).toNat
theorem aEF(hp:p∈bX)(G:Fil p ws):vW (2^p.1.toNat) ws=(zS p ws:Int)/\zS p ws<(bW p).length/\(bW p).getD (zS p ws) []=ws:=by have h:=aKB<|aOi p hp;obtain⟨a,b,c⟩:=aOZ h G.len G.wd;refine⟨by unfold zS;lia,?_,c⟩;show _<(jF _ _).length;rw[h.len];exact b
def aJR(hp:p∈bX)(hi:i<(bW p).length):zS p ((bW p).getD i [])=i:=by
 have h:=aKB<|aOi p hp;have hi':i<2^(p.1.toNat*p.2.toNat):=by rw[<-h.len];exact hi
 have:=(h.at_ i hi').2.2.1;show(vW (2^p.1.toNat)<|(jF (2^p.1.toNat) p.2.toNat).getD i []).toNat=i;rw[this];exact eD i
def aKm(hp:p∈bX)(S:StkOk p L)(h:∀t∈row,t<L.length):tF p (tabQ p L row):=⟨aCZ p L row,aDb hp S h⟩
def aQH(A:BG)(s:BE)(x y:BD)(b:Bool):Prop:=∀ (prog:AD) (w:AL) (E:BD->BE->Prop) (Q:BD->BE->Prop),Q (.bool b) s->AK (AG prog w) A (richCompare .Lt x y) Q E s
inductive aHv(A:BG)(s:BE)(fin:Bool):List (BD×BD)->Bool->Prop
 |nil:aHv A s fin [] fin
 |eq {x y:BD}{r:List (BD×BD)}{b:Bool}:SeqAt.EqAt A.in1 s x y true->aHv A s fin r b->aHv A s fin ((x,y)::r) b
 |lt {x y:BD}{r:List (BD×BD)}{b:Bool}:SeqAt.EqAt A.in1 s x y false->aQH A.in1 s x y b->aHv A s fin ((x,y)::r) b
section
open PySem.SeqAt
open PySem.AutoSeq1 (wpAny_loadPart')
open PySem.MeetsSeq PySem.MeetsSeq2 PySem.MeetsSeq3
theorem aAI(l b:BF)(items items2:Array BD)(n n2:Nat)(dd dd2:Option BF)(sl sl2:Array (Option BD))(res:Bool):Meets (Builtin.«tuple.__lt__» ⟨[.ref l,.ref b],[]⟩)
   (fun A R s=>s.heap.get? l=some {cls:= .type "tuple",dict:=dd,data:= .seq items n,slots:=sl}∧s.heap.get? b=some {cls:= .type "tuple",dict:=dd2,data:= .seq items2 n2,slots:=sl2}∧
    aHv A s (decide (items.size<items2.size)) (items.toList.zip items2.toList) res/\R (.ok (.ret (.bool res))) s):=
 .of_wp λprog w A R s h=>by
  obtain⟨hp,g,d,tk,os⟩:=s;obtain⟨hl,hb,hx,h⟩:=h;have f2:=AutoSeq1.sub_tuple_tuple
  wp_walk using wpAny_loadPart' hl,wpAny_loadPart' hb,wpAny_forIn_list _ (λrest b s'=>b.1=none/\s'=⟨hp,g,d,tk,os⟩/\aHv A ⟨hp,g,d,tk,os⟩ (decide<|items.size<items2.size) rest res) _
  case turn=>
   rintro⟨y,x⟩ rest b s' ⟨hb',rfl,hv⟩;cases hv with
   |eq he hr=>
    refine AA<|he prog w _ _ ?_
    wp_walk
    exact⟨rfl,rfl,hr⟩
   |lt he hlt=>
    refine AA<|he prog w _ _ ?_;have hri:=hlt prog w
    wp_walk using hri
    exact⟨_,rfl,by simpa using h⟩
  case fin=>
   rintro⟨b1,b2⟩ s' ⟨hb',rfl,hv⟩;subst hb';cases hv
   wp_walk
   exact⟨_,rfl,by simpa[Builtin.Tuple.tupleCompareSizes] using h⟩
  case h=>exact⟨rfl,rfl,hx⟩
def aDG{l b:BF}(hl:IsTup s.heap l items)(hb:IsTup s.heap b items2)(hx:aHv A s (decide<|items.size<items2.size) (items.toList.zip items2.toList) res)(hu:A.units<AR):aQH A s (.ref l) (.ref b) res:=λprog w E Q h=>by
 obtain⟨⟨cls,dd,data,sl⟩,ho,hc,n,hd⟩:=id hl;obtain⟨⟨cls2,dd2,data2,sl2⟩,ho2,hc2,n2,hd2⟩:=id hb;subst hc hd hc2 hd2
 exact richCompare_meets_room ⟨_,ho,rfl⟩ ⟨_,ho2,rfl⟩ PySem.F.slot_tuple_lt PySem.F.entry_tuple_lt (PySem.F.args_tuple_lt_2 _ _) (aAI l b items items2 n n2 dd dd2 sl sl2 res)
  ⟨ho,ho2,hx,⟨(λx=>nomatch x),h⟩⟩ hu
end
mutual
def dlt:D->D->Bool
 |.int a,.int b=>decide<|a<b
 |.tup a,.tup b=>rG a b
 |_,_=>false
def rG:List D->List D->Bool
 |[],[]=>false
 |[],_::_=>true
 |_::_,[]=>false
 |d::ds,e::es=>if deq d e=true then rG ds es else dlt d e
end
mutual
def uM:D->D->Bool
 |.int _,.int _=>true
 |.tup a,.tup b=>zT a b
 |_,_=>false
def zT:List D->List D->Bool
 |[],_=>true
 |_::_,[]=>true
 |d::ds,e::es=>uM d e&&zT ds es
end
mutual
theorem aKC(hok:HOk P w H s.heap):∀ (d:D) {d2:D}{v1 v2:V}{u1 u2:BD}{A:BG},uM d d2=true->pl d=true->pl d2=true->Rep K H d v1->Rep K H d2 v2->RelV v1 u1->RelV v2 u2->A.units+dep d<AR->aQH A s u1 u2 (dlt d d2)
 |.int a,d2,v1,v2,u1,u2,A,c,p1,p2,r1,r2,ru1,ru2,hu=>by
  cases d2 with
  |int b=>subst r1 r2;obtain⟨t,rfl⟩:=ru1;obtain⟨t2,rfl⟩:=ru2;exact λprog w E Q h=>(PyProof.Rows.lt_int h)
  |_=>simp[uM] at c
 |.tup ds,d2,v1,v2,u1,u2,A,c,p1,p2,r1,r2,ru1,ru2,hu=>by
  cases d2 with
  |tup es=>
   obtain⟨a,xs,its,rfl,rfl,rl,rv,ht⟩:=hW hok r1 ru1;obtain⟨b,ys,jts,rfl,rfl,rl2,rv2,ht2⟩:=hW hok r2 ru2;have l1:its.length=ds.length:=by rw[<-rv.length,rl.len]
   have l2:jts.length=es.length:=by rw[<-rv2.length,rl2.len]
   simp only[dep] at hu;refine aDG ht ht2 ?_ (by lia);exact aEA hok ds c p1 p2 rl rl2 rv rv2 (by lia) (by simp[l1,l2])
  |_=>simp[uM] at c
 |.non,d2,_,_,_,_,_,c,_,_,_,_,_,_,_=>by cases d2<;>simp[uM] at c
 |.bl _,d2,_,_,_,_,_,c,_,_,_,_,_,_,_=>by cases d2<;>simp[uM] at c
 |.str _,d2,_,_,_,_,_,c,_,_,_,_,_,_,_=>by cases d2<;>simp[uM] at c
 |.lst _,d2,_,_,_,_,_,c,_,_,_,_,_,_,_=>by cases d2<;>simp[uM] at c
 |.dic,d2,_,_,_,_,_,c,_,_,_,_,_,_,_=>by cases d2<;>simp[uM] at c
 |.dki _ _,d2,_,_,_,_,_,c,_,_,_,_,_,_,_=>by cases d2<;>simp[uM] at c
 |.any _,d2,_,_,_,_,_,c,_,_,_,_,_,_,_=>by cases d2<;>simp[uM] at c
 |.scr _,d2,_,_,_,_,_,c,_,_,_,_,_,_,_=>by cases d2<;>simp[uM] at c
theorem aEA(hok:HOk P w H s.heap):∀ (ds:List D) {es:List D}{xs ys:List V}{its jts:List BD}{A:BG}{fin:Bool},zT ds es=true->plL ds=true->plL es=true->RepL K H ds xs->RepL K H es ys->Vals xs its->Vals ys jts->A.units+1+lN ds<AR->fin=decide (ds.length<es.length)->aHv A s fin (its.zip jts) (rG ds es)
 |[],es,xs,ys,its,jts,A,fin,c,p1,p2,r1,r2,v1,v2,hu,hf=>by
  simp only[RepL] at r1;subst r1;cases v1;subst hf;rw[List.zip_nil_left];cases es with
  |nil=>exact .nil
  |cons e es=>
   have:rG [] (e::es)=decide (([]:List D).length<(e::es).length):=by simp[rG]
   rw[this];exact .nil
 |d::ds,[],xs,ys,its,jts,A,fin,c,p1,p2,r1,r2,v1,v2,hu,hf=>by
  simp only[RepL] at r2;subst r2;cases v2;subst hf;rw[List.zip_nil_right];have:rG (d::ds) []=decide ((d::ds).length<([]:List D).length):=by simp[rG]
  rw[this];exact .nil
 |d::ds,e::es,xs,ys,its,jts,A,fin,c,p1,p2,r1,r2,v1,v2,hu,hf=>by
  obtain⟨x,xs,rfl,a1,r1⟩:=r1.uncons;obtain⟨y,ys,rfl,a2,r2⟩:=r2.uncons;simp only[plL,bU] at p1 p2;simp only[zT,bU] at c;simp only[lN] at hu;cases v1 with
  |cons q1 v1=>
   cases v2 with
   |cons q2 v2=>
    rw[dC];have he:=vG (A:=A.in1) hok d p1.1 p2.1 a1 a2 q1 q2 (by show A.units+1+dep d<AR;lia);simp only[rG]
    by_cases z:deq d e=true
    ·rw[zt z];rw[z] at he;exact .eq he (aEA hok ds c.2 p1.2 p2.2 r1 r2 v1 v2 (by lia)<|by rw[hf];simp)
    ·rw[zr z];rw[vQ.mpr z] at he;exact .lt he (aKC (A:=A.in1) hok d c.1 p1.1 p2.1 a1 a2 q1 q2<|by show A.units+1+dep d<AR;lia)
end
section
variable {prog:AD}{w:AL}{A:BG}{E:BD->BE->Prop}{s:BE}
open HT
end
theorem aMZ(d:D)(ds:List D)(p1:pl d=true)(p2:plL ds=true)(hu:X.A.units+1+lN ds<AR):OpR X (AT .In) (λx y H Q=>Rep X.K H (.tup ds) y/\Rep X.K H d x/\Q (.bl<|ds.any λz=>deq z d) H):=by
 intro za s σ H x y v u Q I rx ry h;obtain⟨hl,hd,k⟩:=h;obtain⟨a,xs,its,rfl,rfl,rl,rv,ht⟩:=hW I.hok hl ry
 have hat:∀ (j:Nat) (w:BD),its[j]? =some w->∃z v,ds[j]? =some z/\xs[j]? =some v/\Rep X.K H z v/\RelV v w:=λj w hw=>by
  have hj:=(aF.mp hw).1;have hx:j<xs.length:=by rw[Vals.length rv];exact hj
  have hd:j<ds.length:=by rw[<-rl.len];exact hx
  obtain⟨v,hv,rz⟩:=rl.get (i:=j) (d:=ds[j]) (by simp[hd])
  exact ⟨ds[j],v,by simp [hd],hv,rz,by
   have:=rv.get hv;obtain⟨w',hw',r⟩:=this;rw[hw] at hw';cases hw'
   exact r⟩
 have dc:=λw=>Classical.propDecidable (∃ (j:Nat) (z:D),its[j]? =some w/\ds[j]? =some z/\deq z d=true)
 refine SeqAt.in_tupleAt (λw=> @decide _<|dc w) ht (λw hw=>?_) ⟨.bl _,H,I,rfl,?_⟩
 ·by_cases q:∃ (j:Nat) (z:D),its[j]? =some w/\ds[j]? =some z/\deq z d=true
  ·obtain⟨j,z,e1,e2,e3⟩:=q;obtain⟨z',v,f1,f2,f3,f4⟩:=hat j w e1;rw[e2] at f1;cases f1;have: @decide _ (dc w)=true:=by rw[decide_eq_true_eq];exact⟨j,z,e1,e2,e3⟩
   rw[this,<-e3];exact vG I.hok z (tV p2 e2) p1 f3 hd f4 rx (by have:=qE e2;show X.A.units+1+dep z<AR;lia)
  ·have hw':=by simpa using hw
   obtain⟨j,hj,rfl⟩:=eB hw';obtain⟨z,v,f1,f2,f3,f4⟩:=hat j its[j] (by simp[hj])
   have e3:deq z d=false:=by
    cases h:deq z d with
    |false=>rfl
    |true=>exact(q ⟨j,z,by simp[hj],f1,h⟩).elim
   have: @decide _ (dc its[j])=false:=by rw[decide_eq_false_iff_not];exact q
   rw[this,<-e3];exact vG I.hok z (tV p2 f1) p1 f3 hd f4 rx (by have:=qE f1;show X.A.units+1+dep z<AR;lia)
 ·have e:its.toArray.any (λw=> @decide _<|dc w)=ds.any λz=>deq z d:=by
   rw[gA,aNu,lD,lD]
   constructor
   ·rintro⟨w,hw,q⟩;rw[decide_eq_true_eq] at q;obtain⟨j,z,e1,e2,e3⟩:=q;exact⟨z,bC e2,e3⟩
   ·rintro⟨z,hz,e3⟩;obtain⟨j,hj,rfl⟩:=eB hz;have hi:j<its.length:=by rw[<-Vals.length rv,rl.len];exact hj
    exact⟨its[j],gF hi,by rw[decide_eq_true_eq];exact⟨j,ds[j],by simp[hi],by simp[hj],e3⟩⟩
  rw[e];exact k
def aIP(ha:PEd X sd a (.val d))(hb:PEd X sd b (.val<|.tup ds))(p1:pl d=true)(p2:plL ds=true)(hu:X.A.units+1+lN ds<AR)(hk:AX .In b=false:=by with_unfolding_all rfl):PTd X sd (.Compare a [.In] [b] pos) (ds.any λz=>deq z d):=
 iY (aMZ d ds p1 p2 hu) ha hb trivial hk λσ F H x u Q S q1 q2 k=>⟨Rep.mono S.sub q2,Rep.mono S.sub q1,k F H S<|Same.refl _⟩
def kY(ws:List Int):List Key:=ws.map Sum.inl
def aRX(ws:List Int):D.tup ((kY ws).map kD)=cB ws:=by unfold kY cB;rw[aY];rfl
def aKd{a b:List Int}(h:kY a=kY b):a=b:=by have:=congrArg (aQu λk=>match k with | .inl i=>i | .inr _=>(0)) h;unfold kY at this;rw[aY,aY] at this;have e:((λk:Key=>match k with | .inl i=>i | .inr _=>(0)) ∘ Sum.inl)=id:=rfl;rw[e,kE,kE] at this;exact this
noncomputable def pX(ks:List (List Int))(w:List Int):List (List Int):=if w∈ks then ks else ks++[w]
def jU(W:List (List Int)):List (List Int):=W.foldl pX []
def aGE(W:List (List Int))(w:List Int):jU (W++[w])=pX (jU W) w:=by unfold jU;rw[eC];rfl
set_option tactic.hygienic true in
def aNn{ks:List (List Int)}(nd:ks.Nodup)(w:List Int):(pX ks w).Nodup/\∀k,k∈pX ks w↔k∈ks\/k=w:=by
 unfold pX
 split
 ·rename_i h;exact⟨nd,λk=>⟨.inl,λq=>q.elim id λe=>e▸h⟩⟩
 ·rename_i h;refine⟨bK.mpr ⟨nd,by simp,λa ha b hb e=>h<|aK.mp hb▸e▸ha⟩,λk=>?_⟩;rw[aV,aK]
theorem xM:∀ (W ks:List (List Int)),ks.Nodup->(W.foldl pX ks).Nodup/\∀k,k∈W.foldl pX ks↔k∈ks\/k∈W
 |[],ks,nd=>⟨nd,λk=>by simp⟩
 |w::W,ks,nd=>by obtain⟨n1,m1⟩:=aNn nd w;obtain⟨n2,m2⟩:=xM W (pX ks w) n1;refine⟨n2,λk=>?_⟩;show k∈W.foldl pX (pX ks w)↔_;rw[m2 k,m1 k,bL,or_assoc]
def xN(W:List (List Int)):(jU W).Nodup:=(xM W [] cQ).1
def aDf{k:List Int}:k∈jU W↔k∈W:=by have:=(xM W [] cQ).2 k;unfold jU;rw[this];simp
theorem aIu(W:List (List Int)):(jU W).length<=W.length:=by
 have:∀ (W ks:List (List Int)),(W.foldl pX ks).length<=ks.length+W.length:=λW=>by
  induction W with
  |nil=>intro ks;exact aQ _
  |cons w W ih=>
   intro ks;refine cJ (ih<|pX ks w) ?_
   have:(pX ks w).length<=ks.length+1:=by
    unfold pX
    split
    ·lia
    ·rw[aP];exact aQ _
   rw[bJ];lia
 have h:=this W [];rw[iP,vY] at h;exact h
noncomputable def vU(h:List Int->List Int)(A:List (List Int))(k:List Int):List (List Int):=A.filter λg=>decide<|h g=k
def pA(h:List Int->List Int)(A:List (List Int))(ks:List (List Int)):List (List D):=ks.map λk=>(vU h A k).map cB
def sN(h:List Int->List Int)(A:List (List Int))(f k:List Int):vU h (A++[f]) k=vU h A k++if h f=k then[f] else[]:=by
 unfold vU
 by_cases e:h f=k
 ·simp[e]
 ·simp[e]
def aIy{k:List Int}(hn:∀g∈A,h g≠k):vU h A k=[]:=by unfold vU;rw[List.filter_eq_nil_iff];exact λg hg=>by simp[hn g hg]
def aLD{A ks:List (List Int)}(nd:ks.Nodup)(hk:ks[n]? =some (h f))(hd:(pA h A ks)[n]? =some ds):(pA h A ks).set n (ds++[cB f])=pA h (A++[f]) ks:=by
 have hd':=by unfold pA at hd;rw[bE,hk] at hd;exact(bZ.inj hd).symm
 subst hd';refine oM λm=>?_
 have hn:=(aF.mp hk).1;have ek:=(aF.mp hk).2
 by_cases e:m=n
 ·subst e;rw[iK<|by unfold pA;rw[aC];exact hn];unfold pA;rw[bE,hk,pO,sN,zt rfl,aX];rfl
 ·rw[gU<|Ne.symm e];unfold pA;rw[bE,bE];cases q:ks[m]? with
  |none=>rfl
  |some k=>
   have eq:=(aF.mp q).2;have ne:¬ h f=k:=λz=>e ((lC nd).mp<|by rw[eq,ek,z])
   rw[pO,pO,sN,zr ne,bG]
def aMD{A ks:List (List Int)}(hn:h f∉ks)(hA:∀g∈A,h g∈ks):pA h A ks++[[cB f]]=pA h (A++[f]) (ks++[h f]):=by
 unfold pA;rw[aX];congr 1
 ·refine cH λk hk=>?_
  rw[sN,zr (λz:h f=k=>hn<|z▸hk),bG]
 ·rw[cA,sN,zt rfl,aIy (λg hg (e:h g=h f)=>hn<|e▸hA g hg)];rfl
def aRZ(P:AD)(w:AL)(K:aB):List D->R->Prop:=λds r=>∃ (p:Int×Int) (h:List Int->List Int),p∈bX/\ds=[cP p,.lst<|((bW p).map h).map cB]/\r=goR P w K ((jU<|(bW p).map h).map kY) (pA h (bW p) (jU<|(bW p).map h))
def aKo:List D->R->Prop:=λds r=>∃ (p:Int×Int) (bs:List Nat) (T:List (List Int)),p∈bX/\bs.length<=100/\(∀b∈bs,b<p.2.toNat)/\tF p T/\ds=[.lst<|bA bs,.tup<|T.map cB]/\r=.own ((T.map<|wdQ bs).map cB)
def aQS:List D->R->Prop:=λds r=>∃ (row:List Nat) (pl mn:Nat),1<=mn/\pl+mn<=row.length/\ds=[.tup<|bA row,.int (pl:Int),.int (mn:Int)]/\r=.val (.bl true)
def wnQ(p:Int×Int)(L:List SK)(row:List Nat)(pl mn:Nat)(bs:List Nat)(f:List Int):Option (List<|List Int):=if f∈tabQ p L (row.take pl) then some (vU (λg=>wdQ bs<|fH p L (row.drop<|pl+mn) g) (bW p) (wdQ bs<|fH p L (row.drop pl) f)) else none
def waQ(p:Int×Int)(L:List SK)(row:List Nat)(pl mn:Nat)(bs:List Nat):List (Option (List<|List Int)):=(bW p).map<|wnQ p L row pl mn bs
def aQn:List D->R->Prop:=λds r=>∃ (p:Int×Int) (L:List SK) (row:List Nat) (pl mn:Nat) (o:Option (List Nat)),p∈bX/\StkOk p L/\(∀t∈row,t<L.length)/\row.length<=100/\1<=mn/\pl+mn<=row.length/\zY p o/\ds=[cP p,.lst<|L.map skD,.tup<|bA row,.int (pl:Int),.int (mn:Int),lkD o]/\r=.own ((waQ p L row pl mn<|bxQ p.2.toNat o).map wsD)
def nY(p:Int×Int)(L:List SK)(a b:List Nat)(ws:List Int):fH p L (a++b) ws=fH p L b (fH p L a ws):=by unfold fH;rw[eC]
def rQ(row:List Nat)(pl mn:Nat):row.drop pl=(row.drop pl).take mn++row.drop (pl+mn):=by rw[<-rK];exact(dN mn _).symm
def aKh(hp:p∈bX)(S:StkOk p L){row:List Nat}(hrow:∀t∈row,t<L.length)(pl mn:Nat)(bs:List Nat){f g:List Int}(G:Fil p f)(Gg:Fil p g):g∈vU (λg=>wdQ bs<|fH p L (row.drop<|pl+mn) g) (bW p) (wdQ bs<|fH p L (row.drop pl) f)↔wdQ bs (fH p L (row.drop<|pl+mn) g)=wdQ bs (fH p L (row.drop<|pl+mn)<|fH p L ((row.drop pl).take mn) f):=by
 unfold vU;have e:fH p L (row.drop pl) f=fH p L (row.drop<|pl+mn) (fH p L ((row.drop pl).take mn) f):=by rw[<-nY,<-rQ]
 rw[gS,e]
 constructor
 ·exact λh=>of_decide_eq_true h.2
 ·exact λh=>⟨tM Gg.len Gg.wd,decide_eq_true h⟩
theorem aRy(hp:p∈bX)(S:StkOk p L)(hrow:∀t∈row,t<L.length)(pl mn:Nat)(bs:List Nat):aBV p (waQ p L row pl mn bs):=by
 refine⟨by unfold waQ;rw[aC],λo ho M hM=>?_⟩;obtain⟨f,hf,rfl⟩:=aS.mp ho;have G:=kC hp hf;unfold wnQ at hM
 split at hM
 ·cases hM;have f9:(bW p).length<=64:=lR hp;have Gm:=kB S ((row.drop pl).take mn) f (λt ht=>hrow t (dR<|dA ht)) G;exact⟨List.length_pos_of_mem<|(aKh hp S hrow pl mn bs G Gm).mpr rfl,cJ (iS _ _)<|by lia,λws hw=>kC hp (gS.mp hw).1⟩
 ·cases hM
def aEo(p:Int×Int)(L:List SK)(one oth bs:List Nat):Bool:=(bW p).all λf=>decide<|wdQ bs (fH p L one f)=wdQ bs (fH p L oth f)
def aGk:(rV f A).isNone=true↔∀j,j<A.length->f j=false:=by
 constructor
 ·intro h j hj;cases e:f j with
  |false=>rfl
  |true=>exfalso;unfold rV at h;rw[Option.isNone_map] at h;have:=uK.mp (Option.isNone_iff_eq_none.mp h) j<|cN.mpr hj;exact this e
 ·intro h;rw[xS h];rfl
def aMg(hp:p∈bX)(S:StkOk p L)(hrow:∀t∈row,t<L.length)(hoth:∀t∈oth,t<L.length)(pl mn:Nat)(bs:List Nat):(zC (waQ p L row pl mn bs) (bW p)<|tabQ p L oth).isNone=aEo p L row (row.take pl++oth++row.drop (pl+mn)) bs:=by
 have h1:∀t∈row.take pl,t<L.length:=λt ht=>hrow t<|dA ht
 have key:∀k,k<(bW p).length->aNH (waQ p L row pl mn bs) (tabQ p L oth) k=(decide ((bW p).getD k []∈tabQ p L (row.take pl))&&!decide (wdQ bs (fH p L (row.drop<|pl+mn) (fH p L oth<|(bW p).getD k []))=wdQ bs (fH p L (row.drop<|pl+mn) (fH p L ((row.drop pl).take mn)<|(bW p).getD k [])))):=λk hk=>by
  have e1:(waQ p L row pl mn bs).getD k none=wnQ p L row pl mn bs ((bW p).getD k []):=by unfold waQ;simp[bV,hk]
  have e2:(tabQ p L oth).getD k []=fH p L oth ((bW p).getD k []):=by unfold tabQ;simp only[bV,bE];show((bW p)[k]?.map _).getD []=_;simp[hk]
  unfold aNH;rw[e1,e2];have G:Fil p ((bW p).getD k []):=kC hp<|getD_mem hk;generalize (bW p).getD k []=f at G;unfold wnQ
  by_cases hm:f∈tabQ p L (row.take pl)
  ·rw[zt hm,decide_eq_true hm,uI];show(!decide (_∈vU _ _ _))=_;rw[decide_eq_decide.mpr (aKh hp S hrow pl mn bs G<|kB S oth f hoth G)]
  ·rw[zr hm,decide_eq_false hm];rfl
 have e3:∀f,fH p L row f=fH p L (row.drop<|pl+mn) (fH p L ((row.drop pl).take mn)<|fH p L (row.take pl) f):=λf=>by rw[<-nY,<-rQ,<-nY,dN]
 have e4:∀f,fH p L (row.take pl++oth++row.drop (pl+mn)) f=fH p L (row.drop<|pl+mn) (fH p L oth<|fH p L (row.take pl) f):=λf=>by rw[nY,nY]
 rw[gA];unfold zC aEo;rw[aGk,fG]
 constructor
 ·intro h f hf;have G:=kC hp hf;have Ga:=kB S (row.take pl) f h1 G;have ma:fH p L (row.take pl) f∈bW p:=tM Ga.len Ga.wd;obtain⟨k,hk,ek⟩:=eB ma;have eg:(bW p).getD k []=fH p L (row.take pl) f:=by simp[bV,hk,ek]
  have:=h k hk;rw[key k hk,eg,decide_eq_true (show fH p L (row.take pl) f∈tabQ p L (row.take pl) from aS.mpr ⟨f,hf,rfl⟩),uI,aJu,decide_eq_true_eq] at this;rw[decide_eq_true_eq,e3,e4];exact this.symm
 ·intro h k hk;rw[key k hk]
  by_cases hm:(bW p).getD k []∈tabQ p L (row.take pl)
  ·rw[decide_eq_true hm,uI,aJu,decide_eq_true_eq];obtain⟨f,hf,ef⟩:=aS.mp hm;have:=h f hf;rw[decide_eq_true_eq,e3,e4] at this;rw[<-ef];exact this.symm
  ·rw[decide_eq_false hm];rfl
def aIk{ks:List (List Int)}(h:ks.Nodup):(ks.map kY).Nodup:=List.Pairwise.map kY (λa b q e=>q<|aKd e) h
def enF(F:List Int->D):D->D
 |.tup [_,g]=>F<|lM g
 |_=>.non
def aLU(p:Int×Int)(F:List Int->D):(mV<|(bW p).map cB).map (enF F)=(bW p).map F:=by
 unfold mV;refine pI (by simp) λm h1 h2=>?_
 have hm:=by simpa using h2
 simp only[iA,List.getElem_range,Function.comp];have:((bW p).map cB).getD m .non=cB (bW p)[m]:=by simp[bV,hm]
 rw[this];show F (lM<|cB _)=_;rw[iZ]
def aGu(row:List Nat)(k:Nat):(bA row).take k=bA (row.take k):=by unfold bA;rw[fR]
def aAr(row:List Nat)(k:Nat):(bA row).drop k=bA (row.drop k):=by unfold bA;rw[gZ]
def aCm(a:List Nat):(bA a).length=a.length:=by unfold bA;rw[aC]
noncomputable def aDo(h:BH)(a:BF):BH:=h.update a λo=>{o with data:=.freed}
def rS(h:BH)(S:List BF):BH:=S.foldl aDo h
def aBL(h:BH){a b:BF}(ne:b≠a):(aDo h a).get? b=h.get? b:=cW _ _<|Ne.symm ne
set_option tactic.hygienic true in
def aEc(h:BH)(a:BF):(aDo h a).get? a=none:=by
 cases h;simp only[aDo,Heap.update,Heap.get?,aEf,if_true]
 split
 ·rfl
 ·rename_i hx;generalize hq:kZ _ _=q at hx ⊢;cases q with
  |none=>rfl
  |some o=>obtain⟨o',h1,h2⟩:=eV.mp hq;exact(hx _ _ _<|by rw[<-h2]).elim
theorem mE:∀ {S:List BF}{h:BH}{a:BF},a∉S->(rS h S).get? a=h.get? a
 |[],_,_,_=>rfl
 |b::S,h,a,hn=>by show(rS (aDo h b) S).get? a=_;rw[mE λz=>hn<|aH _ z,aBL h (λz:a=b=>hn<|z▸aO)]
theorem kX:∀ {S:List BF}{h:BH}{a:BF},a∈S->(rS h S).get? a=none
 |b::S,h,a,hm=>by
  show(rS (aDo h b) S).get? a=none
  by_cases hs:a∈S
  ·exact kX hs
  ·have e:=(bL.mp hm).resolve_right hs;subst e;rw[mE hs,aEc]
def sS{a:BF}{o:BI}(q:(rS h S).get? a=some o):a∉S/\h.get? a=some o:=by
 have hn:a∉S:=λz=>by rw[kX z] at q;cases q
 exact⟨hn,by rw[mE hn] at q;exact q⟩
theorem qL{h base base':BH}:∀ {l:List Env},h.FunFrames base l->(∀b∈l.filterMap (·.frame),base'.get? b=none)->h.FunFrames base' l
 |[],_,_=>trivial
 |env::rest,hl,hb=>by
  obtain⟨hk,⟨L,o,hf,hn,ho,hd⟩,hr⟩:=hl;have e:(env::rest).filterMap (·.frame)=L::rest.filterMap (·.frame):=by rw[hZ,hf]
  rw[e] at hb;exact⟨hk,⟨L,o,hf,hb L aO,ho,hd⟩,qL hr λb hm=>hb b<|aH _ hm⟩
def pP{a:BF}{o:HO}(x:ObjOk P w H h a o):∃ob,h.get? a=some ob:=by
 cases o with
 |lst xs=>obtain⟨_,_,_,_,e⟩:=x;exact⟨_,e⟩
 |tup xs=>obtain⟨_,_,_,ob,e,_⟩:=x;exact⟨_,e⟩
 |dK kvs=>obtain⟨_,_,_,_,o,_,_,e,_⟩:=x;exact⟨_,e⟩
 |dT kvs=>obtain⟨_,_,_,_,o,_,_,e,_⟩:=x;exact⟨_,e⟩
 |set S n=>obtain⟨o,_,_,_,e,_⟩:=x;exact⟨_,e⟩
 |ins C dx fs=>obtain⟨_,_,_,e,_⟩:=x;exact⟨_,e⟩
 |own y=>obtain⟨_,e⟩:=x;exact⟨_,e⟩
 |xd fs=>obtain⟨_,⟨_,_,_,e,_⟩,_⟩:=x;exact⟨_,e⟩
 |rng lo hi=>obtain⟨_,_,_,e⟩:=x;exact⟨_,e⟩
 |frz ob u=>obtain⟨e,_⟩:=x;exact⟨_,e⟩
 |tbl ps=>exact⟨_,(x)⟩
 |met f y=>exact⟨_,(x)⟩
 |ext φ=>obtain⟨_,⟨_,e⟩,_⟩:=x;exact⟨_,e⟩
structure Exc(h0 h:BH)(H:Hp)(a T:BF)(cls:BD):Prop where
 free:H a=none
 new:h0.get? a=none
 freeT:H T=none
 newT:h0.get? T=none
 obj:∃oe vs oT ts a0,h.get? a=some oe/\(oe.cls=cls/\vs[0]? =some a0)/\oe.data=.fields vs/\vs[1]? =some (.ref T)/\T≠a/\h.get? T=some oT/\oT.data=.fields ts/\ts[3]? =some .none
noncomputable def CX1(P:AD)(w:AL)(cls:BD):CXT:=λouter H s E e s'=>∃a T H',e=.ref a/\s'.os=s.os/\AllBare s'.gens/\Un (frs outer) [] H H' s.heap s'.heap/\HOk P w H' s'.heap/\Exc s.heap s'.heap H' a T cls/\E (.ref a) (some a) H'
variable {h':BH}{a T:BF}{cls a0:BD}{S:List BF}{E:XK}
def aFq(I:Inv X za σ H s)(hex:X.ex=[])(hst:X.stack=X.env::X.outer/\X.env.frame=some X.env.locals)(hS:∀b∈S,H b=none/\X.s₀.heap.get? b=none)(ha:a∈S)(L:Heap.LeftW (rS s.heap<|frs X.stack++S) X.stack a cls a0 s.heap h')(hE:E (.ref a) (some a) H):CX1 X.prog X.w cls X.outer X.H₀ X.s₀ E (.ref a) {s with heap:=h'}:=by
 obtain⟨k1,k2,⟨oe,vs,T,oT,ts,he,hc,hd,h1,hnT,hTe,hT,hdT,h3⟩,k4⟩:=L
 have fr:frs X.stack=X.env.locals::frs X.outer:=by unfold frs;rw[hst.1,hZ,hst.2]
 have out:∀b o,X.s₀.heap.get? b=some o->b∉frs X.outer->b∉frs X.stack++S:=λb o q hb hm=>by
  rcases aV.mp hm with hm|hm
  ·rw[fr] at hm
   rcases bL.mp hm with e|hm
   ·have:=I.ok.above;have lt:=aU q;rw[e] at lt;exact absurd lt<|qG.mpr this
   ·exact hb hm
  ·rw[(hS b hm).2] at q;cases q
 have stay:=λb o hb q=>k1 b o (by rw[mE hb];exact q)
 have nex:∀b,b∉X.ex:=λb hb=>by rw[hex] at hb;cases hb
 have slot:∀b o,X.s₀.heap.get? b=some o->X.H₀ b=none->b∈frs X.outer->∃sl,h'.get? b=some {o with slots:=sl}:=λb o q n hb=>by obtain⟨sl,q1⟩:=I.base.slot b o q n hb<|nex b;obtain⟨_,o',q2,nf⟩:=I.ok.funs.mem hb;rw[q] at q2;cases q2;obtain⟨sl2,q3⟩:=k4 b _ q1 nf;exact⟨sl2,q3⟩
 have tr:∀b u,H b=some u->b∉frs X.stack++S:=λb u e hm=>by
  rcases aV.mp hm with hm|hm
  ·rw[I.env0.frf b hm] at e;cases e
  ·rw[(hS b hm).1] at e;cases e
 have Tn:s.heap.get? T=none\/T∈S:=by
  by_cases hm:T∈frs X.stack++S
  ·rcases aV.mp hm with hm|hm
   ·obtain⟨_,o,q,nf⟩:=k2.mem hm;rw[hT] at q;cases q;exact(nf ts hdT).elim
   ·exact .inr hm
  ·rw[mE hm] at hnT;exact .inl hnT
 refine⟨a,T,H,rfl,I.os,I.bare,⟨λb o q n hb _=>stay b o (out b o q hb) (I.base.keep b o q n hb<|nex b),λb o q n hb _=>slot b o q n hb,λb o q n _=>I.base.free b o q n<|nex b,λb o q _=>?_,I.base.tups,I.base.frzs,I.base.tbls⟩,λb u e=>?_,⟨(hS a ha).1,(hS a ha).2,?_,?_,oe,vs,oT,ts,a0,he,hc,hd,h1,hTe,hT,hdT,h3⟩,hE⟩
 ·by_cases hb:b∈frs X.outer
  ·obtain⟨sl,q2⟩:=slot b o q (I.ok.frf b hb) hb;exact⟨_,q2⟩
  ·obtain⟨o1,q1⟩:=I.base.there b o q<|nex b;exact⟨o1,stay b o1 (out b o q hb) q1⟩
 ·refine(I.hok b u e).stay (λc v hc q=>stay c v ?_ q) (λ_ q=>q) λ_ _ q=>q
  rcases hc with z|z
  ·rw[z];exact tr b u e
  ·exact tr c _ z
 ·rcases Tn with q|q
  ·cases g:H T with
   |none=>rfl
   |some u=>obtain⟨ob,q2⟩:=pP<|I.hok T u g;rw[q] at q2;cases q2
  ·exact(hS T q).1
 ·rcases Tn with q|q
  ·cases g:X.s₀.heap.get? T with
   |none=>rfl
   |some o=>obtain⟨o1,q1⟩:=I.base.there T o g<|nex T;rw[q] at q1;cases q1
  ·exact(hS T q).2
def aGM(I:Inv X za σ H s)(hex:X.ex=[])(hst:X.stack=X.env::X.outer/\X.env.frame=some X.env.locals)(m:Heap.MadeExcOf s.heap h' a cls args)(hE:E (.ref a) (some a) H):AK (AG X.prog X.w) X.A (leaving X.env<|.ref a) (λ_ s''=>CX1 X.prog X.w cls X.outer X.H₀ X.s₀ E (.ref a) s'') Ex {s with heap:=h'}:=by
 obtain⟨t,he,ht,_⟩:=m.there;have I':Inv X za σ H {s with heap:=h'}:=I.kept m.keeps
 have Ha:H a=none:=by
  cases g:H a with
  |none=>rfl
  |some u=>obtain⟨ob,q⟩:=pP<|I.hok a u g;rw[m.new] at q;cases q
 have sa:X.s₀.heap.get? a=none:=by
  cases g:X.s₀.heap.get? a with
  |none=>rfl
  |some o=>obtain⟨o1,q1⟩:=I.base.there a o g (λhb=>by rw[hex] at hb;cases hb);rw[m.new] at q1;cases q1
 have hS:∀b∈[a],H b=none/\X.s₀.heap.get? b=none:=λb hb=>by rw[aK.mp hb];exact⟨Ha,sa⟩
 have fu:Heap.FunFrames h' (rS h'<|frs X.stack++[a]) X.stack:=qL I'.env0.funs λb hb=>kX<|bN _ hb
 have fm:=I'.ok.frames;rw[hst.1] at fm;have fu2:=fu;rw[hst.1] at fu2;refine wpAny_leaving_firstW (base:=rS h'<|frs X.stack++[a]) fm (by rw[hst.1];exact fu2) hst.2 he (λb o q=>(sS q).2) (kX (aJ _<|cG a)) rfl rfl rfl λh'' L=>?_
 rw[<-hst.1] at L;exact aFq I' hex hst hS (cG a) L hE
def xO(I:Inv X za σ H s)(hex:X.ex=[])(hst:X.stack=X.env::X.outer/\X.env.frame=some X.env.locals)(x:Exc X.s₀.heap s.heap H a T cls)(hE:E (.ref a) (some a) H):AK (AG X.prog X.w) X.A (leaving X.env<|.ref a) (λ_ s''=>CX1 X.prog X.w cls X.outer X.H₀ X.s₀ E (.ref a) s'') Ex s:=by
 obtain⟨f1,n1,HT,nT,oe,vs,oT,ts,a0,he,hc,hd,h1,hTe,hT,hdT,h3⟩:=x
 have hS:∀b∈[a,T],H b=none/\X.s₀.heap.get? b=none:=λb hb=>by
  simp at hb
  rcases hb with rfl|rfl
  ·exact⟨f1,n1⟩
  ·exact⟨HT,nT⟩
 have fu:Heap.FunFrames s.heap (rS s.heap<|frs X.stack++[a,T]) X.stack:=qL I.env0.funs λb hb=>kX<|bN _ hb
 have fm:=I.ok.frames;rw[hst.1] at fm;have fu2:=fu;rw[hst.1] at fu2;have ca:(rS s.heap<|frs X.stack++[a,T]).get? a=none:=kX (aJ _<|by simp);have cT:(rS s.heap<|frs X.stack++[a,T]).get? T=none:=kX (aJ _<|by simp);refine wpAny_leaving_nextW fm (by rw[hst.1];exact fu2) hst.2 ⟨oe,vs,T,oT,ts,he,hc,hd,h1,cT,hTe,hT,hdT,h3⟩ (λb o q=>(sS q).2) ca λh'' L=>?_
 rw[<-hst.1] at L;exact aFq I hex hst hS (by simp) L hE
end DL
namespace DL
open PySem PySem.Spec PySem.Calls PySem.W PyProof.Rows Builtin Builtin.Getset_descriptor Builtin.ObjectAttr
variable {prog:AD}{w:AL}{A:BG}{E:BD->BE->Prop}{h:BH}{g:Array GenState}{d:Drawn}{t:Nat}{os:OsState}{a C:BF}{K:Frag}
def ExA(a C:BF)(h:BH):Prop:=∃o,h.get? a=some o/\o.cls=.ref C
def ExA.type(I:ExA a C h):Looks M h (typeOf<|.ref a) (.ref C):=by obtain⟨o,h1,h2⟩:=I;exact h2▸(Looks.ld h1).andThen .now
def aPA{R:Result->BE->Prop}(X:K.In s.heap)(I:ExA a C s.heap)(hm:mroIn K C (.type "object")=some true)(h:R (.ok (.ret<|.ref C)) s):codeAny (AG prog w) A (.call (.builtin "getset_descriptor.__get__") ⟨[.builtin "object.__class__",.ref a,tp],[]⟩) R s:=by
 obtain⟨hh,g,dr,t,os⟩:=s;have L0:=I.type (M:=AG prog w);have L1:=looks_mroIn (M:=AG prog w) X hm;refine codeAny_call_builtin KF.slot_gs.plain KF.entry_gs<|KF.slot_gs.check _ _ _ _ _ _ _ _ KF.type_class (KF.args_gs _ _ _) ?_;unfold Builtin.«getset_descriptor.__get__» descrGet;refine AA<|AC ?_;unfold descrGetter descrCheckInstance descrNameAndClass isInstance;simp only[KF.owner_class]
 repeat lk
 refine⟨Code.quiet_builtin _<|by decide+kernel,Ay KF.entry_class ?_⟩
 repeat lk
 exact h
theorem aIW(X:K.In h)(I:ExA a C h)(ha:findIn K (.ref C) "__class__"=some (some<|.builtin "object.__class__"))(hm:mroIn K C (.type "object")=some true)(hq:Q (.done (.ret<|.ref C)) ⟨h,g,d,t,os⟩):AK (AG prog w) A (Builtin.«object.__getattribute__» ⟨[.ref a,.str "__class__" tk],[]⟩) Q E ⟨h,g,d,t,os⟩:=by
 have f5:=F.typeOf_object_class;have f6:=F.slot_gs_get.lookup;have f7:=F.slot_gs_set.lookup;have L1:=looks_findIn (M:=AG prog w) X ha;obtain⟨o,hx,hc⟩:=id I
 repeat (any_goals (first|assumption|(with_reducible refine wpAny_loadPart_at hx ?_;rw[hc])|with_reducible refine L1.at ?_|wp_step))
 refine aPA X I hm ?_
 repeat (any_goals (first|assumption|wp_step))
theorem aIj(X:K.In h)(I:ExA a C h)(hs:subIn K (.ref C) (.type "BaseException")=some true)(hq:Q () ⟨h,g,d,t,os⟩):AK M A (checkBuiltinCall "BaseException.__getattribute__" ⟨[.ref a,nameV],[]⟩) Q E ⟨h,g,d,t,os⟩:=by
 have hk:builtinKind "BaseException.__getattribute__"=some .slot:=by decide+kernel
 have hsplit:splitId "BaseException.__getattribute__"=some ("BaseException","__getattribute__"):=by decide+kernel
 have L1:=looks_subIn (M:=M) X hs;obtain⟨o,hx,hc⟩:=id I;have ha:=F.args_bexc_ga (.ref a) nameV;simp only[checkBuiltinCall,hk,hsplit];refine AA ?_;unfold isInstance
 repeat (first|(with_reducible refine wpAny_loadPart_at hx ?_;rw[hc])|with_reducible refine L1.at ?_|wp_step)
 exact hq
theorem aMo{R:Result->BE->Prop}(X:K.In h)(I:ExA a C h)(ha:findIn K (.ref C) "__class__"=some (some<|.builtin "object.__class__"))(hm:mroIn K C (.type "object")=some true)(hs:subIn K (.ref C) (.type "BaseException")=some true)(hq:R (.ok (.ret<|.ref C)) ⟨h,g,d,t,os⟩):codeAny (AG prog w) A (.call (.builtin "BaseException.__getattribute__") ⟨[.ref a,.str "__class__" tk],[]⟩) R ⟨h,g,d,t,os⟩:=
 codeAny_call_builtin F.attr_ValueError.ga.plain F.entry_bexc_ga (aIj X I hs<|aIW X I ha hm hq)
theorem aRl(X:K.In h)(I:ExA a C h)(ha:findIn K (.ref C) "__class__"=some (some<|.builtin "object.__class__"))(hm:mroIn K C (.type "object")=some true)(hs:subIn K (.ref C) (.type "BaseException")=some true)(hg:findIn K (.ref C) "__getattribute__"=some (some<|.builtin "BaseException.__getattribute__")) (hn:findIn K (.ref C) "__getattr__"=some none)(hq:Q (.ref C) ⟨h,g,d,t,os⟩):AK (AG prog w) A (getAttrBy (.ref a) (.str "__class__" tk) false) Q E ⟨h,g,d,t,os⟩:=by
 have f3:=F.attr_ValueError.ga.bind<|.ref a;have hx2:(Value.builtin "BaseException.__getattribute__"==Value.builtin "object.__getattribute__")=false:=by decide+kernel
 have hx1:(onTheHeap (Value.ref C)&&Value.builtin "BaseException.__getattribute__"==Value.builtin "object.__getattribute__")=false:=by rw[hx2];rfl
 have L1:=looks_findIn (M:=AG prog w) X hg;have L2:=looks_findIn (M:=AG prog w) X hn;obtain⟨o,hx,hc⟩:=id I
 repeat (any_goals (first|assumption|(with_reducible refine wpAny_loadPart_at hx ?_;rw[hc])|with_reducible refine L1.at ?_|with_reducible refine L2.at ?_|wp_step))
 refine aMo X I ha hm hs ?_
 repeat (any_goals (first|assumption|wp_step))
def aMS(X:K.In h)(I:ExA a C h)(ha:findIn K (.ref C) "__class__"=some (some<|.builtin "object.__class__"))(hm:mroIn K C (.type "object")=some true)(hs:subIn K (.ref C) (.type "BaseException")=some true)(hg:findIn K (.ref C) "__getattribute__"=some (some<|.builtin "BaseException.__getattribute__")) (hn:findIn K (.ref C) "__getattr__"=some none)(hq:Q (some<|.ref C) ⟨h,g,d,t+1,os⟩):AK (AG prog w) A (getAttr? (.ref a) "__class__") Q E ⟨h,g,d,t,os⟩:=by
 unfold getAttr? getAttrBy?
 repeat (any_goals (first|assumption|with_reducible apply aRl X I ha hm hs hg hn|wp_step))
structure aOa(K:Frag)(C:BF):Prop where
 ha:findIn K (.ref C) "__class__"=some (some<|.builtin "object.__class__")
 hm:mroIn K C (.type "object")=some true
 hs:subIn K (.ref C) (.type "BaseException")=some true
 hg:findIn K (.ref C) "__getattribute__"=some (some<|.builtin "BaseException.__getattribute__")
 hn:findIn K (.ref C) "__getattr__"=some none
 hc:(clsIn K C).isSome=true
set_option tactic.hygienic true in
def aIN(x:aOa K C):KitX K (.ref a) (.ref C) (ExA a C) where
 ty:=λ_ _ _ I=>I.type
 it:=λ_ _ X _=>by
  obtain⟨cdD,hcD⟩:=nV.mp x.hc;unfold clsIn at hcD
  split at hcD
  ·rename_i c' d' cd' sl' ho;intro A' Q' E' s' k q;exact AA (wpAny_loadPart (k _ _<|X _ _ ho)<|AC q)
  ·cases hcD
 ne:=λh tp dd its n sl X htp=>by
  obtain⟨cdD,hcD⟩:=nV.mp x.hc;refine vQ.mpr λq=>?_
  have e:=Value.ref.inj<|beq_iff_eq.mp q;subst e;unfold clsIn at hcD
  split at hcD
  ·rename_i c' d' cd' sl' ho;have z:=(X _ _ ho).symm.trans htp;cases z
  ·cases hcD
 ca:=λ{prog w A E Q s} X I k=>by obtain⟨h,g,d,t,os⟩:=s;exact aMS X I x.ha x.hm x.hs x.hg x.hn k
end DL
namespace DL
open PySem PySem.Spec PyProof.Rows L2
noncomputable def aSx:List BD:=[.type "ValueError",.type "Exception",.type "BaseException",.type "object"]
set_option tactic.hygienic true in
def aGJ{K:aB}(X:K.In h)(q:nQ K C bmB newId=true):∃bm N nm q bs hdct sn sub ab col dd k0 k1 k2 k3 k5 mN,h.get? C=some (excClassObj nm q C N bs bm hdct sn sub ab col dd k0 k1 k2 k3 k5 newId)/\h.Ns N mN/\mN "__init__"=none/\OwnTail h bmB bm:=by
 unfold nQ at q
 split at q
 ·rename_i dd cd sl ho
  split at q
  ·rename_i C' bm k0 k1 k2 k3 n k5 hm hs;simp at q;obtain⟨⟨⟨⟨⟨rfl,rfl⟩,hdel⟩,ht⟩,hok⟩,hni⟩:=q;obtain⟨nm,bs,mro,ns,qn,hd,sn,sub,ab,col,del⟩:=cd;subst hm hdel
   have hsl:sl= #[k0,k1,k2,k3,some<|.builtin n,k5]:=by obtain⟨l⟩:=sl;simp only at hs;rw[hs]
   subst hsl;exact⟨bm,ns,nm,qn,bs,hd,sn,sub,ab,col,dd,k0,k1,k2,k3,k5,_,X _ _ ho,.of_isNs<|PySem.W.isNs_of_in X hok,PySem.W.nsMap_none_of_in X hok hni,PySem.W.tail_of_in X ht⟩
  ·cases q
 ·cases q
def Takes(X:Cx)(cls:BD)(sd:List Slot):Prop:=∀ (za:List (BF×BI)) (σ:St) (F H:Hp) (s:BE) (a T:BF),Inv X za σ H s->StF X.K X.B₀ F H σ sd->Exc X.s₀.heap s.heap H a T cls->(∀p∈X.pn++za,p.1≠a/\p.1≠T)->X.xe (.ref a) s
def xX(X:Cx)(cls:BD)(sd:List Slot):Prop:=∀ (za:List (BF×BI)) (σ:St) (F H:Hp) (s:BE) (h':BH) (a:BF) (args:List BD),Inv X za σ H s->StF X.K X.B₀ F H σ sd->Heap.MadeExcOf s.heap h' a cls args->X.xe (.ref a) {s with heap:=h'}
variable {P:AD}{w:AL}{K:aB}{mg:Str->Option BD}{base:BH}{N:List Str}{qual:Str}{scope:Scope}{f:BF}{cdv:BD}{A:BG}{outer:List Env}{s:BE}{H:Hp}{E:XK}{cls:BD}{sd:List Slot}
def qN(hE:∀a H',Same H H'->Smp H'->E (.ref a) (some a) H'):Takes (gO (CX1 P w cls) P w K mg base N qual scope f cdv A outer s H E) cls sd:=λza σ F H' s' a T I S x _=>xO I rfl ⟨rfl,rfl⟩ x<|hE a H' (λb o e=>S.sub _ _<|S.base _ _ e) S.smp
def aDA(hE:∀a H',Same H H'->Smp H'->E (.ref a) (some a) H'):xX (gO (CX1 P w cls) P w K mg base N qual scope f cdv A outer s H E) cls sd:=λza σ F H' s' h' a args I S m=>aGM I rfl ⟨rfl,rfl⟩ m<|hE a H' (λb o e=>S.sub _ _<|S.base _ _ e) S.smp
variable {X:Cx}{e a b c:Expr}{es:List Expr}{pos:Pos}{d:D}{ds:List D}{E:gX}
theorem aGl{np cpos:Pos}(hg:Gl X x)(hm:X.mg x=some (.ref C))(hx:nQ X.K C aSx "ValueError.__new__"=true)(ht:xX X (.ref C) sd)(he:PAd X sd (e::es) (ds.map R.val))(hl:ds.length<=10000)(hc:X.calm=true:=by rfl) (hdb:(x==("__debug__":Str))=false:=by decide) (hst:AB (e::es) X.env=(false,eval e X.env)::AB es X.env:=by rfl) (hpl:(AV cpos<|AB es X.env).any (·.1)=false:=by rfl):PSd1 X sd (.Raise (some<|.Call (.Name x np) (e::es) [] cpos) none pos) E:=.mk λσ F H S za s I=>by
 obtain⟨bm,Nn,nm,q,bs,hdct,sn,sub,ab,col,dd,k0,k1,k2,k3,k5,mN,hC,hN,hni,T⟩:=aGJ I.ok.mod.kin hx
 refine wpAny_Raise_call_subT (nm:=nm) (q:=q) (N:=Nn) (bs:=bs) (hdct:=hdct) (sn:=sn) (sub:=sub) (ab:=ab) (col:=col) (dd:=dd) (k0:=k0) (k1:=k1) (k2:=k2) (k3:=k3) (k5:=k5)
  zM (T.hasType zM.hasBase) (I.ok.hd hc) (by rw[hst];show(false||(AV cpos<|AB es X.env).any (·.1))=false;rw[hpl];rfl) hni (lY I hg hm ⟨rfl,?_⟩ hdb)
 have hA:=he σ F H S cpos za s I;rw[hst] at hA ⊢;refine Calls.evalArgs_plain<|AU hA (λus s2 ⟨vs,H2,I2,r2,F2,S2,s2',q2⟩=>?_) λ_ _ y=>y
 have lv:us.length<=AJ:=by rw[<-r2.length,q2.vals.len];exact cZ<|eY hl
 exact⟨rfl,lv,I2.bk _ _ hC,hN.keeps I2.bk,T.keeps I2.bk,λh' e m=>ht za σ F2 H2 s2 h' e us I2 S2 m⟩
structure PEx(X:Cx)(sd:List Slot)(e:Expr):Prop where
 run:∀ (σ:St) (F H:Hp),StF X.K X.B₀ F H σ sd->wE X e σ H (λ_ _=>False)
def oA(i:Nat)(hN:X.N.Nodup)(hi:X.N[i]? =some x)(hx:Loc X.env.scope x)(h:PEx X sd e)(hs:Ab e (some<|.Name x p) pos.line X.env=pure false:=by rfl)(hf:X.fn x=true\/X.env.scope.names.lookup x=some .local:=by first|exact .inl rfl|exact .inr rfl|assumption):PSd1 X sd (.Assign [.Name x p] e pos) E:=.mk λσ F H S=>
 (rP hN hi hx eO hs hf).to ((h.run σ F H S).imp λ_ _ z=>z.elim)
def yY(h:PEx X sd e):PSd1 X sd (.Return (some e) pos) E:=.mk λσ F H S=>(rN eO).to<|(h.run σ F H S).imp λ_ _ z=>z.elim
def spX(K:aB)(n:Nat)(C:List D->Prop):Sp:=λvs H _ E=>vs.length=n/\Smp H/\∃ds,RepL K H ds vs/\C ds/\∀a H',Same H H'->Smp H'->E (.ref a) (some a) H'
structure fS(P:AD)(w:AL)(K:aB)(mg:Str->Option BD)(base:BH)(x:Str)(k n:Nat)(C:List D->Prop)(cls:BD)(dvs:List V)(dws:List BD):Prop where
 ex:∃ (f:BF) (fd:AN) (ps:List Str),mg x=some (.ref f)/\cK K (.ref f)=true/\Binds K fd ps dws/\Vals dvs dws/\FnOk P w K mg base (CX1 P w cls) k f fd ps (spX K n C)
def qO{σ:St}(F:FnOk X.prog X.w X.K X.mg X.base CX k f fd ps sp)(hr:Room k X.A)(hb:Binds X.K fd ps dws)(hd:Vals dvs dws)(I:Inv X za σ H s) (r:Vals vs us) (h:sp (vs++dvs) H Q Ex) (hx:∀e s',CX X.stack H s Ex e s'->X.xe e s'):AK (AG X.prog X.w) X.A (call (.ref f) us) (EP X za σ Q) X.xe s:=by
 have r2:=r.append hd;have hl:(us++dws).length=ps.length:=by rw[<-r2.length];exact F.len _ _ _ _ h
 refine wpAny_call<|Aq (F.run X.A X.stack s H ⟨us,[]⟩ (us++dws) (vs++dvs) Q Ex hr I.env0 (hb s us I.kIn hl) r2 h) λr s' hq=>?_;cases r with
 |error e=>exact hx e s' hq
 |ok fl=>
  cases fl with
  |ret u=>exact I.after hq
  |next=>exact False.elim hq
  |brk=>exact False.elim hq
  |cont=>exact False.elim hq
def aME{σ:St}{e:BD}(hex:X.ex=[])(I:Inv X za σ H s)(S:StF X.K X.B₀ F H σ sd)(h:CX1 X.prog X.w cls X.stack H s (λ_ _ H'=>Same H H'/\Smp H') e s'):∃a T H',e=.ref a/\Inv X za σ H' s'/\StF X.K X.B₀ F H' σ sd/\Exc X.s₀.heap s'.heap H' a T cls/\∀p∈X.pn++za,p.1≠a/\p.1≠T:=by
 obtain⟨a,T,H',rfl,os,bare,un,hok,x,sH,smH⟩:=h;have I2:=I.call' os un hok bare (λb z=>absurd z<|by simp)
 have fr:∀b,s.heap.get? b=none->X.s₀.heap.get? b=none:=λb q=>by
  cases g:X.s₀.heap.get? b with
  |none=>rfl
  |some o=>obtain⟨o1,q1⟩:=I.base.there b o g (λhb=>by rw[hex] at hb;cases hb);rw[q] at q1;cases q1
 have nw:∀b,s.heap.get? b=none->∀p∈X.pn++za,p.1≠b:=λb q p hp z=>by have:=(I.pin p hp).1;rw[z,q] at this;cases this
 exact⟨a,T,H',rfl,I2,⟨S.base,S.sub.trans sH,smH,S.slots.mono (Same.refl _) λl hl=>⟨(S.slots.owns hl).1,λob e=>sH _ _ e⟩,S.nd⟩,⟨x.free,fr a x.new,x.freeT,fr T x.newT,x.obj⟩,λp hp=>⟨nw a x.new p hp,nw T x.newT p hp⟩⟩
theorem aFd{p:Pos}(G:fS X.prog X.w X.K X.mg X.base x k n C cls dvs dws)(hex:X.ex=[])(hr:Room k X.A)(hg:Gl X x)(ha:PAd X sd (e::es) (ds.map R.val))(hdv:∀H,RepL X.K H dds dvs)(hc:C (ds++dds))(hn:ds.length+dds.length=n)(ht:Takes X cls sd)(hdb:(x==("__debug__":Str))=false:=by decide) (he:AB (e::es) X.env=(false,eval e X.env)::AB es X.env:=by rfl) (hpl:(AV pos<|AB es X.env).any (·.1)=false:=by rfl):PEx X sd (.Call (.Name x p) (e::es) [] pos):=⟨fun σ F H S za s I=>by
 obtain⟨f,fd,ps,hm,hk,bd,hd,G⟩:=G.ex;refine AO<|lY I hg hm ?_ hdb;refine dQ I.ok.mod.kin hk (thn (ha σ F H S pos za s I) λus s1 ⟨vs,H1,I1,r,F1,S1,s1',q⟩=>⟨I1.kIn,?_⟩) he hpl;have rl:=(q.vals.mono S1.sub).app<|hdv H1;refine qO (Ex:=λ_ _ H'=>Same H1 H'/\Smp H') G hr bd hd I1 r ⟨by rw[rl.len,aP];exact hn,S1.smp,ds++dds,rl,hc,λa H' q1 q2=>⟨q1,q2⟩⟩ λe s' hcx=>?_
 obtain⟨a,T,H',rfl,I2,S2,x2,pn⟩:=aME hex I1 S1 hcx
 exact ht za σ F1 H' s' a T I2 S2 x2 pn⟩
variable {x:Str}{st:BJ}{fd:AN}{ps:List Str}{k:Nat}{C:List D->Prop}
def aSt{dV kV doc pm ct:BD}(lk:K.lookup f=some ⟨oc,od,.func<|cD x qual (eP st) (cF st) (aN st) dV kV doc pm an cdv ct,osl⟩)(hcd:eI K cdv qual=true)(S:iD N ps (aN st))(body:∀ (A:BG) (outer:List Env) (s:BE) (H:Hp) (E:XK),Room k (A.deeper (Ad qual (aN st) s.heap.objs.size f cdv))→(∀a H',Same H H'→Smp H'→E (.ref a) (some a) H')→∀ds,ds.length=ps.length→C ds→PSd (gO (CX1 P w cls) P w K mg base N qual (aN st) f cdv A outer s H E) (init N.length ds) (cF st) {nx:=λ_=>False,rt:=λ_=>False}):FnOk P w K mg base (CX1 P w cls) (k+1) f (cD x qual (eP st) (cF st) (aN st) dV kV doc pm an cdv ct) ps (spX K ps.length C):=by
 refine aHN lk hcd S (λvs H Q E h=>h.1) λA outer s H vs Q E hr h=>?_
 obtain⟨hl,sm,ds,rl,c,q⟩:=h;have hds:ds.length=ps.length:=by rw[<-rl.len];exact hl
 refine⟨_,pss_w,?_⟩;have hlen:N.length-vs.length=N.length-ds.length:=by rw[rl.len]
 have S0:StF K H H H (L2.start N vs) (init N.length ds):=by
  refine⟨Same.refl _,Same.refl _,sm,?_,?_⟩
  ·unfold L2.start init;rw[hlen];exact jO (m:=0) rl
  ·unfold init;rw[jP];exact cQ
 exact(body A outer s H E hr q ds hds c (L2.start N vs) H H S0).imp (λ_ _ ⟨_,_,_,_,z⟩=>z.elim) (λ_ _ ⟨_,_,z⟩=>z.elim) (λ_ _ ⟨_,_,_,_,z⟩=>z.elim) λ_ _ ⟨_,_,_,_,z⟩=>z.elim
def aMV(F:Fun K x qual st f fd)(S:iD N ps (aN st))(hm:mg x=some (.ref f))(hb:∀ (kV doc pm:BD) (an:Option BF) (cdv ct:BD) (us:List BD),us.length=ps.length->bindArgs (cD x qual (eP st) (cF st) (aN st) .none kV doc pm an cdv ct) ⟨us,[]⟩=pure (ps.zip us))(body:∀ (cdv:BD) (A:BG) (outer:List Env) (s:BE) (H:Hp) (E:XK),Room k (A.deeper (Ad qual (aN st) s.heap.objs.size f cdv))→(∀a H',Same H H'→Smp H'→E (.ref a) (some a) H')→∀ds,ds.length=ps.length→C ds→PSd (gO (CX1 P w cls) P w K mg base N qual (aN st) f cdv A outer s H E) (init N.length ds) (cF st) {nx:=λ_=>False,rt:=λ_=>False}):fS P w K mg base x (k+1) ps.length C cls [] []:=by
 have hbd:=F.binds hb;obtain⟨oc,od,kV,doc,pm,an,cdv,ct,osl,rfl,lk,hcd⟩:=F.ex;exact⟨f,_,ps,hm,F.kp,hbd,.nil,aSt lk hcd S<|body cdv⟩
variable {za:List (BF×BI)}{σ:St}{F:Hp}{h':BH}{S:List BF}
def xY{h:BH}{c:BF}(k:h.UpToSlots h')(z:h.IsCell c v):h'.IsCell c v:=by
 obtain⟨o,ho,hd⟩:=z;obtain⟨sl,q⟩:=k c o ho λvs e=>by rw[hd] at e;cases e
 exact⟨_,q,hd⟩
def aFb(I:Inv X za σ H s)(hS:∀b∈S,H b=none/\X.s₀.heap.get? b=none/\∀p∈X.pn++za,p.1≠b)(k1:Heap.StaysIn (rS s.heap<|frs X.stack++S) h')(k4:s.heap.UpToSlots h'):Inv X za σ H {s with heap:=h'}:=by
 have stay:=λb o hb q=>k1 b o (by rw[mE hb];exact q)
 have out:∀b o,X.s₀.heap.get? b=some o->b∉X.fs->b∉frs X.stack++S:=λb o q hb hm=>by
  rcases aV.mp hm with hm|hm
  ·rcases bL.mp (I.stkSub b hm) with e|hm
   ·have lt:=aU q;rw[e] at lt;exact absurd lt<|qG.mpr I.ok.above
   ·exact hb hm
  ·rw[(hS b hm).2.1] at q;cases q
 have slot:∀b o,X.s₀.heap.get? b=some o->X.H₀ b=none->b∈X.fs->b∉X.ex->∃sl,h'.get? b=some {o with slots:=sl}:=λb o q n hb hx=>by obtain⟨sl,q1⟩:=I.base.slot b o q n hb hx;obtain⟨_,o',q2,nf⟩:=I.ok.funs.mem hb;rw[q] at q2;cases q2;obtain⟨sl2,q3⟩:=k4 b _ q1 nf;exact⟨sl2,q3⟩
 have tr:∀b u,H b=some u->b∉frs X.stack++S:=λb u e hm=>by
  rcases aV.mp hm with hm|hm
  ·rw[I.env0.frf b hm] at e;cases e
  ·rw[(hS b hm).1] at e;cases e
 obtain⟨m,hn,hl⟩:=id I.loc;refine⟨I.ok,I.os,I.bare,⟨λb o q n hb hx=>stay b o (out b o q hb)<|I.base.keep b o q n hb hx,slot,I.base.free,λb o q hx=>?_,I.base.tups,I.base.frzs,I.base.tbls⟩,⟨m,k4.ns hn,λi x v e1 e2 e3=>?_⟩,λx c e=>?_,I.free,I.freeC,λp hp=>?_,λb u e=>?_,I.len⟩
 ·by_cases hb:b∈X.fs
  ·obtain⟨sl,q2⟩:=slot b o q (I.ok.frf b hb) hb hx;exact⟨_,q2⟩
  ·obtain⟨o1,q1⟩:=I.base.there b o q hx;exact⟨o1,stay b o1 (out b o q hb) q1⟩
 ·obtain⟨u,r,q⟩:=hl i x v e1 e2 e3;refine⟨u,r,?_⟩
  rcases q with q|⟨k,c,e,z⟩
  ·exact .inl q
  ·exact .inr ⟨k,c,e,xY k4 z⟩
 ·obtain⟨v,z⟩:=I.cell x c e;exact⟨v,xY k4 z⟩
 ·obtain⟨e,n,ne,nf,d⟩:=I.pin p hp;refine⟨stay p.1 p.2 (λhm=>?_) e,n,ne,nf,d⟩
  rcases aV.mp hm with hm|hm
  ·rcases bL.mp (I.stkSub _ hm) with z|z
   ·exact ne z
   ·exact nf z
  ·exact(hS _ hm).2.2 p hp rfl
 ·refine(I.hok b u e).stay (λc v hc q=>stay c v ?_ q) (λ_ q=>q) λ_ _ q=>q
  rcases hc with z|z
  ·rw[z];exact tr b u e
  ·exact tr c _ z
def aKg(I:Inv X za σ H s)(S:StF X.K X.H₀ F H σ sd)(hpn:pn=X.pn++za):Inv {X with H₀:=F,B₀:=F,hB:=λ_ _ e _=>e,xe:=ξ,pn:=pn} [] σ H s:=by
 have n0:∀b,F b=none->X.H₀ b=none:=λb n=>by
  cases q:X.H₀ b with
  |none=>rfl
  |some u=>rw[S.base _ _ q] at n;cases n
 have fn:∀b,H b=none->F b=none:=λb n=>S.sub.free n
 subst hpn
 refine ⟨⟨I.ok.mod,I.ok.kind,I.ok.glob,I.ok.blt,I.ok.above,I.ok.inj,I.ok.has,I.ok.cab,I.ok.hd,I.ok.frames,I.ok.stk,I.ok.exf,fun b o e=>⟨(I.ok.bs b o e).1,fn b (I.bs b o e).2⟩,I.ok.bsz,I.ok.noex,I.ok.exfs,I.ok.funs,fun b hb=>?_⟩,I.os,I.bare,
  ⟨λb o q n hb hx=>I.base.keep b o q (n0 b n) hb hx,λb o q n hb hx=>I.base.slot b o q (n0 b n) hb hx,λb o q n hx=>I.base.free b o q (n0 b n) hx,I.base.there,λb xs e=>S.sub _ _ e,λb o u e=>S.sub _ _ e,λb ps e=>⟨#[],by rw[S.sub _ _ e];simp⟩⟩,I.loc,I.cell,I.free,I.freeC,λp hp=>?_,I.hok,I.len⟩
 ·obtain⟨_,o,q,_⟩:=I.ok.funs.mem hb;exact fn b<|I.base.free b o q (I.ok.frf b hb) λhx=>I.ok.exfs b hx hb
 ·rw[bG] at hp;exact I.pin p hp
def aJX{σ':St}(I0:Inv X za σ H s)(S:StF X.K X.H₀ F H σ sd)(hpn:pn=X.pn++za)(I:Inv {X with H₀:=F,B₀:=F,hB:=λ_ _ e _=>e,xe:=ξ,pn:=pn} pins' σ' H' s'):Inv X za σ' H' s':=by
 subst hpn;have nf:=λb o q n hx=>S.sub.free<|I0.base.free b o q n hx
 refine⟨I0.ok,I.os,I.bare,⟨λb o q n hb hx=>I.base.keep b o q (nf b o q n hx) hb hx,λb o q n hb hx=>I.base.slot b o q (nf b o q n hx) hb hx,λb o q n hx=>I.base.free b o q (nf b o q n hx) hx,I.base.there,λb xs e=>I.base.tups b xs<|S.base _ _ e,λb o u e=>I.base.frzs b o u<|S.base _ _ e,λb ps e=>I.base.tbls b ps<|S.base _ _ e⟩,I.loc,I.cell,I.free,I.freeC,λp hp=>I.pin p<|bN _ hp,I.hok,I.len⟩
def aIg(I:Inv X za σ H s)(hN:X.N.Nodup)(hj:X.N[j]? =some n)(hk:X.env.scope.names.lookup n=some .local)(hn:s.heap.Ns X.env.locals m)(hl:∀ (i:Nat) (x:Str) (v:V),X.N[i]? =some x->σ[i]? =some (some v)->Vis X.env.scope x->∃u,RelV v u/\aSk X.env s.heap m x u) (hn':h'.Ns X.env.locals (λx=>if x=n then v else m x)) (hs:Heap.SameBut X.env.locals s.heap h'):Inv X za (σ.set j none) H {s with heap:=h',toks:=t'}:=by
 have cne:=I.cne;have hiσ:j<σ.length:=by rw[I.len];exact(aF.mp hj).1
 refine⟨I.ok,I.os,I.bare,⟨λb o e n hb hx=>?_,λb o e n hb hx=>?_,I.base.free,λb o e hx=>?_,I.base.tups,I.base.frzs,I.base.tbls⟩,⟨_,hn',λi y v' e1 e2 e3=>?_⟩,λy c e=>?_,I.free,I.freeC,λp hp=>?_,λb ob e=>?_,by rw[aNM];exact I.len⟩
 ·exact(hs.2 b (bR<|aZ (aU e) I.ok.above)).trans<|I.base.keep b o e n hb hx
 ·obtain⟨sl,e1⟩:=I.base.slot b o e n hb hx;exact⟨sl,(hs.2 b (bR<|aZ (aU e) I.ok.above)).trans e1⟩
 ·obtain⟨o',e1⟩:=I.base.there b o e hx;exact⟨o',(hs.2 b (bR<|aZ (aU e) I.ok.above)).trans e1⟩
 ·by_cases hi:i=j
  ·subst hi;rw[iK hiσ] at e2;cases e2
  ·rw[gU<|Ne.symm hi] at e2;obtain⟨u',r',q⟩:=hl i y v' e1 e2 e3;refine⟨u',r',?_⟩
   rcases q with⟨k,e⟩|⟨k,c,e,z⟩
   ·refine .inl ⟨k,?_⟩;have:y≠n:=λe=>hi (yC hN e1<|e▸hj)
    simp[this,e]
   ·exact .inr ⟨k,c,e,z.sameBut hs<|cne y c e⟩
 ·obtain⟨w',z⟩:=I.cell y c e;exact⟨w',z.sameBut hs<|cne y c e⟩
 ·obtain⟨e,n,ne,nf,d⟩:=I.pin p hp;exact⟨(hs.2 p.1 ne).trans e,n,ne,nf,d⟩
 ·refine(I.hok b ob e).stay (λc w' hc q=>(hs.2 c ?_).trans q) (λ_ q=>q) λ_ _ q=>q
  rintro rfl
  rcases hc with z|hc
  ·have:=I.free;rw[z,e] at this;cases this
  ·rw[I.free] at hc;cases hc
variable {a T:BF}{M:Model}{Ex:BD->BE->Prop}
structure aKR(X:Cx)(za:List (BF×BI))(σ:St)(H:Hp)(s:BE)(a T:BF)(cls fl:BD):Prop where
 inv:Inv X za σ H s
 fa:H a=none/\X.s₀.heap.get? a=none/\∀p∈X.pn++za,p.1≠a
 fT:H T=none/\X.s₀.heap.get? T=none/\∀p∈X.pn++za,p.1≠T
 obj:∃oe vs oT ts a0,s.heap.get? a=some oe/\(oe.cls=cls/\vs[0]? =some a0)/\oe.data=.fields vs/\vs[1]? =some (.ref T)/\T≠a/\s.heap.get? T=some oT/\oT.data=.fields ts/\ts[3]? =some fl
def aCF(h:aKR X za σ H s a T cls fl):∀b∈[a,T],H b=none/\X.s₀.heap.get? b=none/\∀p∈X.pn++za,p.1≠b:=λb hb=>by
 simp at hb
 rcases hb with rfl|rfl
 ·exact h.fa
 ·exact h.fT
def aAG(hst:X.stack=X.env::X.outer/\X.env.frame=some X.env.locals)(hfr:A.frames=some X.stack)(hex:X.ex=[])(h:aKR X za σ H s a T cls .none)(k:∀h' T',aKR X za σ H {s with heap:=h'} a T' cls (rawInt X.env.locals)->Q () {s with heap:=h'}):AK M A (noteFrame (.ref a) X.env) Q Ex s:=by
 have hS:=aCF h;obtain⟨oe,vs,oT,ts,a0,he,hc,hd,h1,hTe,hT,hdT,h3⟩:=h.obj;have I:=h.inv;have fu:Heap.FunFrames s.heap (rS s.heap<|frs X.stack++[a,T]) X.stack:=qL I.env0.funs λb hb=>kX<|bN _ hb
 have fm:=hfr;rw[hst.1] at fm;have fu2:=fu;rw[hst.1] at fu2;have ca:(rS s.heap<|frs X.stack++[a,T]).get? a=none:=kX (aJ _<|by simp);have cT:(rS s.heap<|frs X.stack++[a,T]).get? T=none:=kX (aJ _<|by simp);refine wpAny_noteFrame_onW fm (by rw[hst.1];exact fu2) hst.2 ⟨oe,vs,T,oT,ts,he,hc,hd,h1,cT,hTe,hT,hdT,h3⟩ (λb o q=>(sS q).2) ca λh' L=>?_
 rw[<-hst.1] at L;obtain⟨k1,k2,⟨oe',vs',T',oT',ts',he',hc',hd',h1',hnT',hTe',hT',hdT',h3'⟩,k4⟩:=L;have I2:=aFb I hS k1 k4
 have Tn:s.heap.get? T'=none\/T'∈[a,T]:=by
  by_cases hm:T'∈frs X.stack++[a,T]
  ·rcases aV.mp hm with hm|hm
   ·obtain⟨_,o,q,nf⟩:=k2.mem hm;rw[hT'] at q;cases q;exact(nf ts' hdT').elim
   ·exact .inr hm
  ·rw[mE hm] at hnT';exact .inl hnT'
 refine k h' T' ⟨I2,h.fa,?_,oe',vs',oT',ts',a0,he',hc',hd',h1',hTe',hT',hdT',h3'⟩
 rcases Tn with q|q
 ·refine⟨?_,?_,λp hp z=>?_⟩
  ·cases g:H T' with
   |none=>rfl
   |some u=>obtain⟨ob,q2⟩:=pP<|I.hok T' u g;rw[q] at q2;cases q2
  ·cases g:X.s₀.heap.get? T' with
   |none=>rfl
   |some o=>obtain⟨o1,q1⟩:=I.base.there T' o g (λhb=>by rw[hex] at hb;cases hb);rw[q] at q1;cases q1
  ·have:=(I.pin p hp).1;rw[z,q] at this;cases this
 ·exact hS T' q
def mU(hst:X.stack=X.env::X.outer/\X.env.frame=some X.env.locals)(h:aKR X za σ H s a T cls fl)(k:∀h',aKR X za σ H {s with heap:=h'} a T cls (fr.elim Value.none λf=>rawInt f)->Q () {s with heap:=h'}):AK M A (setFlight (.ref a) fr) Q Ex s:=by
 have hS:=aCF h;obtain⟨oe,vs,oT,ts,a0,he,hc,hd,h1,hTe,hT,hdT,h3⟩:=h.obj;have I:=h.inv;have hsz3:=(Array.getElem?_eq_some_iff.mp h3).1
 have other:∀b,b≠T->(s.heap.update T (Obj.mapFields (·.setIfInBounds 3 (fr.elim Value.none λf=>rawInt f)))).get? b=s.heap.get? b:=
  λb hb=>cW _ _<|Ne.symm hb
 have noRecord:∀b o,s.heap.get? b=some o->(∀vs,o.data≠ .fields vs)->b≠T:=λb o hb hnf q=>by rw[q,hT] at hb;injection hb with hb;subst hb;exact hnf ts hdT
 refine AA<|wpAny_field he hd h1 ?_;refine wpAny_setField hT hdT hsz3<|k _ ⟨aFb I hS (λb o q=>?_) λb o q nf=>⟨o.slots,(other b<|noRecord b o q nf).trans q⟩,h.fa,h.fT,oe,vs,_,_,a0,(other a<|Ne.symm hTe).trans he,hc,hd,h1,hTe,gJ _ hT (Obj.isFreed_of_fields<|Obj.data_mapFields hdT _),Obj.data_mapFields hdT _,by simp[hsz3]⟩;obtain⟨q1,q2⟩:=sS q;exact(other b λz=>q1 (aJ _<|by simp[z])).trans q2
def shF(v1 v2:V)(m:BF):List (Str×V):=oZ "made" (.ref m) (oZ "stock" v2<|oZ "size" v1 [])
def nsm2:¬ ("stock":Str)="made":=by decide+kernel
def aGx(v1 v2:V)(m:BF):(shF v1 v2 m).lookup ("stock":Str)=some v2:=by unfold shF;rw[mX,zr nsm2,mX,zt rfl]
def aJo{x m:BF}{a b e c:HO}:upd (upd (upd (upd H x a) x b) m e) x c=upd (upd H m e) x c:=by
 funext z;unfold upd
 by_cases h1:z=x
 ·simp[h1]
 ·by_cases h2:z=m
  ·simp[h1,h2]
  ·simp[h1,h2]
structure pE(K:aB)(mg:Str->Option BD)(C:BF):Prop where
 cl:Cls K C
 nZ:NoAttr K C "size"
 nS:NoAttr K C "stock"
 nM:NoAttr K C "made"
 mgC:mg "Shelf"=some (.ref C)
def Inv.reB(I:Inv X za σ H s)(hn:∀b,H b=none->H' b=none)(h0:Same X.B₀ H')(ok:HOk X.prog X.w H' s.heap):Inv X za σ H' s:=by
 refine⟨I.ok,I.os,I.bare,⟨I.base.keep,I.base.slot,λb u e n hx=>hn b<|I.base.free b u e n hx,I.base.there,λb xs e=>h0 _ _<|X.hB _ _ e trivial,λb u xs e=>h0 _ _<|X.hB _ _ e trivial,λb ps e=>⟨#[],?_⟩⟩,I.loc,I.cell,hn _ I.free,λx c e=>hn _<|I.freeC x c e,λp hp=>?_,ok,I.len⟩
 ·rw[h0 _ _<|X.hB _ _ e trivial];simp
 ·obtain⟨e,n,r⟩:=I.pin p hp;exact⟨e,hn _ n,r⟩
def ShD(K:aB)(C:BF)(fs:List (Str×D))(m:BF):V->Hp->Prop:=λv F=>∃ (x dx:BF) (od:BI) (mA:Str->Option BD),v=.ref x/\F x=some (exO x<|dU C dx)/\F dx=some (exO dx od)/\dx≠x/\(∀h:BH,h.get? dx=some od->h.Ns1 dx mA)/\(∀f d,fs.lookup f=some d->∃y u,mA f=some u/\RelV y u/\Rep K F d y)/\mA "made"=some (.ref m)/\mA "book_up_to"=none
def ShD.mono{C m:BF}(h:ShD K C fs m v F)(s:Same F F'):ShD K C fs m v F':=by obtain⟨x,dx,od,mA,e,h1,h2,ne,n,q,r⟩:=h;exact⟨x,dx,od,mA,e,s _ _ h1,s _ _ h2,ne,n,λf d hf=>let ⟨y,u,a,b,c⟩:=q f d hf;⟨y,u,a,b,c.mono s⟩,r⟩
def mdO(K:aB)(m:BF)(ks:List Key)(ds:List D)(F H:Hp):Prop:=∃xs,H m=some (.dK<|ks.zip xs)/\ks.length=ds.length/\RepL K F ds xs
noncomputable def shX(K:aB)(C:BF)(fs:List (Str×D))(x m:BF)(ks:List Key)(ds:List D):Slot:=.ox [m] λv F H=>v=.ref x/\ShD K C fs m v F/\mdO K m ks ds F H
variable {a:Expr}{p pa:Pos}{ks:List Key}{fs:List (Str×D)}{C m q0:BF}{y f:Str}{j:Nat}
def aEi(S:StF X.K X.B₀ F H σ sd)(hj:sd[j]? =some (shX X.K C fs q0 m ks ds)):∃v,σ[j]? =some (some v)/\F m=none/\v=.ref q0/\ShD X.K C fs m v F/\mdO X.K m ks ds F H:=by
 obtain⟨o,h1,v,h2,q,g⟩:=S.slots.get hj;obtain⟨g0,g1,g2⟩:=g F H (Same.refl _) λl hl ob e=>e
 exact⟨v,by rw[h1,h2],(q m<|by simp).1,g0,g1,g2⟩
def wX(j:Nat)(hj:sd[j]? =some (shX X.K C fs q0 m ks ds))(hy:PE X (.Name y p) (iQ j))(hc:Cls X.K C)(hn:NoAttr X.K C f)(hf:fs.lookup f=some d)(hb:Ag (.Name y p) f X.env (eval (.Name y p) X.env)=eval (.Name y p) X.env:=by rfl):PEd X sd (.Attribute (.Name y p) f pos) (.val d):=.mk λσ F H S za s I=>by
 obtain⟨v,h1,_,_,⟨x,dx,od,mA,rfl,e1,e2,ne,ns,q,_⟩,_⟩:=aEi S hj;obtain⟨y0,u0,hm,ru,rp⟩:=q f d hf;refine aBr hb<|thn (hy za s σ H (λv' H'=>v'=.ref x/\H'=H) I ⟨.ref x,h1,rfl,rfl⟩) λu s1 ⟨v',H',I1,r1,ev,eH⟩=>?_;subst ev eH;cases(r1);have g1:=(I1.hok x _<|S.sub _ _ e1).1;have g2:=(I1.hok dx _<|S.sub _ _ e2).1;exact aBb I1.kIn ⟨g1,ns _ g2,ne⟩ (hc.get f) hc.hd hn hm (uP ru) ⟨y0,H',I1.tok _,ru,F,S,Same.refl _,rp⟩
def aBd(S:StF X.K X.B₀ F H σ sd)(hj:sd[j]? =some (shX X.K C fs q0 m ks ds))(hy:PE X (.Name y p) (iQ j))(hc:Cls X.K C)(hn:NoAttr X.K C "made")(hb:Ag (.Name y p) "made" X.env (eval (.Name y p) X.env)=eval (.Name y p) X.env:=by rfl):wE X (.Attribute (.Name y p) "made" pa) σ H λv H'=>v=.ref m/\H'=H:=λza s I=>by
 obtain⟨v,h1,_,_,⟨x,dx,od,mA,rfl,e1,e2,ne,ns,_,hm,_⟩,_⟩:=aEi S hj;refine aBr hb<|thn (hy za s σ H (λv' H'=>v'=.ref x/\H'=H) I ⟨.ref x,h1,rfl,rfl⟩) λu s1 ⟨v',H',I1,r1,ev,eH⟩=>?_;subst ev eH;cases(r1);have g1:=(I1.hok x _<|S.sub _ _ e1).1;have g2:=(I1.hok dx _<|S.sub _ _ e2).1;exact aBb I1.kIn ⟨g1,ns _ g2,ne⟩ (hc.get "made") hc.hd hn hm (uP (v:=.ref m) rfl) ⟨.ref m,H',I1.tok _,rfl,rfl,rfl⟩
theorem yI{n:Nat}{k:Int}(j:Nat)(hu:X.A.units+1<AR)(hj:sd[j]? =some (shX X.K C fs q0 m ks ds))(hy:PE X (.Name y p) (iQ j))(hc:Cls X.K C)(hn:NoAttr X.K C "made")(hb:PEd X sd b (.val<|.int k))(nd:ks.Nodup)(hk:ks[n]? =some (.inl k))(hd:ds[n]? =some d)(hs:aQl b)(hab:Ag (.Name y p) "made" X.env (eval (.Name y p) X.env)=eval (.Name y p) X.env:=by rfl):PEd X sd (.Subscript (.Attribute (.Name y p) "made" pa) b pos) (.val d):=.mk λσ F H S=>
 (aMf hu eO eO hs).to ((aBd S hj hy hc hn hab).imp fun v H1 ⟨e1,e2⟩=>by
  subst e1 e2;refine(hb σ F H1 S).imp λu H2 ⟨F2,S2,s2,q2⟩=>?_
  subst q2;obtain⟨_,_,_,_,_,xs,q,ln,rl⟩:=aEi S2 hj;obtain⟨w,hw,rw'⟩:=rl.get hd;have g:aNC H2 m (kV<|.inl k) (jG (ks.zip xs)<|.inl k):=.inl ⟨_,.inl k,.inl q,rfl,rfl⟩;rw[aBv nd hk hw] at g
  exact⟨m,w,rfl,g,F2,S2,s2,rw'⟩)
theorem aBI{k:Int}{p2:Pos}(j:Nat)(hu:X.A.units+1<AR)(hj:sd[j]? =some (shX X.K C fs q0 m ks ds))(hy:PE X (.Name y p) (iQ j))(hc:Cls X.K C)(hn:NoAttr X.K C "made")(h:PEd X sd e (.val d))(hb:PEd X sd b (.val<|.int k))(hk:(.inl k:Key)∉ks)(hl:ds.length<=10000)(hE:E.nx (sd.set j (shX X.K C fs q0 m (ks++[.inl k])<|ds++[d])))(hab:Ag (.Name y p) "made" X.env (eval (.Name y p) X.env)=eval (.Name y p) X.env:=by rfl) (hsw:Ab e (some<|.Subscript (.Attribute (.Name y p) "made" pa) b p2) pos.line X.env=pure false:=by rfl):PSd1 X sd (.Assign [.Subscript (.Attribute (.Name y p) "made" pa) b p2] e pos) E:=.mk λσ F H S=>
 (aMN hu eO eO eO hsw).to ((h σ F H S).imp fun v H1 ⟨F1,S1,s1,q1⟩=>by
  refine(aBd S1 hj hy hc hn hab).imp λv2 H2 ⟨e1,e2⟩=>?_
  subst e1 e2;refine(hb σ F1 H2 S1).imp λu H3 ⟨F2,S2,s2,q2⟩=>?_
  subst q2;obtain⟨w,hw,fm,ew,sh,xs,q,ln,rl⟩:=aEi S2 hj;have lz:ks.length=xs.length:=by rw[ln,rl.len]
  have vn:jG (ks.zip xs) (.inl k)=none:=qV hk λ_ z=>z
  refine⟨m,_,rfl,DPut.k (k:=.inl k) q (by rw[mD,<-lz,qH,ln];exact eY hl),?_⟩;rw[tH v vn,<-aIT lz];refine⟨_,F2,S2.reX (z':=shX X.K C fs q0 m (ks++[.inl k])<|ds++[d]) hj hw (λc o hc' e=>by rw[aW (λz=>hc'<|by rw[z];simp[shX,iM])];exact e) (λc o e=>?_) ⟨w,rfl,λl hl=>?_,λF' H' sF kp=>⟨ew,sh.mono sF,xs++[v],kp m (by simp) _ bH,by rw[aP,aP,ln];rfl,(rl.app (.one<|Rep.mono s2 q1)).mono sF⟩⟩ (by simp[shX,iM]) (λl hl=>.inl<|by simpa[shX,iM] using hl),s1.trans s2,hE⟩
  ·by_cases z:c=m
   ·subst z;rw[bH] at e;cases e;trivial
   ·rw[aW z] at e;exact S2.smp _ _ e
  ·rw[aK.mp hl]
   exact⟨fm,_,bH,trivial⟩)
def VP:R->Prop
 |.val _=>True
 |.pr _ _=>True
 |_=>False
def ResOk.chg(hr:VP r)(h:ResOk K F H sd r v)(s:Same H H')(ho:∀l∈cS sd',l∈cS sd\/H l=none):ResOk K F H' sd' r v:=by
 cases r with
 |val d=>exact h
 |pr d ls=>
  obtain⟨t,l,xs,y,e,f,g,n,q,rl,no⟩:=h;refine⟨t,l,xs,y,e,f,g,n,s _ _ q,rl,λhl=>?_⟩
  rcases ho l hl with z|z
  ·exact no z
  ·rw[q] at z;cases z
 |_=>exact hr.elim
variable (Z:Lent K)
def aQr(n:Nat)(C:Z.α->List D->R->Prop):Sp:=λvs H Q _=>vs.length=n/\∃ (v:V) (us:List V) (F:Hp) (a:Z.α) (ds:List D) (r:R),vs=v::us/\Same F H/\(∀b,b∉Z.own a->H b=F b)/\Smp H/\eF K F H (Z.sl a) (some v)/\(Z.own a).Nodup/\RepL K F ds us/\C a ds r/\VP r/\
 ∀v' H',(∃F',Same F F'/\Same F' H'/\Smp H'/\eF K F' H' (Z.sl a) (some v)/\ResOk K F' H' [Z.sl a] r v')->Q v' H'
def aSc(n:Nat)(C:Z.α->List D->R->Prop):Sp:=λvs H Q _=>vs.length=n/\Smp H/\∃ (v:V) (us:List V) (F:Hp) (a:Z.α) (ds:List D) (r:R),vs=v::us/\Same F H/\eF K F H (Z.sl a) (some v)/\(Z.own a).Nodup/\RepL K F ds us/\C a ds r/\VP r/\
 ∀v' F' H',Same F F'->Same F' H'->Smp H'->eF K F' H' (Z.sl a) (some v)->(∀sd,(∀b∈cS sd,b∈Z.own a\/(∃o,H b=some o)/\F b=none)->ResOk K F' H' sd r v')->(∀b o,b∉Z.own a->H b=some o->H' b=some o)->(∀b o,b∉Z.own a->H b=some o->F b=none->F' b=none/\b∉Z.own a)->Q v' H'
def vlC(C:Z.α->List D->D->Prop):Z.α->List D->R->Prop:=λa ds r=>∃d,r=.val d/\C a ds d
def aNB(n:Nat)(C:Z.α->List D->D->Prop):Sp:=aQr Z n<|vlC Z C
def aQk(n:Nat)(C:Z.α->List D->D->Prop):Sp:=λvs H Q _=>vs.length=n/\Smp H/\∃ (v:V) (us:List V) (F:Hp) (a:Z.α) (ds:List D) (d:D),vs=v::us/\Same F H/\eF K F H (Z.sl a) (some v)/\(Z.own a).Nodup/\RepL K F ds us/\C a ds d/\
 ∀v' F' H',Same F F'->Same F' H'->Smp H'->eF K F' H' (Z.sl a) (some v)->Rep K F' d v'->(∀b o,b∉Z.own a->H b=some o->H' b=some o)->(∀b o,b∉Z.own a->H b=some o->F b=none->F' b=none/\b∉Z.own a)->Q v' H'
noncomputable def rtV(a:Z.α)(d:D):R:=.ox λv as F H=>as=Z.own a/\Rep K F d v/\Z.G a (.ref<|Z.ad a) F H
def rtR(a:Z.α):R->R
 |.pr d ls=>.ox λv as F H=>∃t l xs y,as=Z.own a++[l]/\v=.ref t/\F t=some (.tup [y,.ref l])/\Rep K F d y/\H l=some (.lst xs)/\RepL K F ls xs/\∀F2 H2,Same F F2->(∀b∈Z.own a,∀ob,H b=some ob->H2 b=some ob)->Z.G a (.ref<|Z.ad a) F2 H2
 |.val d=>rtV Z a d
 |r=>r
def FnOk.framedR{Z:Lent K}{n:Nat}{f:BF}{C:Z.α->List D->R->Prop}(G:FnOk P w K mg base CX0 k f fd ps (aQr Z n C)):FnOk P w K mg base CX0 k f fd ps (aSc Z n C):=by
 have res:∀ {F H:Hp}{a:Z.α}{v:V},Same F H->eF K F H (Z.sl a) (some v)->Same F (lJ (Z.own a) F H)/\Same (lJ (Z.own a) F H) H/\eF K F (lJ (Z.own a) F H) (Z.sl a) (some v):=λ{F H a v} sF so=>by
  obtain⟨v',ev,ow,gg⟩:=so;refine⟨λb o e=>?_,λb o e=>?_,v',ev,λb hb=>⟨(ow b hb).1,?_⟩,λF' H' s k=>gg F' H' s λb hb ob e=>k b hb ob<|by rw[lW hb];exact e⟩
  ·by_cases h:b∈Z.own a
   ·rw[(ow b h).1] at e;cases e
   ·rw[iB h];exact e
  ·by_cases h:b∈Z.own a
   ·rw[lW h] at e;exact e
   ·rw[iB h] at e;exact sF b o e
  ·rw[lW hb];exact(ow b hb).2
 refine⟨λvs H Q E h=>?_,λA outer s H args us vs Q E hr e0 hb rv h=>?_⟩
 ·obtain⟨hl,sm,v,us,F,a,ds,d,e,sF,so,nd,rl,c,vp,_⟩:=h;obtain⟨q1,q2,q3⟩:=res sF so;exact G.len vs (lJ (Z.own a) F H) (λ_ _=>True) E ⟨hl,v,us,F,a,ds,d,e,q1,λb hb=>iB hb,sm.sub q2,q3,nd,rl,c,vp,λ_ _ _=>trivial⟩
 ·obtain⟨hl,sm,v,us',F,a,ds,d,ev,sF,so,nd,rl,c,vp,q⟩:=h;obtain⟨q1,sU,q3⟩:=res sF so;obtain⟨_,_,ow,_⟩:=id so;have nU:∀b,b∉Z.own a->F b=none->lJ (Z.own a) F H b=none:=λb hbl n=>by rw[iB hbl];exact n
  have e1:Env0 P w K mg base A outer s (lJ (Z.own a) F H):=⟨e0.frames,e0.mod,λb o e=>⟨(e0.bs b o e).1,sU.free (e0.bs b o e).2⟩,e0.bsz,e0.funs,λb hb=>sU.free<|e0.frf b hb,λb o e=>(e0.hok b o<|sU b o e).smp (sm b o<|sU b o e),e0.bare⟩;refine Aq (G.run A outer s (lJ (Z.own a) F H) args us vs (λv3 F3=>∃F',Same F F'/\Same F' F3/\Smp F3/\eF K F' F3 (Z.sl a) (some v)/\ResOk K F' F3 [Z.sl a] d v3) E hr e1 hb rv ⟨hl,v,us',F,a,ds,d,ev,q1,λb hb=>iB hb,sm.sub sU,q3,nd,rl,c,vp,λv' H' z=>z⟩) λrr s' hrr=>?_
  cases rr with
  |error e=>exact hrr
  |ok flw=>
   cases flw with
   |ret u=>
    obtain⟨v3,F3,ho,ha,un,hk,ru,F2,s1,s2,sm3,so3,rp3⟩:=hrr
    have keepF:∀b o,b∉Z.own a->H b=some o->F b=none->F3 b=none:=λb o hbl e n=>by
     have lt:=e0.hok.lt e;cases g:s.heap.get? b with
     |none=>
      exfalso;have ob:=e0.hok b o e;have z:=sm b o e;cases o with
      |lst xs=>obtain⟨_,_,_,_,g'⟩:=ob;rw[g] at g';cases g'
      |tup xs=>obtain⟨_,_,_,oo,g',_⟩:=ob;rw[g] at g';cases g'
      |dK kvs=>obtain⟨_,_,_,_,oo,_,_,g',_⟩:=ob;rw[g] at g';cases g'
      |frz o2 u2=>obtain⟨g',_⟩:=ob;rw[g] at g';cases g'
      |ext φ=>obtain⟨_,⟨oo,g'⟩,_⟩:=ob;rw[g] at g';cases g'
      |_=>exact z
     |some ob=>exact un.free b ob g (nU b hbl n)<|by simp
    have keepO:∀b o,b∉Z.own a->H b=some o->F b=none->∀ob,s.heap.get? b=some ob->s'.heap.get? b=some ob:=λb o hbl e n ob g=>un.keep b ob g (nU b hbl n) (λhb=>by have:=e0.frf b hb;rw[e] at this;cases this)<|by simp
    have sH:∀b o,b∉Z.own a->H b=some o->gD (Z.own a) F3 H b=some o:=λb o hbl e=>by
     cases g:F b with
     |none=>rw[gL hbl<|keepF b o hbl e g];exact e
     |some o'=>have:=sF b o' g;rw[e] at this;cases this;exact fY _ _ (s2 _ _<|s1 _ _ g)
    have nl:∀ {b:BF}{o:HO},H b=some o->¬ Wr b o->b∉Z.own a:=λe no z=>by obtain⟨_,ob,g,wr⟩:=ow _ z;rw[e] at g;cases g;exact no wr
    have nn:∀ {b:BF},H b=none->b∉Z.own a:=λe z=>by obtain⟨_,ob,g,_⟩:=ow _ z;rw[e] at g;cases g
    have smM:Smp (gD (Z.own a) F3 H):=λb o e=>by
     by_cases hbl:b∈Z.own a
     ·unfold gD at e;rw[zt hbl] at e;exact sm3 _ o e
     ·cases g:F3 b with
      |some o'=>have:=fY (as:=Z.own a) (H:=H) b o' g;rw[e] at this;cases this;exact sm3 b o g
      |none=>rw[gL hbl g] at e;exact sm b o e
    have soM:eF K F2 (gD (Z.own a) F3 H) (Z.sl a) (some v):=by obtain⟨v',ev,ow3,gg⟩:=so3;refine⟨v',ev,λb hb=>⟨(ow3 b hb).1,?_⟩,λF' H' s k=>gg F' H' s λb hb ob e=>k b hb ob<|fY _ _ e⟩;obtain⟨_,ob,g,wr⟩:=ow3 b hb;exact⟨ob,fY _ _ g,wr⟩
    refine⟨v3,gD (Z.own a) F3 H,ho,ha,⟨λb o g n hb hx=>un.keep b o g (sU.free n) hb hx,λb o g n hb hx=>un.slot b o g (sU.free n) hb hx,λb o g n hx=>?_,un.there,λb xs e=>sH _ _ (nl e λz=>z) e,λb o u e=>sH _ _ (nl e λz=>z) e,λb ps e=>⟨#[],by rw[sH _ _ (nl e λz=>z) e];simp⟩⟩,λb o e=>?_,ru,?_⟩
    ·rw[gL (nn n)<|un.free b o g (sU.free n) hx];exact n
    ·have z:=smM b o e
     by_cases hbl:b∈Z.own a
     ·have e':F3 b=some o:=by unfold gD at e;rw[zt hbl] at e;exact e
      exact(hk b o e').smp z
     ·cases g:F3 b with
      |some o'=>have:=fY (as:=Z.own a) (H:=H) b o' g;rw[e] at this;cases this;exact(hk b o g).smp z
      |none=>
       rw[gL hbl g] at e
       have n:F b=none:=by
        cases g2:F b with
        |none=>rfl
        |some o2=>rw[s2 _ _<|s1 _ _ g2] at g;cases g
       have st:=(e0.hok b o e).smp (F:=λ_=>none) z
       have:ObjOk P w (fun _=>none) s'.heap b o:=st.stay (fun b2 u hb2 gg=>by
        rcases hb2 with rfl|hb2
        ·exact keepO _ o hbl e n u gg
        ·cases hb2) (λb2 hb2=>nomatch hb2) λb2 xs hb2=>nomatch hb2
       exact this.smp z
    ·refine q v3 F2 (gD (Z.own a) F3 H) s1 (s2.trans fY) smM soM (λsd hsd=>rp3.chg vp fY λb hb=>(hsd b hb).elim (λz=>.inl<|by simpa[cS,iM,Lent.sl] using z) λz=>if hbl:b∈Z.own a then .inl (by simpa[cS,iM,Lent.sl] using hbl) else .inr (let ⟨o,e⟩:=z.1;keepF b o hbl e z.2)) sH λb o hbl e n=>?_
     have n3:=keepF b o hbl e n;refine⟨s2.free n3,λhb=>?_⟩;obtain⟨_,_,ow3,_⟩:=so3;obtain⟨_,ob,g,_⟩:=ow3 b hb;rw[n3] at g;cases g
   |_=>exact hrr
def FnOk.weak{f:BF}(G:FnOk P w K mg base CX0 k f fd ps S1)(h:∀vs H Q E,S2 vs H Q E->S1 vs H Q E):FnOk P w K mg base CX0 k f fd ps S2:=⟨λvs H Q E z=>G.len vs H Q E<|h _ _ _ _ z,λA outer s H args us vs Q E hr e0 hb rv z=>G.run A outer s H args us vs Q E hr e0 hb rv<|h _ _ _ _ z⟩
def FnOk.framedV{Z:Lent K}{n:Nat}{f:BF}{C:Z.α->List D->D->Prop}(G:FnOk P w K mg base CX0 k f fd ps (aNB Z n C)):FnOk P w K mg base CX0 k f fd ps (aQk Z n C):=FnOk.weak (FnOk.framedR G) λvs H Q E h=>by obtain⟨hl,sm,v,us,F,a,ds,d,ev,sF,so,nd,rl,c,q⟩:=h;exact⟨hl,sm,v,us,F,a,ds,.val d,ev,sF,so,nd,rl,⟨d,rfl,c⟩,trivial,λv' F' H' s1 s2 sm' so' res kp kf=>q v' F' H' s1 s2 sm' so' (res [] λb hb=>by cases hb) kp kf⟩
theorem aJT{Z:Lent K}{f:BF}{C:Z.α->List D->R->Prop}(F:Fun K x qual st f fd)(S:iD N ps (aN st))(body:∀ (cdv:BD) (A:BG) (outer:List Env) (s:BE) (H:Hp) (E:XK) (B:Hp) (hB:∀b o,H b=some o→nL o→B b=some o),Room k (A.deeper (Ad qual (aN st) s.heap.objs.size f cdv))→∀a ds r,ds.length+1=ps.length→C a ds r→PSd (reB (gO CX0 P w K mg base N qual (aN st) f cdv A outer s H E).nox B hB) (lG Z N.length a ds) (cF st) {nx:=λ_=>False,rt:=λr'=>r'=rtR Z a r})
  (hw:∀ (a:Z.α) (v:V) (F H:Hp) (b:BF) (o:HO),Z.G a v F H->b∈Z.own a->H b=some o->¬ nL o):FnOk P w K mg base CX0 (k+1) f fd ps (aQr Z ps.length C):=by
 refine F.ok S (λvs H Q E h=>h.1) λcdv A outer s H vs Q E hr h=>?_
 obtain⟨hl,v,us,F0,a,ds,d,rfl,sF,hH,sm,so,nd,rl,c,vp,q⟩:=h;have hds:ds.length+1=ps.length:=by rw[<-rl.len];exact hl
 have hB:∀b o,H b=some o->nL o->F0 b=some o:=λb o e no=>by
  by_cases hbl:b∈Z.own a
  ·obtain⟨_,_,_,gg⟩:=so;exact absurd no<|hw a _ F0 H b o (gg F0 H (Same.refl _) λ_ _ _ e=>e) hbl e
  ·rw[<-hH b hbl];exact e
 refine⟨_,pss_w,aBe (hb:=hB) ?_⟩;have hlen:N.length-(us.length+1)=N.length-(ds.length+1):=by rw[rl.len]
 have S0:StF K F0 F0 H (L2.start N (v::us)) (lG Z N.length a ds):=by
  refine⟨Same.refl _,sF,sm,?_,?_⟩
  ·show SlotsOk K F0 _ (_::_) (some v::(us.map some++bP (N.length-(us.length+1)) none));rw[hlen];exact⟨_,_,rfl,so,jO (m:=0) rl⟩
  ·unfold lG;rw[mJ,jP,bG];exact nd
 refine(body cdv A outer s _ E F0 hB hr a ds d hds c (L2.start N (v::us)) F0 _ S0).imp (λ_ _ ⟨_,_,_,_,z⟩=>z.elim) ?_ (λ_ _ ⟨_,_,_,_,z⟩=>z) λ_ _ ⟨_,_,_,_,z⟩=>z
 rintro v' H' ⟨r',ro,e⟩;subst e;obtain⟨v0,ev,_,g0⟩:=so;cases ev;have e0:=Z.hv<|g0 F0 H (Same.refl _) λ_ _ _ e=>e;cases d with
 |val d=>
  obtain⟨F',b1,b2,b3,as,nd',ow,gg⟩:=ro;obtain⟨e1,e2,e3⟩:=gg F' H' (Same.refl _) λ_ _ _ e=>e
  subst e1;refine q v' H' ⟨F',b1,b2,b3,⟨v,rfl,λl hl=>⟨(ow l hl).1,(ow l hl).2.1⟩,λF2 H2 s2 k2=>?_⟩,e2⟩;rw[e0];exact(gg F2 H2 s2 k2).2.2
 |pr d ls=>
  obtain⟨F',b1,b2,b3,as,nd',ow,gg⟩:=ro;obtain⟨t,l,xs,y,e1,e2,e3,e4,e5,e6,e7⟩:=gg F' H' (Same.refl _) λ_ _ _ e=>e
  subst e1;have nl:=λz=>(bK.mp nd').2.2 l z l (by simp) rfl
  refine q v' H' ⟨F',b1,b2,b3,⟨v,rfl,λl hl=>⟨(ow l<|bN _ hl).1,(ow l<|bN _ hl).2.1⟩,λF2 H2 s2 k2=>?_⟩,t,l,xs,y,e2,e3,e4,(ow l<|by simp).1,e5,e6,by simpa[cS,iM,Lent.sl] using nl⟩;rw[e0];exact e7 F2 H2 s2 k2
 |_=>exact vp.elim
def aES{Z:Lent K}{f:BF}{C:Z.α->List D->D->Prop}(F:Fun K x qual st f fd)(S:iD N ps (aN st))(body:∀ (cdv:BD) (A:BG) (outer:List Env) (s:BE) (H:Hp) (E:XK) (B:Hp) (hB:∀b o,H b=some o→nL o→B b=some o),Room k (A.deeper (Ad qual (aN st) s.heap.objs.size f cdv))→∀a ds d,ds.length+1=ps.length→C a ds d→PSd (reB (gO CX0 P w K mg base N qual (aN st) f cdv A outer s H E).nox B hB) (lG Z N.length a ds) (cF st) {nx:=λ_=>False,rt:=λr=>r=rtV Z a d})
  (hw:∀ (a:Z.α) (v:V) (F H:Hp) (b:BF) (o:HO),Z.G a v F H→b∈Z.own a→H b=some o→¬ nL o):FnOk P w K mg base CX0 (k+1) f fd ps (aNB Z ps.length C):=aJT F S (fun cdv A outer s H E B hB hr a ds r hl c=>by
 obtain⟨d,rfl,c⟩:=c
 exact body cdv A outer s H E B hB hr a ds d hl c) hw
noncomputable def shL(K:aB)(C:BF)(fs:List (Str×D))(J:List Key->List D->Prop):Lent K where
 α:=BF×BF
 ad a:=a.1
 own a:=[a.2]
 G a v F H:=v=.ref a.1/\ShD K C fs a.2 v F/\∃ks ds,J ks ds/\mdO K a.2 ks ds F H
 hv h:=h.1
variable {J:List Key->List D->Prop}{sts:List BJ}
def aAl(i:Nat){a:BF×BF}(hs:sd[i]? =some ((shL X.K C fs J).sl a))(h:∀ks ds,J ks ds->PSd X (sd.set i<|shX X.K C fs a.1 a.2 ks ds) sts E):PSd X sd sts E:=.mk λσ F H S=>by
 obtain⟨o,h1,v,h2,q,g⟩:=S.slots.get hs;obtain⟨ev,g1,ks,ds,hj,xs,q1,q2,q3⟩:=g F H (Same.refl _) λ_ _ _ e=>e
 have S2:StF X.K X.B₀ F H σ (sd.set i<|shX X.K C fs a.1 a.2 ks ds):=S.reX hs h1 (λ_ _ _ e=>e) S.smp ⟨v,h2,q,λF' H' sF k=>⟨ev,g1.mono sF,xs,k _ (by simp) _ q1,q2,q3.mono sF⟩⟩ (by simp[shX,iM]) (λl hl=>.inl<|by simpa[shX,iM,Lent.sl,shL] using hl);exact h ks ds hj σ F H S2
theorem tJ{Z:Lent X.K}{a:Z.α}(i:Nat)(hs:sd[i]? =some (Z.sl a))(h:PEd X sd e (.val d))(hE:E.rt (rtV Z a d)):PSd1 X sd (.Return (some e) pos) E:=.mk λσ F H S=>
 (rN eO).to ((h σ F H S).imp fun v H1 ⟨F1,S1,s1,q1⟩=>by
  obtain⟨o,h1,v0,h2,ow,gg⟩:=S1.slots.get hs;have ev:=Z.hv<|gg F1 H1 (Same.refl _) λ_ _ _ e=>e;subst ev
  exact⟨rtV Z a d,⟨F1,S1.base,S1.sub,S1.smp,Z.own a,gQ S1.nd hs,λl hl=>⟨(ow l hl).1,(ow l hl).2,by simp[cS]⟩,λF' H' sF k=>⟨rfl,Rep.mono sF q1,gg F' H' sF k⟩⟩,hE⟩)
theorem aCK{a:BF×BF}(i:Nat)(hs:sd[i]? =some (shX X.K C fs a.1 a.2 ks ds))(hJ:J ks ds)(h:PEd X sd e (.val d))(hE:E.rt (rtV (shL X.K C fs J) a d)):PSd1 X sd (.Return (some e) pos) E:=.mk λσ F H S=>
 (rN eO).to ((h σ F H S).imp fun v H1 ⟨F1,S1,s1,q1⟩=>by
  obtain⟨o,h1,v0,h2,ow,gg⟩:=S1.slots.get hs
  exact ⟨rtV (shL X.K C fs J) a d,⟨F1,S1.base,S1.sub,S1.smp,[a.2],gQ S1.nd hs,fun l hl=>⟨(ow l hl).1,(ow l hl).2,by simp [cS]⟩,fun F' H' sF k=>⟨rfl,Rep.mono sF q1,by
   obtain⟨g0,g1,g2⟩:=gg F' H' sF k;subst g0
   exact⟨rfl,g1,ks,ds,hJ,g2⟩⟩⟩,hE⟩)
def mZ{a:BF×BF}(j:Nat)(hj:sd[j]? =some ((shL X.K C fs J).sl a))(hy:PE X (.Name y p) (iQ j))(hc:Cls X.K C)(hn:NoAttr X.K C f)(hf:fs.lookup f=some d)(hb:Ag (.Name y p) f X.env (eval (.Name y p) X.env)=eval (.Name y p) X.env:=by rfl):PEd X sd (.Attribute (.Name y p) f pos) (.val d):=.mk λσ F H S za s I=>by
 obtain⟨o,h1,v,h2,_,gg⟩:=S.slots.get hj;obtain⟨_,⟨x,dx,od,mA,rfl,e1,e2,ne,ns,q,_⟩,_⟩:=gg F H (Same.refl _) λ_ _ _ e=>e
 obtain⟨y0,u0,hm,ru,rp⟩:=q f d hf;refine aBr hb<|thn (hy za s σ H (λv' H'=>v'=.ref x/\H'=H) I ⟨.ref x,by rw[h1,h2],rfl,rfl⟩) λu s1 ⟨v',H',I1,r1,ev,eH⟩=>?_;subst ev eH;cases(r1);have g1:=(I1.hok x _<|S.sub _ _ e1).1;have g2:=(I1.hok dx _<|S.sub _ _ e2).1;exact aBb I1.kIn ⟨g1,ns _ g2,ne⟩ (hc.get f) hc.hd hn hm (uP ru) ⟨y0,H',I1.tok _,ru,F,S,Same.refl _,rp⟩
theorem pR{k:Int}(j:Nat)(hu:X.A.units+1<AR)(hj:sd[j]? =some (shX X.K C fs q0 m ks ds))(hy:PE X (.Name y p) (iQ j))(hc:Cls X.K C)(hn:NoAttr X.K C "made")(hb:PEd X sd b (.val<|.int k))(t:Bool)(ht:∀xs:List V,ks.length=xs.length->(jG (ks.zip xs)<|.inl k).isSome= !t)(hab:Ag (.Name y p) "made" X.env (eval (.Name y p) X.env)=eval (.Name y p) X.env:=by rfl)(hbm:AX .NotIn (.Attribute (.Name y p) "made" pa)=false:=by rfl):PTd X sd (.Compare b [.NotIn] [.Attribute (.Name y p) "made" pa] pos) t:=.mk λσ F H S=>
 (aOW (aGY hu eO eO) hbm).to ((hb σ F H S).imp fun u H1 ⟨F1,S1,s1,q1⟩=>by
  subst q1;refine(aBd S1 hj hy hc hn hab).imp λv H2 ⟨e1,e2⟩=>?_
  subst e1 e2;obtain⟨_,_,_,_,_,xs,q,ln,rl⟩:=aEi S1 hj;refine⟨m,jG (ks.zip xs)<|.inl k,rfl,.inl ⟨_,.inl k,.inl q,rfl,rfl⟩,?_⟩;rw[ht xs<|by rw[ln,rl.len]]
  exact⟨t,by simp,rfl,F1,S1,s1⟩)
structure jL(P:AD)(w:AL)(K:aB)(Z:Lent K)(mg:Str->Option BD)(base:BH)(x:Str)(k n:Nat)(C:Z.α->List D->D->Prop):Prop where
 ex:∃ (f:BF) (fd:AN) (ps:List Str),mg x=some (.ref f)/\cK K (.ref f)=true/\Binds K fd ps []/\FnOk P w K mg base CX0 k f fd ps (aNB Z n C)
def aLu(K:aB)(C:BF)(m:Str)(x:BF)(F:Hp):Prop:=∃ (dx:BF) (od:BI) (mA:Str->Option BD),F x=some (exO x<|dU C dx)/\F dx=some (exO dx od)/\dx≠x/\(∀h:BH,h.get? dx=some od->h.Ns1 dx mA)/\mA m=none
variable {p2 apos:Pos}{Cl f:BF}{m g:Str}{n:Nat}
def aSv{Z:Lent X.K}{C:Z.α->List D->D->Prop}{a:Z.α}{E:XK}(i:Nat)(hs:sd[i]? =some (Z.sl a))(S:StF X.K X.B₀ F H σ sd)(hv:σ[i]? =some (some v))(rl:RepL X.K F ds us)(hc:C a ds d)(hn:ds.length+1=n)(q:∀v' F' H',StF X.K X.B₀ F' H' σ sd->Same F F'->Rep X.K F' d v'->Q v' H'):aQk Z n C (v::us) H Q E:=by
 obtain⟨o1,g1,so⟩:=S.slots.get hs
 have eo:=by rw[hv] at g1;exact(bZ.inj g1).symm
 subst eo;refine⟨by rw[bJ,rl.len];exact hn,S.smp,v,us,F,a,ds,d,rfl,S.sub,so,gQ S.nd hs,rl,hc,λv' F' H' s2 s3 sm so' rp kp kf=>q v' F' H' ?_ s2 rp⟩;have S2:=S.le<|gK sd i;have no:=λb hb z=>gR S.nd hs (show b∈iM (Z.sl a) from z) hb
 have S3:StF X.K X.B₀ F' H' σ (sd.set i .un):=⟨fun b o e=>s2 _ _ (S.base _ _ e),s3,sm,S2.slots.mono s2 fun b hb=>by
  obtain⟨n1,ob,e,_⟩:=S2.slots.owns hb
  exact⟨(kf b ob (no b hb) e n1).1,λxs e'=>kp b xs (no b hb) e'⟩,S2.nd⟩
 have S4:=S3.setT i so' (gQ S.nd hs) λb hb hb2=>by obtain⟨n1,ob,e,_⟩:=S2.slots.owns hb2;exact(kf b ob (no b hb2) e n1).2 hb
 rw[jX,mK g1] at S4
 have es:sd.set i (Slot.ox (Z.own a)<|Z.G a)=sd:=by obtain⟨hi,e⟩:=aF.mp hs;rw[show Slot.ox (Z.own a) (Z.G a)=sd[i] from e.symm];exact qY hi
 rw[es] at S4;exact S4
theorem aCU{Z:Lent X.K}{C:Z.α->List D->D->Prop}{a:Z.α}(i:Nat)(hs:sd[i]? =some (Z.sl a))(hxi:PE X (.Name x p2) (iQ i))(G:jL X.prog X.w X.K Z X.mg X.base g k n C)(hr:Room k X.A)(hg:Gl X g)(ha:PAd X sd es (ds.map R.val))(hc:C a ds d)(hn:ds.length+1=n)(hdb:(g==("__debug__":Str))=false:=by decide) (he:AB (.Name x p2::es) X.env=(false,eval (.Name x p2) X.env)::AB es X.env:=by rfl) (hpl:(AV pos<|AB es X.env).any (·.1)=false:=by rfl):PEd X sd (.Call (.Name g p) (.Name x p2::es) [] pos) (.val d):=.mk λσ F H S=>by
 obtain⟨fa,fd,ps,hm,hkp,bd,G⟩:=G.ex;obtain⟨o0,h1,v,h2,_⟩:=S.slots.get hs;refine(qQ (FnOk.framedV G) hr hg hm hkp bd .nil tR (cO hxi pN he) hdb he hpl).to ⟨v,by rw[h1,h2],(ha σ F H S).imp λus H1 ⟨F1,S1,s1,q1⟩=>?_⟩;show aQk Z n C (v::us++[]) H1 _ _;rw[bG];exact aSv i hs S1 (by rw[h1,h2]) q1.vals hc hn λv' F' H' S' s' r'=>⟨F',S',s1.trans s',r'⟩
theorem aIO{pl:Sem Bool}{Z:Lent X.K}{C:Z.α->List D->D->Prop}{a:Z.α}(i:Nat)(hs:sd[i]? =some (Z.sl a))(hxi:PE X (.Name x p2) (iQ i))(hi:∀F H,Z.G a (.ref<|Z.ad a) F H->aLu X.K Cl m (Z.ad a) F)(c:Cls X.K Cl)(hm:aND X.K Cl m f)(G:FnOk X.prog X.w X.K X.mg X.base CX0 k f fd ps (aNB Z n C))(hr:Room k X.A)(bd:Binds X.K fd ps [])(ha:PAd X sd (e::es) (ds.map R.val))(hc:C a ds d)(hn:ds.length+1=n)(hst:AB (e::es) X.env=(false,eval e X.env)::AB es X.env:=by rfl) (hpl:(AV pos<|AB es X.env).any (·.1)=false:=by rfl)(ht:eval (.Call (.Attribute (.Name x p2) m apos) (e::es) [] pos) X.env=(do
   let ov <-eval (.Name x p2) X.env
   standAt apos.atName
   let (f,first) <-holding [ov] (getMethod ov m pl)
   callWith pos f first (AV pos (AB (e::es) X.env)) (backToKw pos (keywordEach [] X.env))):=by rfl):
  PEd X sd (.Call (.Attribute (.Name x p2) m apos) (e::es) [] pos) (.val d):=.mk λσ F H S za s I=>by
 obtain⟨o0,h1,v,h2,_,gg⟩:=S.slots.get hs;have g0:=gg F H (Same.refl _) λ_ _ _ e=>e
 have ev:=Z.hv g0;subst h2 ev;obtain⟨dx,od,mA,e1,e2,ne,ns,hmA⟩:=hi F H g0;refine aBQ (thn (hxi za s σ H (λv' H'=>v'=.ref (Z.ad a)/\H'=H) I ⟨.ref<|Z.ad a,h1,rfl,rfl⟩) λu s1 ⟨v',H',I1,r1,ev,eH⟩=>?_) ht;subst ev eH;cases(r1);have g1:=(I1.hok _ _<|S.sub _ _ e1).1;have g2:=(I1.hok dx _<|S.sub _ _ e2).1;refine aCn I1.kIn ⟨g1,ns _ g2,ne⟩ (c.get m) hm.at_ hm.fn hmA ?_;refine dQ I.ok.mod.kin hm.kp (thn ((pN) pos za s1 σ H' _ I1<|ha σ F H' S) λus s2 ⟨vs,H2,I2,r,F1,S1,s1',q1⟩=>⟨I2.kIn,?_⟩) hst hpl;refine aEE (vs:=.ref (Z.ad a)::vs) (FnOk.framedV G) hr bd .nil tR I2 (.cons rfl r) ?_;rw[bG];exact aSv i hs S1 h1 q1.vals hc hn λv' F' H' S' s' r'=>⟨F',S',s1'.trans s',r'⟩
structure PSo(X:Cx)(sd:List Slot)(e:Expr)(Z:Lent X.K):Prop where
 run:∀ (σ:St) (F H:Hp),StF X.K X.B₀ F H σ sd->wE X e σ H λv H'=>∃F' a,StF X.K X.B₀ F' H' σ sd/\Same F F'/\eF X.K F' H' (Z.sl a) (some v)/\(Z.own a).Nodup/\∀l∈Z.own a,l∉cS sd
def aEj:List Nat->TA
 |[]=>aHw
 |j::js=>qC (iQ j)<|aEj js
def StF.layW{p:BF}(S:StF K H₀ F H σ sd)(hp:H p=none)(ho:aQs o):StF K H₀ F (upd H p o) σ sd/\F p=none/\p∉cS sd:=by
 have fp:=S.sub.free hp;refine⟨⟨S.base,λb u e=>?_,λb u e=>?_,S.slots.mono (Same.refl _) λl hl=>?_,S.nd⟩,fp,λhl=>?_⟩
 ·rw[aW<|cC e fp];exact S.sub _ _ e
 ·by_cases h:b=p
  ·subst h;rw[bH] at e;cases e;exact ho
  ·rw[aW h] at e;exact S.smp _ _ e
 ·obtain⟨n,ys,q,_⟩:=S.slots.owns hl;have hne:=cC q hp;exact⟨n,λys e=>by rw[aW hne];exact e⟩
 ·obtain⟨n,ys,q,_⟩:=S.slots.owns hl;rw[hp] at q;cases q
theorem qP(S:StF K H₀ F H σ sd):∀ {js:List Nat}{ds:List D},js.map (λj=>sd[j]?)=ds.map (λd=>some<|Slot.val d)->∃us,RepL K F ds us/\∀H1 Q,Q us H1->aEj js σ H1 Q
 |[],[],_=>⟨[],.nil,λ_ _ q=>q⟩
 |[],_::_,h=>by cases h
 |_::_,[],h=>by cases h
 |j::js,d::ds,h=>by obtain⟨h1,h2⟩:=List.cons.inj h;obtain⟨us,r,q⟩:=qP S h2;obtain⟨o,g1,v,g2,rp⟩:=S.slots.get h1;exact⟨v::us,.cons rp r,λH1 Q qq=>⟨v,by rw[g1,g2],q H1 _ qq⟩⟩
theorem aAA{Z:Lent X.K}{C:Z.α->List D->D->Prop}(js:List Nat)(h0:PSo X sd e0 Z)(G:jL X.prog X.w X.K Z X.mg X.base g k n C)(hr:Room k X.A)(hg:Gl X g)(ha:PA X es (aEj js))(hj:js.map (λj=>sd[j]?)=ds.map λd=>some<|Slot.val d)(hc:∀a,C a ds d)(hn:ds.length+1=n)(hdb:(g==("__debug__":Str))=false:=by decide) (he:AB (e0::es) X.env=(false,eval e0 X.env)::AB es X.env:=by rfl) (hpl:(AV pos<|AB es X.env).any (·.1)=false:=by rfl):PEd X sd (.Call (.Name g p) (e0::es) [] pos) (.val d):=.mk λσ F H S=>by
 obtain⟨fa,fd,ps,hm,hkp,bd,G⟩:=G.ex;refine(qQ (FnOk.framedV G) hr hg hm hkp bd .nil tR (cO eO ha he) hdb he hpl).to<|(h0.run σ F H S).imp λv H1 ⟨F1,a,S1,s1,so,nd,no⟩=>?_;obtain⟨us,rl,q⟩:=qP S1 hj;refine q H1 _ ?_;show aQk Z n C (v::us++[]) H1 _ _;rw[bG];refine⟨by rw[bJ,rl.len];exact hn,S1.smp,v,us,F1,a,ds,d,rfl,S1.sub,so,nd,rl,hc a,λv' F' H' s2 s3 sm so' rp kp kf=>⟨F',?_,s1.trans s2,rp⟩⟩
 exact ⟨fun b o e=>s2 _ _ (S1.base _ _ e),s3,sm,S1.slots.mono s2 fun b hb=>by
  obtain⟨n1,ob,e,_⟩:=S1.slots.owns hb
  exact⟨(kf b ob (λz=>no b z hb) e n1).1,λxs e'=>kp b xs (λz=>no b z hb) e'⟩,S1.nd⟩
def xG(C:BF):Sp:=λvs H Q _=>∃ (x dx:BF) (v1 v2:V),vs=[.ref x,v1,v2]/\H x=some (.ins C dx [])/\∀m,H m=none->Q .non (upd (upd H m<|.dK []) x (.ins C dx<|shF v1 v2 m))
theorem oB(hJ:J [] [])(T:pE X.K X.mg C)(M:Mk X.K C f)(G:FnOk X.prog X.w X.K X.mg X.base CX0 1 f fd ["self","size","stock"] (xG C))(hb:Binds X.K fd ["self","size","stock"] [])(hr:Room 2 X.A)(hg:Gl X "Shelf")(ha:PAd X sd [e1,e2] [.val d1,.val d2])(he:AB (e1::[e2]) X.env=(false,eval e1 X.env)::AB [e2] X.env:=by rfl) (hpl:(AV pos<|AB [e2] X.env).any (·.1)=false:=by rfl):PSo X sd (.Call (.Name "Shelf" p) [e1,e2] [] pos) (shL X.K C [("size",d1),("stock",d2)] J):=⟨fun σ F H S za s I=>by
 refine thn ((aMi M G hr hg T.mgC hb .nil tR pN (by decide) he hpl) za s σ H (λv H2=>∃ (x dx m:BF) (v1 v2:V) (F1 H1:Hp),v=.ref x/\StF X.K X.B₀ F1 H1 σ sd/\Same F F1/\Rep X.K F1 d1 v1/\Rep X.K F1 d2 v2/\H1 x=none/\H1 dx=none/\H1 m=none/\dx≠x/\m≠x/\m≠dx/\H2=upd (upd (upd (upd H1 dx<|.own x) x<|.ins C dx []) m<|HO.dK []) x (.ins C dx<|shF v1 v2 m)) I ?_) λu s1 ⟨v,H2,I2,r,x,dx,m,v1,v2,F1,H1,ev,S1,s1',q1,q2,n1,n2,n3,ne,ne2,ne3,eH⟩=>?_
 ·refine(ha σ F H S).imp λvs H1 ⟨F1,S1,s1,q⟩=>?_
  intro x dx n1 n2 ne
  obtain⟨v1,vs1,rfl,a1,t1⟩:∃v1 vs1,vs=v1::vs1/\ResOk X.K F1 H1 sd (.val d1) v1/\RsOk X.K F1 H1 sd [.val d2] vs1:=by
   cases q with
   |cons a b=>exact⟨_,_,rfl,a,b⟩
  obtain⟨v2,vs2,rfl,a2,t2⟩:∃v2 vs2,vs1=v2::vs2/\ResOk X.K F1 H1 sd (.val d2) v2/\RsOk X.K F1 H1 sd [] vs2:=by
   cases t1 with
   |cons a b=>exact⟨_,_,rfl,a,b⟩
  cases t2;refine⟨x,dx,v1,v2,rfl,bH,λm hm=>⟨rfl,x,dx,m,v1,v2,F1,H1,rfl,S1,s1,a1,a2,n1,n2,?_,ne,?_,?_,rfl⟩⟩
  ·by_cases h1:m=x
   ·subst h1;rw[bH] at hm;cases hm
   ·by_cases h2:m=dx
    ·subst h2;rw[aW h1,bH] at hm;cases hm
    ·rw[aW h1,aW h2] at hm;exact hm
  ·intro h1;subst h1;rw[bH] at hm;cases hm
  ·intro h2;subst h2;rw[aW ne,bH] at hm;cases hm
 ·subst ev eH;obtain⟨mA,O,rel,_,_,_⟩:=aBu I2.hok bH;obtain⟨od,es,ep,ho,rest⟩:=id O.ns;have hx:=O.obj
  have keep:∀b o,H1 b=some o->(upd (upd (upd H1 m<|HO.dK []) x (exO x<|dU C dx)) dx<|exO dx od) b=some o:=λb o e=>by rw[aW<|cC e n2,aW<|cC e n1,aW<|cC e n3];exact e
  have I3:=by
   refine Inv.reB I2 (λb hb=>?_) (λb o e=>keep b o (S1.sub _ _<|S1.base _ _ e)) λb o e=>?_
   ·by_cases h1:b=x
    ·subst h1;rw[bH] at hb;cases hb
    ·by_cases h2:b=m
     ·subst h2;rw[aW h1,bH] at hb;cases hb
     ·by_cases h3:b=dx
      ·subst h3;rw[aW h1,aW h2,aW h1,bH] at hb;cases hb
      ·rw[aW h1,aW h2,aW h1,aW h3] at hb;rw[aW h3,aW h1,aW h2];exact hb
   ·by_cases h3:b=dx
    ·subst h3;rw[bH] at e;cases e;exact pU ho
    ·by_cases h1:b=x
     ·subst h1;rw[aW h3,bH] at e;cases e;exact pU hx
     ·by_cases h2:b=m
      ·subst h2;rw[aW h3,aW h1,bH] at e;cases e;exact(I2.hok b (HO.dK [])<|by rw[aW ne2,bH]).smp trivial
      ·rw[aW h3,aW h1,aW h2] at e;exact(I2.hok b o<|by rw[aW h1,aW h2,aW h1,aW h3];exact e).smp<|S1.smp _ _ e
  obtain⟨A1,fm,om⟩:=S1.layW (o:=HO.dK []) n3 trivial;obtain⟨A2,t2⟩:=A1.lay (o:=exO x<|dU C dx) (by rw[aW<|Ne.symm ne2];exact n1) trivial;obtain⟨A3,t3⟩:=A2.lay (o:=exO dx od) (by rw[aW ne,aW<|Ne.symm ne3];exact n2) trivial;have tt:=t2.trans t3
  have hmade:mA "made"=some (.ref m):=by obtain⟨u1,hu,ru⟩:=RelO.some_of (rel "made");rw[hu];exact congrArg some ru
  have sh:ShD X.K C [("size",d1),("stock",d2)] m (.ref x) (upd (upd F1 x (exO x<|dU C dx)) dx<|exO dx od):=by
   refine⟨x,dx,od,mA,rfl,by rw[aW<|Ne.symm ne,bH],bH,ne,λh hh=>⟨od,es,ep,hh,rest⟩,λg d hg=>?_,hmade,RelO.none_of<|rel "book_up_to"⟩
   by_cases g1:g="size"
   ·subst g1;have:=bZ.inj hg;subst this;obtain⟨u1,hu,ru⟩:=RelO.some_of (rel "size");exact⟨v1,u1,hu,ru,q1.mono tt⟩
   ·by_cases g2:g="stock"
    ·subst g2;have:=bZ.inj hg;subst this;obtain⟨u1,hu,ru⟩:=RelO.some_of (by rw[<-aGx v1 v2 m];exact rel "stock");exact⟨v2,u1,hu,ru,q2.mono tt⟩
    ·have b1:=beq_eq_false_iff_ne.mpr g1;have b2:=beq_eq_false_iff_ne.mpr g2;simp only[jC,b1,b2] at hg;cases hg
  have hH:upd (upd (upd H1 m<|HO.dK []) x (exO x<|dU C dx)) dx (exO dx od) m=some (.dK []):=by rw[aW ne3,aW ne2,bH]
  have hF:upd (upd F1 x (exO x<|dU C dx)) dx (exO dx od) m=none:=by rw[aW ne3,aW ne2];exact fm
  exact⟨.ref x,_,I3,r,_,(x,m),A3,s1'.trans tt,⟨.ref x,rfl,λl hl=>by rw[aK.mp hl];exact⟨hF,_,hH,trivial⟩,λF' H' sF kp=>⟨rfl,sh.mono sF,[],[],hJ,[],kp m (cG m) _ hH,rfl,.nil⟩⟩,bY.mpr ⟨by simp,cQ⟩,λl hl=>by rw[aK.mp hl];exact om⟩⟩
variable {s':BE}{tg iter:Expr}{Old:BF->Prop}
structure ExcO(Old:BF->Prop)(h:BH)(H:Hp)(a T:BF)(cls:BD):Prop where
 free:H a=none
 new:¬ Old a
 freeT:H T=none
 newT:¬ Old T
 obj:∃oe vs oT ts a0,h.get? a=some oe/\(oe.cls=cls/\vs[0]? =some a0)/\oe.data=.fields vs/\vs[1]? =some (.ref T)/\T≠a/\h.get? T=some oT/\oT.data=.fields ts/\ts[3]? =some .none
def aJM(X:Cx)(Old:BF->Prop)(cls:BD)(sd:List Slot):Prop:=∀ (za:List (BF×BI)) (σ:St) (F H:Hp) (s:BE) (a T:BF),Inv X za σ H s->StF X.K X.B₀ F H σ sd->ExcO Old s.heap H a T cls->(∀p∈X.pn++za,p.1≠a/\p.1≠T)->X.xe (.ref a) s
def aOw(X:Cx)(Old:BF->Prop):Prop:=∀ (za:List (BF×BI)) (σ:St) (H:Hp) (s:BE),Inv X za σ H s->∀b,Old b->∃o,s.heap.get? b=some o
def Ent(X:Cx):BF->Prop:=λb=>∃o,X.s₀.heap.get? b=some o
def aFZ(hex:X.ex=[]):aOw X (Ent X):=λza σ H s I b ⟨o,g⟩=>I.base.there b o g λhb=>by rw[hex] at hb;cases hb
def Takes.o(h:Takes X cls sd):aJM X (Ent X) cls sd:=λza σ F H s a T I S x hp=>
 h za σ F H s a T I S ⟨x.free,by
  cases g:X.s₀.heap.get? a with
  |none=>rfl
  |some o=>exact(x.new ⟨o,g⟩).elim,x.freeT,by
  cases g:X.s₀.heap.get? T with
  |none=>rfl
  |some o=>exact(x.newT ⟨o,g⟩).elim,x.obj⟩ hp
theorem aJq{C:List D->Prop}(G:fS X.prog X.w X.K X.mg X.base x k n C cls dvs dws)(hh:aOw X Old)(hr:Room k X.A)(hg:Gl X x)(ha:PAd X sd (e::es) (ds.map R.val))(hdv:∀H,RepL X.K H dds dvs)(hc:C (ds++dds))(hn:ds.length+dds.length=n)(ht:aJM X Old cls sd)(hdb:(x==("__debug__":Str))=false:=by decide) (he:AB (e::es) X.env=(false,eval e X.env)::AB es X.env:=by rfl) (hpl:(AV pos<|AB es X.env).any (·.1)=false:=by rfl):PEx X sd (.Call (.Name x p) (e::es) [] pos):=⟨fun σ F H S za s I=>by
 obtain⟨f,fd,ps,hm,hk,bd,hd,G⟩:=G.ex;refine AO<|lY I hg hm ?_ hdb;refine dQ I.ok.mod.kin hk (thn (ha σ F H S pos za s I) λus s1 ⟨vs,H1,I1,r,F1,S1,s1',q⟩=>⟨I1.kIn,?_⟩) he hpl;have rl:=(q.vals.mono S1.sub).app<|hdv H1;refine qO (Ex:=λ_ _ H'=>Same H1 H'/\Smp H') G hr bd hd I1 r ⟨by rw[rl.len,aP];exact hn,S1.smp,ds++dds,rl,hc,λa H' q1 q2=>⟨q1,q2⟩⟩ λe s' hcx=>?_
 obtain⟨a,T,H',rfl,os,bare,un,hok,x,sH,smH⟩:=hcx;have I2:=I1.call' os un hok bare (λb z=>absurd z<|by simp)
 have nO:∀b,s1.heap.get? b=none->¬ Old b:=λb q z=>by obtain⟨o,g⟩:=hh za σ H1 s1 I1 b z;rw[q] at g;cases g
 have nw:∀b,s1.heap.get? b=none->∀p∈X.pn++za,p.1≠b:=λb q p hp z=>by have:=(I1.pin p hp).1;rw[z,q] at this;cases this
 exact ht za σ F1 H' s' a T I2 ⟨S1.base,S1.sub.trans sH,smH,S1.slots.mono (Same.refl _) λl hl=>⟨(S1.slots.owns hl).1,λob e=>sH _ _ e⟩,S1.nd⟩ ⟨x.free,nO a x.new,x.freeT,nO T x.newT,x.obj⟩ λp hp=>⟨nw a x.new p hp,nw T x.newT p hp⟩⟩
def aJc(h:PEx X sd e)(hs:swapsWithSole [tg] e pos.line X.env=pure false:=by rfl)(hw:swappedStores [tg] e X.env=pure none:=by rfl)(h1:(Aj [tg] X.env).map (·.2)=[assign tg X.env]:=by rfl):PSd1 X sd (.Assign [tg] e pos) E:=.mk λσ F H S=>(aJO eO aQj hs hw h1).to<|(h.run σ F H S).imp λ_ _ z=>z.elim
def RepL.rep(r:RepL K H ds xs):∀k:Nat,RepL K H (bP k ds).flatten (bP k xs).flatten
 |0=>.nil
 |k+1=>r.app (RepL.rep r k)
theorem aFB(ha:PEd X sd a (.bor ds))(hb:PEd X sd b (.val<|.int (k:Int)))(hk:k<=1000)(hz:ds.length*k<=1000):PEd X sd (.BinOp a .Mult b pos) (.own (bP k ds).flatten):=
 yE aOV ha hb trivial λσ F H v u Q S q1 q2 kk=>by subst q2;obtain⟨l,xs,rfl,hl,rl,_⟩:=q1;refine⟨l,(k),xs,rfl,rfl,hl,by lia,by lia,by rw[rl.len,eD,At];lia,λp hp=>?_⟩;obtain⟨S2,fp,no⟩:=S.layO hp;exact kk _ F _ S2 (Same.refl _) ⟨p,_,rfl,fp,bH,rl.rep k,no⟩
variable {ix:Expr}{l:BF}{ls:List BF}{dss:List (List D)}{m:List Bool}
def aCz(hb:PSd X sd body E)(hxe:X.xe=(λ_ _=>False):=by rfl):PSd1 X sd (.Try body (h₀::hs) [] [] pos) E:=.mk λσ F H S za s I=>by
 have h:=hb σ F H S za s I;rw[hxe] at h;refine wpAny_Try_except<|AU h (λf s1 q=>?_) λ_ _ z=>z.elim;cases f with
 |next=>obtain⟨σ',H',I',q⟩:=q;exact pss_nil za s1 σ' H' (lft X F E) I' q
 |brk=>exact q
 |cont=>exact q
 |ret u=>exact q
def aIx{bs:List Bool}{i:Nat}(r:Vals (bs.map V.bl) its)(h:its[i]? =some v):∃b,bs[i]? =some b/\v=.bool b:=by
 have hi:=(aF.mp h).1;have hl:=r.length;rw[aC] at hl;have hb:=by omega
 obtain⟨u,h1,h2⟩:=r.get (i:=i) (x:=.bl bs[i]) (by simp[hb]);rw[h] at h1;cases h1;exact⟨bs[i],by simp[hb],h2⟩
def aDW(bs:List Bool):((bT bs.length).all λi=>(bs[i]?).getD true)=bs.all id:=by
 apply gA.mpr;simp only[fG,cN,id_eq]
 constructor
 ·intro h b hb;obtain⟨i,hi,rfl⟩:=eB hb;have:=h i hi;simpa[hi] using this
 ·intro h i hi;have:=h bs[i]<|gF hi;simpa[hi] using this
def aGw(hc:X.calm=true):lA X (.builtin "all") (λxs H Q=>∃ (a:BF) (bs:List Bool),xs=[.ref a]/\SqL X.K H a (bs.map V.bl)/\Q (.bl<|bs.all id) H):=by
 intro za s σ H xs us Q I r h;obtain⟨a,bs,rfl,ha,q⟩:=h;obtain⟨u,rfl,ru⟩:=pF r;cases ru;obtain⟨its,rv,p,hz⟩:=I.list ha;have hl:=rv.length;rw[aC] at hl;have isl:=p.isList;have alt:a<s.heap.objs.size:=by obtain⟨o,ho,_⟩:=isl;exact aU ho
 refine call_all_walk<|BA isl ?_;refine⟨s.heap.objs.size,[s.heap.objs.size,a],[s.heap.objs.size],its.toArray.size,_,_,λi=>(bs[i]?).getD true,rfl,Walks.list (A:=X.A.in1) (I.ok.hd hc) _ a (bR alt) its.toArray,⟨⟨_,bO _ rfl,rfl,rfl⟩,isl.push _⟩,λi v s' Q' E' hP hQ=>?_,λh' tk hk=>?_⟩
 ·obtain⟨b,e,rfl⟩:=aIx rv (by simpa using hP);simp only[e,aJt] at hQ;exact Ai hQ
 ·have e:((bT its.toArray.size).all λi=>(bs[i]?).getD true)=bs.all id:=by rw[bD,<-hl];exact aDW bs
  rw[e]
  exact ⟨.bl (bs.all id),H,I.kept fun b o g=>hk b o (fun z=>by
   have z:=by simpa using z
   exact absurd (aU g) (by rw[z];exact eU _)) (aD _ g),rfl,q⟩
def RepL.bls:∀ {bs:List Bool}{xs:List V},RepL K H (bs.map D.bl) xs->xs=bs.map V.bl
 |[],xs,r=>by simpa only[gB,RepL] using r
 |n::ns,xs,r=>by obtain⟨y,ys,rfl,a,rl⟩:=r.uncons;rw[a,RepL.bls rl];rfl
def aMv{bs:List Bool}(hg:Gl X "all")(hm:X.mg "all"=none)(ha:PEd X sd e (.bor<|bs.map D.bl))(hc:X.calm=true:=by rfl)(hst:AB [e] X.env=(false,eval e X.env)::AB [] X.env:=by rfl):PEd X sd (.Call (.Name "all" p) [e] [] pos) (.val (.bl<|bs.all id)):=
 mL (he:=hst) (aGw hc) hg hm boot_all (aA ha aE trivial hst) λσ F H vs Q S q k=>by
  cases q with
  |cons q1 q2=>cases q2;obtain⟨p,xs,rfl,hp,rl,_⟩:=q1;exact⟨p,bs,rfl,.of (by rw[<-rl.bls];exact hp),k _ F H S (Same.refl _)<|by simp only[ResOk,Rep]⟩
theorem aMH{i:Nat}(ha:PEd X sd a (.val<|.tup ds))(hb:PEd X sd b (.val<|.int (i:Int)))(hc:PEd X sd c (.val<|.int (j:Int))):PEd X sd (.Subscript a (.Slice (some b) (some c) none p2) pos) (.val<|.tup ((ds.drop i).take<|j-i)):=by
 have e:DL.cutD ds (some<|i) (some<|j)=(ds.drop i).take (j-i):=by
  unfold DL.cutD;rw[HT.sIx_nat,HT.sIx_nat]
  by_cases q:i<=ds.length
  ·rw[aQg q];simp;lia
  ·rw[kJ<|by lia,kJ<|by lia];simp
 by_cases w:HT.sIx ds.length 0 (some<|i)=0/\HT.sIx ds.length ds.length (some<|j)=ds.length
 ·refine PEd.cast (aBh (ol:=some<|i) (oh:=some<|j) ha hb hc w) ?_;rw[<-e];unfold DL.cutD;rw[w.1,w.2];simp
 ·exact PEd.cast (yH (ol:=some<|i) (oh:=some<|j) ha hb hc w) (by rw[e])
abbrev Ch:=Nat×Nat×List Nat
def chD(c:Ch):D:=.tup [.int (c.1:Int),.int (c.2.1:Int),.tup<|bA c.2.2]
noncomputable def wcQ(row:List Nat)(c:Ch):List Nat:=row.take c.1++c.2.2++row.drop (c.1+c.2.1)
def aNT(L:List SK)(row:List Nat):Int:=vC<|vS L row
def zU(p:Int×Int)(L:List SK)(row:List Nat)(o:Option (List Nat)):List (List Int):=(bW p).map λws=>match o with
 |none=>fH p L row ws
 |some l=>l.map λj=>(fH p L row ws).getD j 0
noncomputable def aSg(row:List Nat)(c:Ch):Bool:=decide<|1<=c.2.1/\c.1+c.2.1<=row.length
def hoQ(p:Int×Int)(L:List SK)(row:List Nat)(c:Ch)(o:Option (List Nat)):Bool:=aSg row c&&(decide (aNT L c.2.2<aNT L ((row.drop c.1).take c.2.1))&&decide (zU p L (wcQ row c) o=zU p L row o))
def RowOk(L:List SK)(row:List Nat):Prop:=∀t∈row,t<L.length
def RowOk.wc{c:Ch}(h:RowOk L row)(hc:RowOk L c.2.2):RowOk L (wcQ row c):=λt ht=>by
 rcases aV.mp ht with ht|ht
 ·rcases aV.mp ht with ht|ht
  ·exact h t<|dA ht
  ·exact hc t ht
 ·exact h t<|dR ht
def aDI{p:Int×Int}{a b:List Nat}(h:zU p L b o=zU p L a o)(n:Nat):pW (bxQ n o) (bW p) (tabQ p L a) (tabQ p L b)=none:=by
 refine yV λk hk=>?_
 have ga:(tabQ p L a).getD k []=fH p L a ((bW p).getD k []):=by show(aQu _<|bW p).getD k []=_;simp[bV,hk]
 have gb:(tabQ p L b).getD k []=fH p L b ((bW p).getD k []):=by show(aQu _<|bW p).getD k []=_;simp[bV,hk]
 unfold unK;rw[ga,gb];have e:=congrArg (λl=>l.getD k []) h;simp only[zU,bV,bE,fC hk,pO,aJt] at e;have ek:(bW p).getD k []=(bW p)[k]:=by simp[bV,hk]
 rw[ek];cases o with
 |none=>simp only at e;rw[e];exact aJg _ _
 |some l=>
  show unl l _ _=false;rw[<-aBy];have e':(l.map λj=>(fH p L a (bW p)[k]).getD j 0)=l.map λj=>(fH p L b (bW p)[k]).getD j 0:=e.symm
  rw[e'];simp
def aJV:List D->R->Prop:=λds r=>∃ (L:List SK) (row:List Nat),RowOk L row/\row.length<=900/\ds=[.lst<|L.map skD,.tup<|bA row]/\r=.val (.bl true)
def pV:List D->R->Prop:=λds r=>∃ (row:List Nat) (i m:Nat),ds=[.tup<|bA row,.int (i:Int),.int (m:Int)]/\r=.val (.tup (bA<|(row.drop i).take m))
def tG:List D->R->Prop:=λds r=>∃ (row:List Nat) (c:Ch),row.length+c.2.2.length<=900/\ds=[.tup<|bA row,chD c]/\r=.val (.tup (bA<|wcQ row c))
def aOy:List D->R->Prop:=λds r=>∃p L a b o,p∈bX/\StkOk p L/\RowOk L a/\RowOk L b/\zY p o/\zU p L b o=zU p L a o/\ds=[cP p,.lst<|L.map skD,.tup<|bA a,.tup<|bA b,lkD o]/\r=.val (.bl true)
def aSb:List D->R->Prop:=λds r=>∃p L row c o,p∈bX/\StkOk p L/\RowOk L row/\RowOk L c.2.2/\row.length<=450/\c.2.2.length<=400/\zY p o/\hoQ p L row c o=true/\ds=[cP p,.lst<|L.map skD,.tup<|bA row,chD c,lkD o]/\r=.val (.bl true)
def aOz{G K:Prop}(h:K->G)(k:K):G:=h k
section
variable {prog:AD}{w:AL}{κ:Type}[DecidableEq κ](knd:KeyKind prog w κ)
variable {knd}
variable {A:BG}{E:BD->BE->Prop}{s:BE}
end
structure HK(P:AD)(w:AL)(κ:Type)[DecidableEq κ] where
 kind:HeapKind P w κ
 rel:Hp->κ->BF->Prop
 mono:∀ {F F':Hp}{k:κ}{a:BF},Same F F'->rel F k a->rel F' k a
 ok:∀ {H:Hp}{h:BH}{k:κ}{a:BF},HOk P w H h->rel H k a->kind.is h k a
 room:∀ {A:BG},A.units+2<AR->kind.room A.in1
 dat:κ->D
 key:∀ {K:aB}{F:Hp}{k:κ}{v:V},Rep K F (dat k) v->∃a,v=.ref a/\rel F k a
 back:∀ {K:aB}{F:Hp}{k:κ}{a:BF},rel F k a->Rep K F (dat k) (.ref a)
theorem wY:∀k:List Key,RepL K F (k.map kD) (k.map kV)
 |[]=>.nil
 |a::k=>by refine .cons ?_ (wY k);cases a<;>simp only[kD,kV,Rep]
def tD(k:List Key):D:=.tup<|k.map kD
def hkT(P:AD)(w:AL):HK P w (List Key) where
 kind:=Ak<|fA P w
 rel:=λF k a=>F a=some (.tup<|k.map kV)
 mono:=λs h=>s _ _ h
 ok:=λok h=>nJ ok h
 room:=λhu=>Af<|by omega
 dat:=tD
 key:=λr=>by simp only[tD,Rep] at r;obtain⟨a,ys,rfl,ha,rl⟩:=r;rw[pS rl] at ha;exact⟨a,rfl,ha⟩
 back:=λ{K F k a} h=>by simp only[tD,Rep];exact⟨a,_,rfl,h,wY k⟩
section
variable {P:AD}{w:AL}{κ:Type}[DecidableEq κ](hk:HK P w κ)
abbrev KG(F:Hp):List (κ×V)->List (κ×BF×BD)->Prop:=Paired λp q=>p.1=q.1/\hk.rel F p.1 q.2.1/\RelV p.2 q.2.2
def TG(K:aB)(F:Hp)(l:BF)(o:BI)(ks:List κ)(ds:List D):Prop:=
 ks.length=ds.length/\ks.length<=AJ/\(l==Aa)=false/\ks.Nodup/\∃ (vs:List V) (xs:List (κ×BF×BD)) (es:Array DictEntry) (ep:Nat),RepL K F ds vs/\KG hk F (ks.zip vs) xs/\o.ExactDict/\o.data=.dict es ep/\es.toList=xs.map (entryOfKey hk.kind)/\(xs.map (·.1)).Nodup
variable {hk}{K:aB}{F F' H:Hp}{l:BF}{o:BI}{ks:List κ}{ds:List D}
def KG.mono(s:Same F F')(r:KG hk F kvs xs):KG hk F' kvs xs:=Paired.mapP r λ_ _ z=>⟨z.1,hk.mono s z.2.1,z.2.2⟩
def TG.mono(s:Same F F')(t:TG hk K F l o ks ds):TG hk K F' l o ks ds:=by obtain⟨h1,h2,h3,h4,vs,xs,es,ep,r,g,q⟩:=t;exact⟨h1,h2,h3,h4,vs,xs,es,ep,r.mono s,g.mono s,q⟩
def KG.all(ok:HOk P w H h){l:List (κ×V)}{m:List (κ×BF×BD)}(q:KG hk H l m):∀x∈m,hk.kind.is h x.1 x.2.1:=by
 induction q with
 |nil=>intro x hx;exact nomatch hx
 |@cons p q ps qs hq t ih=>
  intro x hx
  rcases bL.mp hx with e|hx
  ·subst e;exact hk.ok ok (by rw[<-hq.1];exact hq.2.1)
  ·exact ih x hx
def KG.val(r:KG hk F kvs xs)(k:κ):RelO (jG kvs k) ((atKey xs k).map (·.2)):=by
 induction r with
 |nil=>exact True.intro
 |@cons p q ps qs h t ih=>
  obtain⟨h1,_,h2⟩:=h
  by_cases e:p.1=k
  ·have e':=h1.symm.trans e;have b:atKey (q::qs) k=some q.2:=by simp[atKey,gT,e']
   rw[jW e,b];exact h2
  ·have e':¬ q.1=k:=λz=>e (h1.trans z)
   have b:atKey (q::qs) k=atKey qs k:=by simp[atKey,gT,e']
   rw[iG e,b];exact ih
def KG.new(r:KG hk F kvs xs){k:κ}(hn:jG kvs k=none){b:BF}{y:V}(hb:hk.rel F k b)(ry:RelV y u):KG hk F (kvs++[(k,y)]) (storedH xs k b u):=by
 have e:atKey xs k=none:=by
  have:=r.val k;rw[hn] at this;cases h:atKey xs k with
  |none=>rfl
  |some z=>rw[h] at this;cases this
 rw[storedH_new e];exact Paired.snoc r ⟨rfl,hb,ry⟩
theorem uX{k:κ}:∀ {ks:List κ}{xs:List V},k∉ks->jG (ks.zip xs) k=none
 |[],_,_=>rfl
 |_::_,[],_=>rfl
 |j::js,x::xs,h=>by rw[dC,iG (p:=(j,x)) (λe=>h<|(show j=k from e)▸aO)];exact uX λz=>h<|aH _ z
theorem aFP:∀ {ks:List κ}{xs:List V}{n:Nat}{k:κ}{x:V},ks.Nodup->ks[n]? =some k->xs[n]? =some x->jG (ks.zip xs) k=some x
 |[],_,n,_,_,_,h,_=>by simp at h
 |_::_,[],n,_,_,_,_,h=>by simp at h
 |j::js,y::ys,0,k,x,nd,h1,h2=>by
  have e1:=by simpa using h1
  have e2:=by simpa using h2
  rw[dC,jW e1,e2]
 |j::js,y::ys,n+1,k,x,nd,h1,h2=>by obtain⟨nj,nd⟩:=bY.mp nd;rw[dC,iG (p:=(j,y)) (λe=>nj<|(show j=k from e)▸bC h1)];exact aFP nd h1 h2
theorem aGr{k:κ}(nd:ks.Nodup)(hl:ks.length=xs.length)(h:k∈ks):(jG (ks.zip xs) k).isSome=true:=by obtain⟨n,hn,rfl⟩:=eB h;rw[aFP (n:=n) (x:=xs[n]'(by lia)) nd (by simp[hn])<|by simp[by omega]];rfl
def TG.dict(ok:HOk P w H h)(s:Same F H)(hl:H l=some (exO l o))(t:TG hk K F l o ks ds):∃ (vs:List V) (xs:List (κ×BF×BD)),RepL K F ds vs/\KG hk F (ks.zip vs) xs/\h.DictOfH hk.kind l xs/\xs.length<=AJ/\(∀k,(atKey xs k).isSome=decide (k∈ks)):=by
 obtain⟨h1,h2,h3,h4,vs,xs,es,ep,r,g,q1,q2,q3,q4⟩:=t;have ho:=(ok l _ hl).1;refine⟨vs,xs,r,g,⟨o,es,ep,ho,q1,q2,q3,KG.all ok<|g.mono s,q4⟩,?_,λk=>?_⟩
 ·rw[<-Paired.length g,mD,r.len,<-h1,qH];exact h2
 ·have:=(g.val k).isSome_eq;rw[uL] at this;rw[<-this]
  by_cases e:k∈ks
  ·rw[decide_eq_true e];exact aGr h4 (by rw[r.len,h1]) e
  ·rw[decide_eq_false e,uX e];rfl
end
section
variable {P:AD}{w:AL}{κ:Type}[DecidableEq κ]
def GG(hk:HK P w κ)(K:aB)(l:BF)(ks:List κ)(ds:List D):V->Hp->Hp->Prop:=λv F H=>v=.ref l/\∃o,H l=some (exO l o)/\TG hk K F l o ks ds
noncomputable def oG(hk:HK P w κ)(K:aB)(l:BF)(ks:List κ)(ds:List D):Slot:=.ox [l]<|GG hk K l ks ds
variable {hk:HK P w κ}{K:aB}{H₀ F H:Hp}{σ:St}{sd:List Slot}{i:Nat}{l:BF}{ks:List κ}{ds:List D}{o:BI}
def TG.cell(t:TG hk K F l o ks ds):∀v,o.data≠ .cell v:=λv z=>by obtain⟨_,_,_,_,_,_,_,_,_,_,_,q,_⟩:=t;rw[q] at z;cases z
def aCf(S:StF K H₀ F H σ sd)(hs:sd[i]? =some (oG hk K l ks ds)):σ[i]? =some (some<|.ref l)/\F l=none/\∃o,H l=some (exO l o)/\TG hk K F l o ks ds:=by
 obtain⟨o,h1,v,h2,h3,h4⟩:=S.slots.get hs;obtain⟨e,ob,a,b⟩:=h4 F H (Same.refl _) λ_ _ _ q=>q
 subst e h2;exact⟨h1,(h3 l<|cG l).1,ob,a,b⟩
def aOA(hF:F l=none)(h1:H l=some (exO l o))(t:TG hk K F l o ks ds):eF K F H (oG hk K l ks ds) (some<|.ref l):=
 ⟨.ref l,rfl,fun a ha=>by
  rw[aK.mp ha]
  exact⟨hF,_,h1,o,rfl,t.cell⟩,λF' H' s k=>⟨rfl,o,k l (cG l) _ h1,t.mono s⟩⟩
end
section
variable {X:Cx}{sd:List Slot}{e a b c tg iter:Expr}{es:List Expr}{pos:Pos}{d:D}{ds:List D}{κ:Type}[DecidableEq κ]{hk:HK X.prog X.w κ}{ks:List κ}{k:κ}{E:gX}{l:BF}
def aIa(hk:HK X.prog X.w κ)(i:Nat)(hN:X.N.Nodup)(hi:X.N[i]? =some x)(hx:Loc X.env.scope x)(hE:∀l,E.nx (sd.set i<|oG hk X.K l [] []))(hs:Ab (.Dict [] [] p2) (some<|.Name x p) pos.line X.env=pure false:=by rfl)(hf:X.fn x=true\/X.env.scope.names.lookup x=some .local:=by first|exact .inl rfl|exact .inr rfl|assumption):PSd1 X sd (.Assign [.Name x p] (.Dict [] [] p2) pos) E:=.mk λσ F H S=>
 (rP hN hi hx aCt hs hf).to λq hq hm=>by
  have fp:=S.sub.free hq
  have no:q∉cS sd:=λhl=>by obtain⟨_,ob,h,_⟩:=S.slots.owns hl;rw[hq] at h;cases h
  have S1:StF X.K X.B₀ F (upd H q<|exO q aKZ) σ sd:=by
   refine⟨S.base,λb u e=>?_,oI S.smp q,S.slots.mono (Same.refl _) λl hl=>?_,S.nd⟩
   ·rw[aW<|cC e fp];exact S.sub _ _ e
   ·obtain⟨n,ys,y,_⟩:=S.slots.owns hl;have hne:=cC y hq;exact⟨n,λys e=>by rw[aW hne];exact e⟩
  refine⟨_,F,S1.setT i (aOA (hk:=hk) fp bH ⟨rfl,bQ _,hm,cQ,[],[], #[],0,.nil,.nil,⟨rfl,rfl,rfl⟩,rfl,rfl,cQ⟩) (by simp) λa ha=>?_,Same.refl _,hE q⟩;rw[aK.mp ha];exact no
theorem aIZ(i:Nat)(hu:X.A.units+2<AR)(hs:sd[i]? =some (oG hk X.K l ks ds))(hx:PE X (.Name x p) (iQ i))(h:PEd X sd e (.val d))(hb:PEd X sd b (.val<|hk.dat k))(hnk:k∉ks)(hl:ds.length<=10000)(hE:E.nx (sd.set i (oG hk X.K l (ks++[k])<|ds++[d])))(hsw:Ab e (some<|.Subscript (.Name x p) b p2) pos.line X.env=pure false:=by rfl):PSd1 X sd (.Assign [.Subscript (.Name x p) b p2] e pos) E:=.mk λσ F H S za s I=>by
 refine wpAny_Assign_Subscript (thn (h σ F H S za s I) λr s1 ⟨v,H1,I1,rv,F1,S1,sF1,q1⟩=>?_) hsw;obtain⟨h1,_⟩:=aCf S1 hs;refine thn (hx za s1 σ H1 (λv H2=>v=.ref l/\H2=H1) I1 ⟨.ref l,h1,rfl,rfl⟩) λu s2 ⟨y,H2,I2,ry,e1,e2⟩=>?_
 subst e1 e2;obtain rfl:u=Value.ref l:=ry;refine thn (hb σ F1 H2 S1 za s2 I2) λiv s3 ⟨y,H3,I3,ry,F3,S3,sF3,q3⟩=>?_
 obtain⟨g1,g2,o,g3,t⟩:=aCf S3 hs;obtain⟨ad,rfl,ha⟩:=hk.key q3;obtain rfl:iv=Value.ref ad:=ry;obtain⟨vs,xs,r1,kg,dd,hz,hin⟩:=t.dict I3.hok S3.sub g3;obtain⟨t1,t2,t3,t4,_⟩:=t;refine wpAny_setItem_heap (hsz:=hz) (hk.room hu) (hk.ok I3.hok<|hk.mono S3.sub ha) dd λh' dd' hsm=>?_
 obtain⟨q,es',ep',hq,u2,u3,u4,_,u5⟩:=dd';have I4:=qK (t':=s3.toks+hk.kind.draws k) I3 (by rw[g3];exact True.intro) hsm ⟨q,hq⟩<|pU hq;have lz:ks.length=vs.length:=by rw[t1,r1.len]
 have kg':=kg.new (uX hnk) ha rv;rw[<-vD lz] at kg'
 have t':TG hk X.K F3 l q (ks++[k]) (ds++[d]):=⟨by rw [aP,aP,t1]; rfl,by
  rw[aP,t1];have:=eY hl;show ds.length+1<=AJ
  omega,t3,bK.mpr ⟨t4,by simp,λa ha b hb e=>hnk (by rw[<-aK.mp hb,<-e];exact ha)⟩,vs++[v],_,es',ep',r1.app (.one (Rep.mono sF3 q1)),kg',u2,u3,u4,u5⟩
 refine⟨σ,_,I4,_,F3,S3.reT hs g1 (λb ob hb q=>?_) (oI S3.smp l) (aOA g2 bH t') (show[l].Nodup by simp) λa ha=>.inl ha,sF1.trans sF3,hE⟩;rw[aW (show b≠l from λz=>hb<|z▸cG l)];exact q
structure PDc(X:Cx)(sd:List Slot)(e:Expr){κ:Type}[DecidableEq κ](hk:HK X.prog X.w κ)(ks:List κ)(ds:List D):Prop where
 get:∀ (σ:St) (F H:Hp),StF X.K X.B₀ F H σ sd->wE X e σ H λv H1=>∃F1 l,StF X.K X.B₀ F1 H1 σ sd/\Same F F1/\v=.ref l/\∀F2 H2,StF X.K X.B₀ F2 H2 σ sd->Same F1 F2->∃o,H2 l=some (exO l o)/\TG hk X.K F2 l o ks ds
theorem aLx(i:Nat)(hs:sd[i]? =some (oG hk X.K l ks ds))(hx:PE X (.Name x p) (iQ i)):PDc X sd (.Name x p) hk ks ds:=⟨fun σ F H S=>hx.to (by
 obtain⟨h1,_⟩:=aCf S hs
 exact⟨.ref l,h1,F,l,S,Same.refl _,rfl,λF2 H2 S2 _=>(aCf S2 hs).2.2⟩)⟩
noncomputable def rIn(hk:HK X.prog X.w κ)(f:Bool->Bool):R2:=λx y H Q=>∃ (F:Hp) (ad l:BF) (o:BI) (k:κ) (ks:List κ) (ds:List D),x=.ref ad/\y=.ref l/\Same F H/\hk.rel F k ad/\H l=some (exO l o)/\TG hk X.K F l o ks ds/\X.A.units+2<AR/\Q (.bl<|f (decide<|k∈ks)) H
def aNf:OpR X (AT .NotIn) (rIn hk (!·)):=by intro za s σ H x y v u Q I rx ry h;obtain⟨F,ad,l,o,k,ks,ds,rfl,rfl,sF,ha,hl,t,hu,q⟩:=h;obtain rfl:v=Value.ref ad:=rx;obtain rfl:u=Value.ref l:=ry;obtain⟨vs,xs,_,_,dd,_,hin⟩:=t.dict I.hok sF hl;refine wpAny_notIn_heap (hk.room hu) (hk.ok I.hok<|hk.mono sF ha) t.2.2.1 dd ⟨.bl<|!decide (k∈ks),H,I.tok _,?_,q⟩;show Value.bool _=Value.bool _;rw[hin]
theorem aIL(hu:X.A.units+2<AR)(ha:PEd X sd a (.val<|hk.dat k))(hb:PDc X sd b hk ks ds)(hm:AX .NotIn b=false:=by with_unfolding_all rfl):PTd X sd (.Compare a [.NotIn] [b] pos) (!decide (k∈ks)):=.mk λσ F H S=>
 (aBq (aNf) eO eO hm).to ((ha σ F H S).imp fun v H1 ⟨F1,S1,s1,q1⟩=>(hb.get σ F1 H1 S1).imp fun u H2 ⟨F2,l,S2,s2,eu,g⟩=>by
  obtain⟨ad,rfl,hr⟩:=hk.key q1;obtain⟨o,g1,g2⟩:=g F2 H2 S2<|Same.refl _
  exact⟨F2,ad,l,o,k,ks,ds,rfl,eu,S2.sub,hk.mono s2 hr,g1,g2,hu,_,rfl,rfl,F2,S2,s1.trans s2⟩)
end
variable {prog:AD}{E:BD->BE->Prop}{d it:BF}{od:BI}{es:Array DictEntry}{ep i:Nat}
def uC(g:s.heap.get? d=some od)(c:od.ExactDict):s.TypeIs (.ref d) "dict":=⟨od,g,c.1⟩
theorem aHO(sm:(d==Aa)=false)(g:s.heap.get? d=some od)(c:od.ExactDict)(e:od.data=.dict es ep)(q:Q (.ref s.heap.objs.size) {s with heap:=s.heap.push {cls:=.type "dict_keyiterator",data:=.fields #[.ref d,.int 0 0,.int es.size 0,.int ep 0]}}):AK (AG prog w) A (pyIter<|.ref d) Q E s:=by
 have ty:=uC g c;refine wpAny_pyIter_slot ty F.slot_dict_iter (Av F.slot_dict_iter ty F.entry_dict_iter (AA ?_)<|F.args_dict_iter_1 _);refine AA<|Az ty (AC<|AA (m:=Builtin.Dict.showsAll d) ?_);unfold Builtin.Dict.showsAll;rw[sm];exact AC<|AA (Ap g e<|AA (wpAny_dictEpoch g e<|AA (AZ<|AC ⟨_,rfl,"dict_keyiterator",_,⟨_,bO _ rfl,rfl⟩,F.slot_dict_keyiterator_next.lookup,q⟩)))
theorem aGX(ki:s.heap.IsKeyIter it d i es.size ep)(g:s.heap.get? d=some od)(e:od.data=.dict es ep)(hi:i<es.size)(q:∀h',h'.IsKeyIter it d (i+1) es.size ep->Heap.SameBut it s.heap h'->Q (some es[i].key) {s with heap:=h'}):AK (AG prog w) A (pyNext<|.ref it) Q E s:=by
 have ty:=ki.typeIs;obtain⟨o,g1,c1,f1⟩:=ki;refine AA (wpAny_attempt<|Ao ty F.slot_dict_keyiterator_next (Av F.slot_dict_keyiterator_next ty F.entry_dict_keyiterator_next (AA<|AC (AA<|AA ?_))<|F.args_dict_keyiterator_next_1 _));refine AA (An ty<|AC (AA<|wpAny_fieldsOf g1 f1 ?_));refine AA<|AC (AA<|Ap g e ?_);rw[zr<|by simp];refine AA<|AC (AA<|wpAny_dictEpoch g e ?_);rw[zr<|by simp];refine AC ?_;have ix:(if(i:Int)<0 then none else es[(i:Int).toNat]?)=some es[i]:=by rw[zr<|by lia,eD,Array.getElem?_eq_getElem hi]
 simp only[ix]
 have up:(s.heap.update it (Obj.mapFields (·.setIfInBounds 1 (rawInt<|(i)+1)))).IsKeyIter it d (i+1) es.size ep:=
  ⟨_,gJ _ g1 (Obj.isFreed_of_fields<|Obj.data_mapFields f1 _),(Obj.cls_mapFields ..).trans c1,by rw[Obj.data_mapFields f1];simp[rawInt]⟩
 refine AA<|AA (An ty<|AC (AA<|wpAny_isOneOf_keyiter ty (AA<|wpAny_setField g1 f1 (show(0)+1<4 by decide) (AA<|AY ?_))));refine AA<|wpAny_isOneOf_keyiter up.typeIs ?_;exact AC<|AC ⟨_,rfl,AC (q _ up<|Heap.SameBut.update ..)⟩
def aIe(hh:A.handled=none)(sb:Heap.ExtBut it s.heap hp)(q:∀h',Heap.ExtBut it s.heap h'->Q none {s with heap:=h'}):AK (AG prog w) A.in1 (newExc (.type "StopIteration") []>>=fun x=>(raiseNew x:Sem Fin)) (fun fin s'=>∃v,fin=Fin.done (Flow.ret v)∧AK (AG prog w) A (pure (some v)) Q E s') (fun e s'=>AK (AG prog w) A (do
   let b <-isInstance e (Value.type "StopIteration")
   if b=true then pure none else throw e) Q E s') {s with heap:=hp}:=by
 refine AA ?_;refine AA (AZ (AA<|wpAny_of_eq (by first|rfl|(rfl)) (AZ ?_<|by size_fits))<|by size_fits);refine AA<|wpAny_handled ?_;rw[hh];refine AA (AC<|wpAny_throw ?_);refine AA<|wpAny_isInstance ⟨_,bO _ rfl,rfl⟩ isSubtype_stop ?_;exact AC (q _<|(sb.push _).push _)
theorem aJb(hh:A.handled=none)(ki:s.heap.IsKeyIter it d i es.size ep)(g:s.heap.get? d=some od)(e:od.data=.dict es ep)(hi:es.size<=i)(q:∀h',Heap.ExtBut it s.heap h'->Q none {s with heap:=h'}):AK (AG prog w) A (pyNext<|.ref it) Q E s:=by
 have ty:=ki.typeIs;obtain⟨o,g1,c1,f1⟩:=ki;refine AA (wpAny_attempt<|Ao ty F.slot_dict_keyiterator_next (Av F.slot_dict_keyiterator_next ty F.entry_dict_keyiterator_next (AA<|AC (AA<|AA ?_))<|F.args_dict_keyiterator_next_1 _));refine AA (An ty<|AC (AA<|wpAny_fieldsOf g1 f1 ?_));refine AA<|AC (AA<|Ap g e ?_);rw[zr<|by simp];refine AA<|AC (AA<|wpAny_dictEpoch g e ?_);rw[zr<|by simp];refine AC ?_;have ix:(if(i:Int)<0 then none else es[(i:Int).toNat]?)=none:=by rw[zr<|by lia,eD,aDl hi]
 simp only[ix];refine AA<|AA (An ty<|AC (AA<|wpAny_setField g1 f1 (show(0)<4 by decide) ?_));exact aIe hh (Heap.SameBut.update ..).extBut q
def aDz(sm:(d==Aa)=false):MeetsIn prog w (Builtin.«dict.__len__» ⟨[.ref d],[]⟩) (λ_ R s=>∃ (od:BI) (es:Array DictEntry) (ep:Nat),s.heap.get? d=some od/\od.ExactDict/\od.data=.dict es ep/\R (.ok (.ret<|.int es.size s.toks)) {s with toks:=s.toks+1}):=
 .of_wp λA R s ⟨od,es,ep,g,c,e,q⟩=>by refine AA ?_;refine AA<|Az (uC g c) (AC<|AA (AC<|AA ?_));exact AA (Ap g e<|AC (AA<|wpAny_pendingCount_other sm (wpAny_ret_mkInt<|q)))
theorem aGO(sm:(d==Aa)=false)(g:s.heap.get? d=some od)(c:od.ExactDict)(e:od.data=.dict es ep)(fit:es.size<=AJ)(q:∀t t2,Q (.int es.size t) {s with toks:=t2}):AK (AG prog w) A (call (.builtin "len") [.ref d]) Q E s:=by
 have lim:=At;have ty:=uC g c;refine Calls.call_function_entry kind_len plain_len entry_len (args_len1 _) ?_;refine AA (AC<|AA (Ao ty F.slot_dict_len<|call_meetsIn F.slot_dict_len ty F.entry_dict_len (F.args_dict_len_1 _) (aDz sm) ⟨od,es,ep,g,c,e,?_⟩));refine AA (AY<|AC (AA<|wpAny_letGo ?_));refine wpAny_ite_split (λz=>by lia) λ_=>wpAny_ite_split (λz=>by lia) λ_=>?_
 exact AA (wpAny_mkInt<|AC ⟨_,rfl,q _ _⟩)
section
variable {X:Cx}{sd:List Slot}{e:Expr}{pos:Pos}{d:D}{ds:List D}{κ:Type}[DecidableEq κ]{hk:HK X.prog X.w κ}{ks:List κ}
def aGt:lA X (.builtin "len") (λxs H Q=>∃ (l:BF) (o:BI) (es:Array DictEntry) (ep:Nat),xs=[.ref l]/\H l=some (exO l o)/\o.ExactDict/\o.data=.dict es ep/\(l==Aa)=false/\es.size<=AJ/\Q (.int es.size) H):=by intro za s σ H xs us Q I r h;obtain⟨l,o,es,ep,rfl,hl,c,e,sm,fit,q⟩:=h;obtain⟨u,rfl,rx⟩:=pF r;cases(rx);exact aGO sm (I.hok l _ hl).1 c e fit λt t2=>⟨.int es.size,H,I.tok _,⟨_,rfl⟩,q⟩
end
variable {H₀ F' H':Hp}{p:Int}{L:Int->List D}{kvs:List (Key×V)}
def InD.erase:∀ {as:List BF}{dss:List (List D)} (n:Nat),InD K F H as dss->InD K F H (as.eraseIdx n) (dss.eraseIdx n)
 |[],[],n,h=>h
 |[],_::_,_,h=>h.elim
 |_::_,[],_,h=>h.elim
 |a::as,ds::dss,0,h=>h.2
 |a::as,ds::dss,n+1,h=>⟨h.1,InD.erase n h.2⟩
theorem aAf{α β:Type}(f:α->β):∀ (l:List α) (n:Nat),(l.map f).eraseIdx n=(l.eraseIdx n).map f
 |[],_=>by simp
 |_::_,0=>rfl
 |a::l,n+1=>by show f a::(l.map f).eraseIdx n=f a::(l.eraseIdx n).map f;rw[aAf f l n]
namespace S45
variable {T:Type}[DecidableEq T](n:Nat)(pr:Nat->Int)(beh:Nat->T->T)(t0:T)
abbrev Ent(T:Type):=Int×List Nat×T
def tabQ(row:List Nat):T:=row.foldl (λt k=>beh k t) t0
def prQ(row:List Nat):Int:=(row.map pr).sum
def tab_snoc(row:List Nat)(k:Nat):tabQ beh t0 (row++[k])=beh k (tabQ beh t0 row):=by unfold tabQ;rw[eC];rfl
def pr_snoc(row:List Nat)(k:Nat):prQ pr (row++[k])=prQ pr row+pr k:=by unfold prQ;simp
variable {n pr beh t0}
variable (n pr beh)
variable {n pr beh}
end S45
end DL
namespace DL
open PySem PySem.Spec PyProof.Rows L2
variable {p:Int×Int}{L:List SK}
def jZ(p:Int×Int)(q:SQ):List Nat:=(bW p).map λws=>zS p<|onQ p q ws
noncomputable def jI(other one:List Nat):List Nat:=one.map λi=>other.getD i 0
def lI(p:Int×Int)(nb:List Nat):List (List Int):=nb.map λi=>(bW p).getD i []
def sI(p:Int×Int)(L:List SK)(k:Nat)(t:List (List Int)):List (List Int):=t.map<|onQ p (L.getD k AS).1
def prK(L:List SK)(k:Nat):Int:=(L.getD k AS).2
def mvD(p:Int×Int)(s:SK):D:=.tup [.int s.2,.tup (bA<|jZ p s.1)]
def NOk(p:Int×Int)(nb:List Nat):Prop:=nb.length=(bW p).length/\∀i∈nb,i<(bW p).length
def aMQ(p:Int×Int)(q:SQ):(jZ p q).length=(bW p).length:=by unfold jZ;rw[aC]
def aKI(q:SQ)(hi:i<(bW p).length):(jZ p q).getD i 0=zS p (onQ p q<|(bW p).getD i []):=by unfold jZ;simp[bV,hi]
def aOE(hp:p∈bX)(hi:i<(bW p).length):Fil p ((bW p).getD i []):=kC hp<|getD_mem hi
def aPU(hp:p∈bX)(O:uV p q)(hi:i<(bW p).length):(jZ p q).getD i 0<(bW p).length:=by rw[aKI q hi];exact(aEF hp (wN O<|aOE hp hi)).2.1
def aNg(hp:p∈bX)(O:uV p q)(h:NOk p nb):NOk p (jI (jZ p q) nb):=by refine⟨by unfold jI;rw[aC];exact h.1,λi hi=>?_⟩;obtain⟨j,hj,rfl⟩:=aS.mp hi;exact aPU hp O<|h.2 j hj
def aIA(hp:p∈bX)(O:uV p q)(h:NOk p nb):lI p (jI (jZ p q) nb)=(lI p nb).map (onQ p q):=by
 unfold lI jI;rw[aY,aY];refine cH λi hi=>?_
 show(bW p).getD ((jZ p q).getD i 0) []=onQ p q ((bW p).getD i []);rw[aKI q<|h.2 i hi];exact(aEF hp<|wN O (aOE hp<|h.2 i hi)).2.2
def aJp(hp:p∈bX)(ha:NOk p a)(hb:NOk p b)(h:lI p a=lI p b):a=b:=by
 refine pI (ha.1.trans hb.1.symm) λi h1 h2=>?_
 have e:(lI p a)[i]'(by unfold lI;rw[aC];exact h1)=(lI p b)[i]'(by unfold lI;rw[aC];exact h2):=by simp only[h]
 unfold lI at e;rw[iA,iA] at e;rw[<-aJR hp (ha.2 _<|gF h1),<-aJR hp (hb.2 _<|gF h2),e]
def st0(p:Int×Int):List Nat:=bT (bW p).length
def aPV(p:Int×Int):NOk p (st0 p):=⟨by unfold st0;rw[fZ],λi hi=>cN.mp hi⟩
def aFr(p:Int×Int):lI p (st0 p)=bW p:=by
 unfold lI st0;refine pI (by simp) λi h1 h2=>?_
 simp[bV,h2]
def nrQ(p:Int×Int)(L:List SK)(row:List Nat):List Nat:=row.foldl (λnb k=>jI (jZ p (L.getD k AS).1) nb)<|st0 p
def aBz(row:List Nat)(k:Nat):nrQ p L (row++[k])=jI (jZ p (L.getD k AS).1) (nrQ p L row):=by unfold nrQ;rw[eC];rfl
theorem aEp(hp:p∈bX)(S:∀s∈L,uV p s.1):∀ {row:List Nat},RowOk L row->NOk p (nrQ p L row)/\lI p (nrQ p L row)=S45.tabQ (sI p L) (bW p) row:=λ{row}=>by
 have g:∀ (row:List Nat) (nb:List Nat) (t:List (List Int)),NOk p nb->lI p nb=t->RowOk L row->NOk p (row.foldl (λnb k=>jI (jZ p (L.getD k AS).1) nb) nb)/\lI p (row.foldl (λnb k=>jI (jZ p (L.getD k AS).1) nb) nb)=row.foldl (λt k=>sI p L k t) t:=λrow=>by
  induction row with
  |nil=>exact λnb t h1 h2 _=>⟨h1,h2⟩
  |cons k row ih=>
   intro nb t h1 h2 h3;have O:uV p (L.getD k AS).1:=S _ (DL.getD_mem<|h3 k aO);refine ih _ _ (aNg hp O h1) ?_ λj hj=>h3 j<|aH _ hj
   rw[aIA hp O h1,h2];rfl
 exact λh=>g row (st0 p) (bW p) (aPV p) (aFr p) h
open Classical in
def wZ(L:List SK)(d:D):SK:=if h:∃s,s∈L/\skD s=d then h.choose else AS
def xV(nd:(L.map λs=>sqD s.1).Nodup)(h:s∈L):wZ L (skD s)=s:=by
 have ex:∃z,z∈L/\skD z=skD s:=⟨s,h,rfl⟩;unfold wZ;rw[dif_pos ex];obtain⟨h1,h2⟩:=ex.choose_spec;generalize ex.choose=z at h1 h2;obtain⟨i,hi,ez⟩:=eB h1;obtain⟨j,hj,es⟩:=eB h
 have e:sqD z.1=sqD s.1:=by
  injection h2 with h2
  exact(List.cons.inj h2).1
 have:=(lC (h₀:=by rw[aC];exact hi) (h₁:=by rw[aC];exact hj) nd).mp (by rw[iA,iA,ez,es,e]);subst this;exact ez.symm.trans es
def aSr:List D->R->Prop:=λds r=>∃p q,p∈bX/\uV p q/\ds=[cP p,sqD q]/\r=.val (.tup (bA<|jZ p q))
def aKl:List D->R->Prop:=λds r=>∃p L,p∈bX/\StkOk p L/\(L.map λs=>sqD s.1).Nodup/\ds=[cP p,.lst<|L.map skD]/\r=.own (L.map<|mvD p)
def aOx:List D->R->Prop:=λds r=>∃one other:List Nat,one.length<=100/\(∀i∈one,i<other.length)/\ds=[.tup<|bA one,.tup<|bA other]/\r=.val (.tup (bA<|jI other one))
def aJG:List D->R->Prop:=λds r=>∃ (B:List (List Int)) (nb:List Nat),nb.length<=100/\(∀i∈nb,i<B.length)/\ds=[.lst<|B.map cB,.tup<|bA nb]/\r=.val (.tup<|(nb.map λi=>B.getD i []).map cB)
section
variable {X:Cx}{sd:List Slot}{a b:Expr}{pos:Pos}{ds:List D}{κ:Type}[DecidableEq κ]{hk:HK X.prog X.w κ}{ks:List κ}{k:κ}{kk:Bool}
def aJa(h:kk=true↔k∈ks):decide (k∈ks)=kk:=by
 cases kk with
 |true=>exact decide_eq_true<|h.mp rfl
 |false=>exact decide_eq_false λz=>by cases h.mpr z
def aHQ(h:kk=true↔k∈ks)(hu:X.A.units+2<AR)(ha:PEd X sd a (.val<|hk.dat k))(hb:PDc X sd b hk ks ds)(hm:AX .NotIn b=false:=by with_unfolding_all rfl):PTd X sd (.Compare a [.NotIn] [b] pos) (!kk):=PTd.cast (aIL hu ha hb hm) (by rw[aJa h])
end
abbrev Bk:=S45.Ent (List<|List Int)
def enD(e:Bk):D:=.tup [.int e.1,.tup<|bA e.2.1,.tup<|e.2.2.map cB]
noncomputable def oW(nb:List Nat):List Key:=nb.map λ(i:Nat)=>(Sum.inl (i:Int):Key)
def aJZ(nb:List Nat):tD (oW nb)=.tup (bA nb):=by unfold tD oW bA;rw[aY];rfl
theorem aDg:∀ {a b:List Nat},oW a=oW b->a=b
 |[],[],_=>rfl
 |[],_::_,h=>by cases h
 |_::_,[],h=>by cases h
 |x::a,y::b,h=>by
  injection h with h1 h2
  have:=Sum.inl.inj h1;rw[aDg h2];congr 1;lia
theorem aEr(L:List SK)(row:List Nat):vC (vS L row)=S45.prQ (prK L) row:=by
 unfold S45.prQ vS prK;generalize row.map (λt=>(L.getD t AS).2)=xs
 have g:∀n,vC (xs.take n)=(xs.take n).sum:=λn=>by
  induction n with
  |zero=>rfl
  |succ n ih=>
   by_cases h:n<xs.length
   ·rw[aAi 0 h,aHf,ih];simp
   ·have e:xs.take (n+1)=xs.take n:=by rw[eX<|by lia,eX<|by lia]
    rw[e,ih]
 have:=g xs.length;rw[fQ] at this;exact this
variable {prog:AD}{w:AL}{A:BG}{E:BD->BE->Prop}{s:BE}{r:BF}{n:Nat}{t u v:Tok}
theorem aAJ(hh:A.handled=none)(ir:IsRange s.heap r 0 (n:Int) 1 t u v)(hn:n<=10000)(q:∀ (h':BH) (tk:Nat) (acc:Array BD),(∀b o,s.heap.get? b=some o->h'.get? b=some o)->ItemsOf (λi v=>∃t,v=.int (0+i*1) t) acc n->Q acc.toList {s with heap:=h',toks:=tk}):AK (AG prog w) A (collect<|.ref r) Q E s:=by
 have sz:Builtin.Range.rangeSize 0 (n) 1=(n):=by
  rw[rangeSize_one]
  split<;>lia
 have fin:∀ (h':BH) (tk:Nat) (acc:Array BD) (c':Nat),(∀b o,s.heap.get? b=some o→h'.get? b=some o)→h'.get? s.heap.objs.size=some {cls:= .type "list",dict:=none,data:= .seq acc c',slots:= #[]}→ItemsOf (fun i v=>∃t,v= .int (0+i * 1) t) acc n→AK (AG prog w) A (do
   let o <-load s.heap.objs.size
   match o.data with
   |.seq xs _=>pure xs.toList
   |_=>unsupported "internal:collect") Q E {s with heap:=h',toks:=tk}:=λh' tk acc c' k1 k2 k3=>AA (wpAny_load k2 (AC (q h' tk acc k1 k3)))
 have new:(s.heap.push {cls:=.type "list",data:=.seq ([]).toArray}).get? s.heap.objs.size=some {cls:=.type "list",data:=.seq #[]}:=bO _ rfl;have main:=wpAny_extend_range (prog:=prog) (w:=w) (s:={s with heap:=s.heap.push {cls:=.type "list",data:=.seq ([]).toArray}}) (R:=λ(x) (st)=>∃ (h':BH) (tk:Nat) (acc:Array BD) (c':Nat),x=.ok (.ret<|.ref s.heap.objs.size)/\st={s with heap:=h',toks:=tk}/\(∀b o,s.heap.get? b=some o->h'.get? b=some o)/\h'.get? s.heap.objs.size=some {cls:=.type "list",dict:=none,data:=.seq acc c',slots:= #[]}/\ItemsOf (λi v=>∃t,v=.int (0+i*1) t) acc n) hh (aD _ ir) (small_one (by lia) (by lia) (by lia)<|by lia) sz (by lia) s.heap.objs.size (.ref s.heap.objs.size) 0 new λh' tk acc c' k1 k2 k3=>⟨h',tk,acc,c',rfl,rfl,λb o g=>k1 b o (bR<|aU g)<|aD _ g,k2,k3⟩
 refine AA (wpAny_runValue<|Ay entry_proto_collect' ?_);refine AA (AZ<|AC ⟨plainId_quiet aAS _,Ay entry_list_iadd' ?_⟩);refine AU main (λz st x=>?_) λz st x=>?_
 ·cases z with
  |done f=>obtain⟨h',tk,acc,c',e,rfl,k1,k2,k3⟩:=x;cases e;exact fin h' tk acc c' k1 k2 k3
  |again c1=>refine⟨x.1,Aq x.2 λy st y2=>?_⟩;obtain⟨h',tk,acc,c',rfl,rfl,k1,k2,k3⟩:=y2;exact fin h' tk acc c' k1 k2 k3
 ·obtain⟨_,_,_,_,e,_⟩:=x;cases e
def aAP(r:BF)(n:Nat)(t u v:Tok)(hn:n<=10000):Meets (Builtin.«tuple.__new__» ⟨[.type "tuple",.ref r],[]⟩) (λA R s=>A.handled=none/\IsRange s.heap r 0 (n:Int) 1 t u v/\∀ (h':BH) (tk:Nat) (acc:Array BD),(∀b o,s.heap.get? b=some o->h'.get? b=some o)->ItemsOf (λi v=>∃t,v=.int (0+i*1) t) acc n->R (.ok (.ret<|.ref h'.objs.size)) {s with heap:=h'.push {cls:=.type "tuple",data:=.seq acc},toks:=tk}):=
 .of_wp λprog w A R s h=>by
  obtain⟨hp,gn,dr,tk,os⟩:=s;obtain⟨hh,ir,q⟩:=h;have a1:=sub_tuple_self;have a2:=init_tuple_lookup;have a3:=madeHere_tuple;have ty:Shared.TypeIs ⟨hp,gn,dr,tk,os⟩ (.ref r) "range":=⟨_,ir,rfl⟩;have hh1:A.in1.handled=none:=hh
  wp_walk using AutoSeq1.wpAny_loadPart' ir,wpAny_typeOf ty,aAJ hh1 ir hn
  intro h' tk' acc k1 k2;refine AA (m:=Builtin.Tuple.tupleExact acc.toList.toArray) ?_;unfold Builtin.Tuple.tupleExact;have e:acc.toList.toArray=acc:=by simp
  rw[e];exact AZ (AC ⟨_,rfl,q h' tk' acc k1 k2⟩) (show acc.size<=AJ by rw[k2.1];exact cZ<|eY hn)
theorem zZ(hh:A.handled=none)(ir:IsRange s.heap r 0 (n:Int) 1 t u v)(hn:n<=10000)(q:∀ (h':BH) (tk:Nat) (acc:Array BD),(∀b o,s.heap.get? b=some o->h'.get? b=some o)->ItemsOf (λi v=>∃t,v=.int (0+i*1) t) acc n->Q (.ref h'.objs.size) {s with heap:=h'.push {cls:=.type "tuple",data:=.seq acc},toks:=tk}):AK (AG prog w) A (call (.type "tuple") [.ref r]) Q E s:=
 callType_new F.called_tuple (by decide) (F.typeCall_tuple_1 _) (F.newCall_tuple_1 _) (λobj=>F.args_object_init_2 obj _) F.entry_tuple_new (aAP r n t u v hn) ⟨hh,ir,λh' tk acc k1 k2=>⟨⟨_,bO _ rfl,rfl⟩,q h' tk acc k1 k2⟩⟩
variable {X:Cx}{sd:List Slot}{e:Expr}{pos:Pos}
theorem vK{p p2 q2:Pos}(hg:Gl X "tuple")(hm:X.mg "tuple"=none)(hg2:Gl X "range")(hm2:X.mg "range"=none)(ha:PEd X sd e (.val<|.int (n:Int)))(h1:n<=10000)(hc:X.calm=true:=by rfl) (hst:AB [e] X.env=(false,eval e X.env)::AB [] X.env:=by rfl) (hst2:AB [.Call (.Name "range" p2) [e] [] q2] X.env=(false,eval (.Call (.Name "range" p2) [e] [] q2) X.env)::AB [] X.env:=by rfl):PEd X sd (.Call (.Name "tuple" p) [.Call (.Name "range" p2) [e] [] q2] [] pos) (.val<|.tup (bA<|bT n)):=.mk λσ F H S za s I=>by
 refine AO (mH I hg hm PyProof.Rows.boot_tuple<|PyProof.Rows.callWith_type1 ?_ hst2 rfl);refine Calls.spliced_cons (AO<|mH I hg2 hm2 boot_range ?_);refine PyProof.Rows.callWith_type1 (thn ((cO eO pa_nil hst) q2 za s σ H (λus H1=>∃v F1,us=[v]/\StF X.K X.B₀ F1 H1 σ sd/\Same F F1/\ResOk X.K F1 H1 sd (.val (.int<|n)) v) I<|(ha σ F H S).imp λv H1 ⟨F1,S1,s1,q1⟩=>⟨v,F1,rfl,S1,s1,q1⟩) λus s1 hus=>?_) hst rfl;obtain⟨ws,H1,I1,rv,v,F1,rfl,S1,sF,q1⟩:=hus;obtain⟨u,rfl,ru⟩:=pF rv;subst q1;obtain⟨t,rfl⟩:=ru;refine call_range_1<|Calls.spliced_nil ?_;refine zZ (I1.ok.hd hc) (IsRange.new ..) h1 λh' tk acc kp it=>?_
 have kp2:=λb o g=>kp b o<|aD _ g
 have le:=cZ<|aU (kp s1.heap.objs.size _<|bO _ rfl);have hD:=I1.hok.fresh le;have ln:acc.toList.length=n:=it.1
 have vl:=by
  have g:∀ (l:List BD) (f:Nat->Int),(∀ (j:Nat) (v:BD),l[j]? =some v->∃t,v=.int (f j) t)->Vals ((bT l.length).map λ(k)=>V.int<|f k) l:=λl=>by
   induction l with
   |nil=>intro f _;exact .nil
   |cons x l ih=>intro f h;obtain⟨t,e⟩:=h 0 x rfl;rw[bJ,aEd,cA,aY];exact .cons ⟨t,e⟩ (ih (λk=>f<|k+1) λj v hv=>h (j+1) v<|by simpa using hv)
  have:=g acc.toList (λk=>(k)) λj v hv=>by obtain⟨t,e⟩:=it.2 j v (by rw[<-dM];exact hv);exact⟨t,by rw[e];congr 1;lia⟩
  rw[ln] at this;exact this
 have I3:Inv X za σ (upd H1 h'.objs.size<|.tup ((bT n).map λ(k:Nat)=>V.int<|k)) {s1 with heap:=h'.push {cls:=.type "tuple",data:=.seq acc},toks:=tk}:=
  I1.laid (λb o g=>aD _<|kp2 b o g) le ⟨by rw[aC,fZ];exact cZ<|eY h1,acc.toList,vl,by simpa using IsTupD.new h' acc⟩
 obtain⟨S4,s4⟩:=S1.lay (o:=.tup ((bT n).map λ(k:Nat)=>V.int<|k)) hD trivial;refine⟨.ref h'.objs.size,_,I3,rfl,_,S4,sF.trans s4,?_⟩;refine⟨_,_,rfl,bH,?_⟩
 have gg:∀ks:List Nat,RepL X.K (upd F1 h'.objs.size<|.tup ((bT n).map λ(k:Nat)=>V.int<|k)) (ks.map λ(k:Nat)=>D.int<|k) (ks.map λ(k:Nat)=>V.int<|k):=λks=>by
  induction ks with
  |nil=>exact .nil
  |cons k ks ih=>exact .cons (by simp only[Rep]) ih
 exact gg _
def xJ{α:Type}{f:α->D}{L:List α}{t:Nat}(h:(L.map f)[t]? =some d):∃x,L[t]? =some x/\d=f x/\L.take (t+1)=L.take t++[x]:=by rw[bE] at h;obtain⟨x,h1,h2⟩:=eV.mp h;exact⟨x,h1,h2.symm,by rw[gW,h1];rfl⟩
namespace S45
end S45
def StkOk.pr(S:StkOk p L):∀k,k<L.length->1<=prK L k:=λk hk=>(S.st _<|DL.getD_mem hk).2.1
def aJe(hp:p∈bX)(S:StkOk p L)(h:RowOk L row):∀ws∈S45.tabQ (sI p L) (bW p) row,ws∈bW p:=λws hw=>by obtain⟨q1,q2⟩:=aEp hp (λs hs=>(S.st s hs).1) h;rw[<-q2] at hw;obtain⟨i,hi,rfl⟩:=aS.mp hw;exact DL.getD_mem<|q1.2 i hi
end DL
namespace L2
open PySem PySem.Spec PyProof.Rows
end L2
namespace DL
open PySem PySem.Spec PyProof.Rows L2
section
variable {prog:AD}{w:AL}{K:Type}[DecidableEq K]{knd:HeapKind prog w K}{A:BG}{E:BD->BE->Prop}{s:BE}
theorem aAK(hu:knd.room A)(hkey:knd.is s.heap k a)(hm:s.heap.DictOfH knd d xs)(hj:xs[j]? =some (k,p))(hQ:∀h',h'.DictOfH knd d (xs.eraseIdx j)->Heap.SameBut d s.heap h'->Q (some<|entryOfKey knd (k,p)) {s with heap:=h',toks:=s.toks+knd.draws k})(hsz:xs.length<=AJ):AK (AG prog w) A (Builtin.Dict.takeOut d<|.ref a) Q E s:=by
 obtain⟨o,es,ep,ho,hc,hd,he,his,hn⟩:=hm;have hes:es.size<=AJ:=by have e:=Ax he;lia
 unfold Builtin.Dict.takeOut
 try with_reducible refine AY ?_
 refine AA<|knd.pyHash hu hkey ?_;refine AA<|wpAny_dictFind_heap hu hkey ho hd he his hn (λno=>absurd hj<|no j p) λj' p' hj'=>?_
 have ej:j'=j:=by obtain⟨i1,e1⟩:=aF.mp hj';obtain⟨i2,e2⟩:=aF.mp hj;refine(lC (h₀:=by rw[aC];exact i1) (h₁:=by rw[aC];exact i2) hn).mp ?_;rw[iA,iA,e1,e2]
 subst ej;rw[hj] at hj';cases hj';refine AA<|Ap ho hd ?_;rw[entry_at he j',hj];refine AA (wpAny_updateDictKeys (hz:=hes) ho hd<|AC (hQ _ ⟨_,_,ep+1,gJ _ ho (Obj.isFreed_of_dict<|Obj.data_mapDictKeys hd _),hc.mapDictKeys _,Obj.data_mapDictKeys hd _,?_,λx hx=>?_,?_⟩<|Heap.SameBut.update ..))
 ·have:(es.eraseIdxIfInBounds j').toList=es.toList.eraseIdx j':=by obtain⟨l⟩:=es;simp
  rw[this,he,aAf]
 ·exact knd.keeps (his x<|jT hx) ho hd<|Heap.SameBut.update ..
 ·exact hn.sublist<|(qZ _ _).map _
end
section
variable {prog:AD}{w:AL}{K:Type}[DecidableEq K](knd:HeapKind prog w K)(d a:BF)
theorem aDY:
  MeetsIn prog w (Builtin.«dict.pop» ⟨[.ref d, .ref a],[]⟩) (fun A R s=>knd.room A.in1∧∃k xs j p,knd.is s.heap k a∧s.heap.DictOfH knd d xs∧xs.length≤AJ∧xs[j]? =some (k,p)∧
   ∀h',h'.DictOfH knd d (xs.eraseIdx j)->Heap.SameBut d s.heap h'->R (.ok (.ret p.2)) {s with heap:=h',toks:=s.toks+knd.draws k}):=
 .of_wp λA R s ⟨hu,k,xs,j,p,hkey,hm,hz,hj,h⟩=>by
  refine AA ?_;refine AA<|Az hm.typeIs ?_;refine AC ?_;obtain⟨o,es,ep,ho,hc,hd,he,his,hn⟩:=id hm;refine AA<|Ap ho hd (AA<|AC ?_)
  have ne:es.isEmpty=false:=by have e:=Ax he;have:=(aF.mp hj).1;rw[Array.isEmpty_eq_false_iff_exists_mem];exact⟨es[0],Array.getElem_mem<|by lia⟩
  simp only[ne,cV,if_false];refine AA<|aAK hu hkey hm hj (λh' hm' hs'=>?_) hz;exact AA (wpAny_letGo<|AC ⟨_,rfl,h h' hm' hs'⟩)
end
variable {X:Cx}{sd:List Slot}{c:Expr}{es:List Expr}{pos cp p p2:Pos}{ds:List D}{E:gX}{k n:Nat}{f x:Str}
theorem aGd(i:Nat)(hs:sd[i]? =some (Z.sl a))(hxi:PE X (.Name x p2) (iQ i))(G:uF X.prog X.w X.K Z X.mg X.base f k n C)(hr:Room k X.A)(hg:Gl X f)(ha:PAd X sd es (ds.map R.val))(hc:C a ds post)(hp:∀a',post a'->Z.ad a'=Z.ad a)(hn:ds.length+1=n)(hE:∀a',post a'->E.nx (sd.set i<|Z.sl a'))(hdb:(f==("__debug__":Str))=false:=by decide) (he:AB (.Name x p2::es) X.env=(false,eval (.Name x p2) X.env)::AB es X.env:=by rfl) (hpl:(AV cp<|AB es X.env).any (·.1)=false:=by rfl)(hsw:Ab (.Call (.Name f p) (.Name x p2::es) [] cp) none pos.line X.env=pure false:=by rfl):PSd1 X sd (.Expr (.Call (.Name f p) (.Name x p2::es) [] cp) pos) E:=.mk λσ F H S=>by
 obtain⟨fa,fd,ps,hm,hkp,bd,G⟩:=G.ex;obtain⟨o0,h1,v,h2,_⟩:=S.slots.get hs;refine(wM (qQ (FnOk.framedL G) hr hg hm hkp bd .nil tR (cO hxi pN he) hdb he hpl) hsw).to ⟨v,by rw[h1,h2],(ha σ F H S).imp λus H1 ⟨F1,S1,s1,q1⟩=>?_⟩;have rl:=q1.vals;obtain⟨o1,g1,so⟩:=S1.slots.get hs
 have eo:=by rw[h1,h2] at g1;exact(bZ.inj g1).symm
 subst eo;refine⟨by rw[bG,bJ,rl.len];exact hn,S1.smp,v,us,F1,a,ds,post,by rw[bG],S1.sub,so,gQ S1.nd hs,rl,hc,hp,λF' H' a' pa s2 s3 sm so' nd kp kf=>?_⟩;have S2:=S1.le<|gK sd i;have no:=λb hb z=>gR S1.nd hs (show b∈iM (Z.sl a) from z) hb
 have S3:StF X.K X.B₀ F' H' σ (sd.set i .un):=⟨fun b o e=>s2 _ _ (S1.base _ _ e),s3,sm,S2.slots.mono s2 fun b hb=>by
  obtain⟨n1,ob,e,_⟩:=S2.slots.owns hb
  exact⟨(kf b ob (no b hb) e n1).1,λxs e'=>kp b xs (no b hb) e'⟩,S2.nd⟩
 have S4:=S3.setT i so' nd λb hb hb2=>by obtain⟨n1,ob,e,_⟩:=S2.slots.owns hb2;exact(kf b ob (no b hb2) e n1).2 hb
 rw[jX,mK g1] at S4;exact⟨_,F',S4,s1.trans s2,hE a' pa⟩
theorem vH(W:Nat->List Slot->Prop)(h0:∃m sd0,Le sd sd0/\W m sd0)(hb:∀m sdm,W m sdm->∃t:Bool,PTd X sdm c t/\(t=false->E.nx sdm)/\(t=true->PSd X sdm body {E with nx:=λsd'=>∃m' sd2,m'<m/\Le sd' sd2/\W m' sd2,ct:=λsd'=>∃m' sd2,m'<m/\Le sd' sd2/\W m' sd2,bk:=E.nx}))(hp:PassesOwn (AG X.prog X.w) X.A X.env X.xe:=by exact PassesOwn.never):PSd1 X sd (.While c body [] pos) E:=.mk λσ F H S=>
 (aIG hp aJz pss_w).to (by
  obtain⟨m0,sd0,le0,q0⟩:=h0;refine⟨λm σ' H'=>∃sdm F',StF X.K X.B₀ F' H' σ' sdm/\Same F F'/\W m sdm,⟨m0,sd0,F,S.le le0,Same.refl _,q0⟩,?_⟩;rintro m σ' H' ⟨sdm,F',S',s',qm⟩;obtain⟨t,ht,h1,h2⟩:=hb m sdm qm;refine(ht σ' F' H' S').imp λb H1 ⟨eb,F1,S1,s1⟩=>?_
  subst eb;cases b with
  |false=>exact aJw ⟨sdm,F1,S1,s'.trans s1,h1 rfl⟩
  |true=>
   refine aJA ⟨λσ2 H2=>∃m' sd2 F2,m'<m/\StF X.K X.B₀ F2 H2 σ2 sd2/\Same F F2/\W m' sd2,λσ2 H2 ⟨m',sd2,F2,lt,S2,s2,w2⟩=>⟨m',lt,sd2,F2,S2,s2,w2⟩,?_⟩;refine(h2 rfl σ' F1 H1 S1).imp ?_ ?_ ?_ ?_
   ·rintro σ4 H4 ⟨sd4,F4,S4,s4,m',sd5,lt,le,q5⟩;exact⟨m',sd5,F4,lt,S4.le le,(s'.trans s1).trans s4,q5⟩
   ·exact λv H4 q=>q
   ·rintro σ4 H4 ⟨sd4,F4,S4,s4,q⟩;exact⟨sd4,F4,S4,(s'.trans s1).trans s4,q⟩
   ·rintro σ4 H4 ⟨sd4,F4,S4,s4,m',sd5,lt,le,q5⟩
    exact⟨m',sd5,F4,lt,S4.le le,(s'.trans s1).trans s4,q5⟩)
def aBn{cs:List BF}(x:HOk P w H h)(k:∀b u,b∉cs->h.get? b=some u->h'.get? b=some u)(hn:∀b∈cs,H b=none):HOk P w H h':=λa o e=>
 (x a o e).stay (fun b u hb q=>k b u (fun z=>by
  have n:=hn b z
  rcases hb with rfl|hb
  ·rw[e] at n;cases n
  ·rw[hb] at n
   cases n) q) (λ_ q=>q) λ_ _ q=>q
variable {prog:AD}{w:AL}{A:BG}{d I:BF}{od:BI}{es:Array DictEntry}{ep:Nat}
def aOL(hh:A.handled=none)(c:od.data=.dict es ep)(ne:d≠I):Walks prog w A I [I,d] [I] es.size (λi v=>∃u,es[i]? =some u/\v=u.key) (λi h=>h.IsKeyIter I d i es.size ep/\h.get? d=some od) where
 sub:=λb hb=>bL.mpr (.inl<|aK.mp hb)
 frame:=λi h h' st k=>by obtain⟨⟨o,g,q⟩,g2⟩:=st;exact⟨⟨o,k I aO o g,q⟩,k d (by simp) od g2⟩
 item:=λi s Q E hi st q=>aGX st.1 st.2 c hi λh' st' sb=>q _ h' s.toks ⟨es[i],by simp[hi],rfl⟩ ⟨st',(sb.2 d ne).trans st.2⟩ λb o hb g=>(sb.2 b λz=>hb<|by rw[z];exact cG _).trans g
 done:=λs Q E st q=>aJb hh st.1 st.2 c (aQ _) λh' eb=>q h' s.toks λb o hb g=>eb b o (λz=>hb<|by rw[z];exact cG _) g
 self:=λi s Q E st q=>wpAny_pyIter_keyiter st.1 q
def srcD(sm:(d==Aa)=false)(x:od.ExactDict)(c:od.data=.dict es ep):PySem.W.KdlSrc prog w "dict" d d es.size (λi v=>∃u,es[i]? =some u/\v=u.key) (λh=>h.get? d=some od) where
 type:=λs ok=>uC ok x
 there:=λh ok=>⟨aU ok,aU ok⟩
 keep:=λh h' ok k=>k d (.inl rfl) od ok
 notList:=by decide
 notTuple:=by decide
 hint:=λA E s Q ok q=>PySem.W.kdl_hint_dict (uC ok x) q
 iter:=λA s hh ok=>⟨_,_,λE Q q=>aHO sm ok x c q,aOL hh c (bR<|aU ok),⟨⟨_,bO _ rfl,rfl,rfl⟩,aD _ ok⟩⟩
section
variable {prog:AD}{w:AL}{A:BG}{I:BF}{fp wr:List BF}{n:Nat}{P:Nat->BD->Prop}{St:Nat->BH->Prop}{J:BH->Prop}{bt:Nat->Nat->Bool}{R:Result->BE->Prop}{S:BF}
def aQI(prog:AD)(w:AL)(A:BG)(J:BH->Prop)(P:Nat->BD->Prop)(bt:Nat->Nat->Bool):Prop:=∀i k x y (t:BE) (Q:BD->BE->Prop) (E:BD->BE->Prop),J t.heap->P i x->P k y->Q (.bool<|bt i k) t->AK (AG prog w) A (richCompare .Lt x y) Q E t
def aKX(cs:List BF)(J:BH->Prop):Prop:=∀h h':BH,J h->(∀b o,b∉cs->h.get? b=some o->h'.get? b=some o)->J h'
noncomputable def two2(v:BD)(c:Nat):BI:={cls:=.type "list",dict:=none,data:=.seq #[v,v] c,slots:= #[]}
theorem aGU(W:Walks prog w A.in1 I fp wr n P St)(ask:aQI prog w A.in1 J P bt)(stay:aKX (S::wr) J)(nS:S∉fp):∀ (k j:Nat) (s:BE) (v0:BD) (c:Nat),n=k+(j+1)->St (j+1) s.heap->P (Ae bt j) v0->J s.heap->s.heap.get? S=some (two2 v0 c)->(∀v h' tk,P (Ae bt<|n-1) v->(∀b o,b∉S::wr->s.heap.get? b=some o->h'.get? b=some o)->R (.ok<|.ret v) {s with heap:=h',toks:=tk})->codeAny (AG prog w) A (.builtin "min.loop" ⟨[.ref I,.none,.ref S],[]⟩) R s:=λk=>by
 have nW:=λz=>nS<|W.sub S z
 have nm:(toString "min"++toString ".loop")="min.loop":=by decide
 have upO:∀ {h:BH}{f:BI->BI}{b:BF}{o:BI},b∉S::wr->h.get? b=some o->(h.update S f).get? b=some o:=λ{h f b o} hb g=>by rw[cW _ _ (λz=>hb<|by rw[<-z];exact aO)];exact g
 have upF:∀ {h:BH}{f:BI->BI}{i:Nat},St i h->St i (h.update S f):=λ{h f i} st=>W.frame _ _ _ st λb hb o g=>by rw[cW _ _ (λz=>nS<|by rw[z];exact hb)];exact g
 have sub1:∀ {b:BF},b∉S::wr->b∉wr:=λhb z=>hb<|aH _ z
 induction k with
 |zero=>
  intro j s v0 c en st p0 hJ hS fin;have ej:n=j+1:=by lia
  refine Ay F.entry_min_loop ?_;refine AA<|wpAny_seqItems hS rfl ?_;refine AA (wpAny_tryCatch<|W.done s _ _ (by rw[ej];exact st) λh1 tk k1=>?_);refine AA (wpAny_updateSeq (k1 S _ nW hS) rfl<|AA (wpAny_letGo<|AC ?_));exact fin v0 _ tk (by rw[ej];exact p0) λb o hb g=>upO hb<|k1 b o (sub1 hb) g
 |succ k ih=>
  intro j s v0 c en st p0 hJ hS fin;refine Ay F.entry_min_loop ?_;rw[Around.under_plainId F.plain_min_loop];refine AA<|wpAny_seqItems hS rfl ?_;refine AA (wpAny_tryCatch<|W.item (j+1) s _ _ (by lia) st λv h1 tk pv st1 k1=>?_);have hS1:=k1 S _ nW hS;have hJ1:=stay _ _ hJ λb o hb g=>k1 b o (sub1 hb) g
  refine AA (m:=tryCatch (holding [v,v]<|richCompare .Lt v v0>>=_) _) (wpAny_tryCatch<|AY (AA<|ask (j+1) (Ae bt j) v v0 ⟨h1,s.gens,s.drawn,tk,s.os⟩ _ _ hJ1 pv p0 ?_));refine AA<|AY (Ai<|AA (wpAny_letGo<|AC ?_));have ab:Ae bt (j+1)=if bt (j+1) (Ae bt j) then j+1 else Ae bt j:=rfl
  cases q:bt (j+1) (Ae bt j) with
  |true=>rw[q,zt rfl] at ab;refine AA<|wpAny_updateSeq hS1 rfl (AA<|wpAny_letGo ?_);rw[nm];refine AC ⟨plainId_quiet F.plain_min_loop _,ih (j+1) _ v _ (by lia) (upF st1) (by rw[ab];exact pv) (stay _ _ hJ1 λb o hb g=>upO hb g) (gJ _ hS1 rfl) λv' h2 tk2 p2 k2=>?_⟩;exact fin v' h2 tk2 p2 λb o hb g=>k2 b o hb (upO hb<|k1 b o (sub1 hb) g)
  |false=>rw[q,zr bM] at ab;simp only[cV,if_false];refine AA<|wpAny_letGo ?_;rw[nm];refine AC ⟨plainId_quiet F.plain_min_loop _,ih (j+1) _ v0 c (by lia) st1 (by rw[ab];exact p0) hJ1 hS1 λv' h2 tk2 p2 k2=>?_⟩;exact fin v' h2 tk2 p2 λb o hb g=>k2 b o hb<|k1 b o (sub1 hb) g
theorem aDX(W:Walks prog w A.in1 I fp wr n P St)(ask:aQI prog w A.in1 J P bt)(stay:aKX (S::wr) J)(nS:S∉fp)(h0:0<n){c:Nat}(st:St 0 s.heap)(hJ:J s.heap)(hS:s.heap.get? S=some {cls:=.type "list",dict:=none,data:=.seq #[] c,slots:= #[]})(fin:∀v h' tk,P (Ae bt<|n-1) v->(∀b o,b∉S::wr->s.heap.get? b=some o->h'.get? b=some o)->R (.ok<|.ret v) {s with heap:=h',toks:=tk}):codeAny (AG prog w) A (.builtin "min.loop" ⟨[.ref I,.none,.ref S],[]⟩) R s:=by
 have nW:=λz=>nS<|W.sub S z
 have upO:∀ {h:BH}{f:BI->BI}{b:BF}{o:BI},b∉S::wr->h.get? b=some o->(h.update S f).get? b=some o:=λ{h f b o} hb g=>by rw[cW _ _ (λz=>hb<|by rw[<-z];exact aO)];exact g
 have sub1:∀ {b:BF},b∉S::wr->b∉wr:=λhb z=>hb<|aH _ z
 refine Ay F.entry_min_loop ?_;refine AA<|wpAny_seqItems hS rfl ?_;refine AA (wpAny_tryCatch<|W.item 0 s _ _ h0 st λv h1 tk pv st1 k1=>?_);have hS1:=k1 S _ nW hS;refine AA (m:=updateSeq S λ_=> #[v,v])<|wpAny_updateSeq hS1 rfl ?_;refine AC ⟨plainId_quiet F.plain_min_loop _,aGU W ask stay nS (n-1) 0 _ v _ (by lia) (W.frame _ _ _ st1 λb hb o g=>?_) pv (stay _ _ hJ λb o hb g=>upO hb<|k1 b o (sub1 hb) g) (gJ _ hS1 rfl) λv' h2 tk2 p2 k2=>?_⟩
 ·rw[cW _ _ (λz=>nS<|by rw[z];exact hb)];exact g
 ·exact fin v' h2 tk2 p2 λb o hb g=>k2 b o hb (upO hb<|k1 b o (sub1 hb) g)
theorem aFV{E:BD->BE->Prop}{x:BD}(h:AK (AG prog w) A.in1 (pyIter x) (fun it t=>∃ (I:BF) (fp wr:List BF) (n:Nat) (P:Nat→BD→Prop) (St:Nat→BH→Prop) (J:BH→Prop) (bt:Nat→Nat→Bool),it= .ref I∧Walks prog w A.in1 I fp wr n P St∧St 0 t.heap∧(∀b∈fp,b<t.heap.objs.size)∧0<n∧aQI prog w A.in1 J P bt∧J t.heap∧aKX (t.heap.objs.size::wr) J∧
   ∀v h' tk,P (Ae bt (n-1)) v->(∀b o,b∉wr->t.heap.get? b=some o->h'.get? b=some o)->Q v {t with heap:=h',toks:=tk}) E s):
  AK (AG prog w) A (call (.builtin "min") [x]) Q E s:=by
 refine call_function_tree F.kind_min F.plain_min F.entry_min (F.args_min1 _) ?_;refine AA<|wpAny_of_eq rfl (AA<|AC ?_);refine AA<|AU h (λit t hx=>?_) λ_ _ z=>z;obtain⟨I,fp,wr,n,P,St,J,bt,rfl,W,st,hfp,h0,ask,hJ,stay,q⟩:=hx;refine AA<|AZ ?_;have nS:=λz=>eU _<|hfp _ z
 refine AC ⟨plainId_quiet F.plain_min_loop _,aDX W ask stay nS h0 (W.frame _ _ _ st λb _ o g=>aD _ g) (stay _ _ hJ λb o _ g=>aD _ g) (bO _ rfl) λv h' tk pv k=>?_⟩;refine q v h' tk pv λb o hb g=>k b o (λz=>?_)<|aD _ g
 rcases bL.mp z with z|z
 ·exact eU _<|z▸aU g
 ·exact hb z
end
noncomputable def rkA(r:AH->Nat)(xs:Array AH)(i:Nat):Nat:=match xs[i]? with
 |some p=>r p
 |none=>0
def AscR(r:AH->Nat)(xs:Array AH)(l h:Nat):Prop:=∀i j,l<=i->i<j->j<h->rkA r xs i<rkA r xs j
def iI(h:xs[i]? =ys[j]?):rkA r xs i=rkA r ys j:=by unfold rkA;rw[h]
def dX(h:i<xs.size):rkA r xs i=r xs[i]:=by unfold rkA;rw[getElem?_pos xs i h]
structure lV(prog:AD)(w:AL)(A:BG)(E:BD->BE->Prop)(s:BE)(κ:Au)(r:AH->Nat)(a₀:Array AH):Prop where
 ask:∀ {x y:AH}{st:BK}{Q:Option Bool->BK->Prop},x∈a₀.toList->y∈a₀.toList->kindOf st=κ->Q (some (decide<|r x<r y)) st->wpS (AG prog w) A E s (lt' x y) Q st
 nd:(a₀.toList.map r).Nodup
structure SB(κ:Au)(a₀:Array AH)(st:BK):Prop where
 perm:(AM st).Perm a₀
 kind:kindOf st=κ
 failed:failedOf st=none
structure Stp(κ:Au)(a₀:Array AH)(lo hi:Nat)(st st':BK):Prop where
 sb:SB κ a₀ st'
 pend:AE st'=AE st
 keep:∀k,k<lo\/hi<=k->(AM st')[k]? =(AM st)[k]?
variable {E:BD->BE->Prop}{s:BE}{κ:Au}{r:AH->Nat}{a₀:Array AH}{st st':BK}
def SB.size(h:SB κ a₀ st):(AM st).size=a₀.size:=h.perm.size_eq
def SB.mem(h:SB κ a₀ st)(hi:i<(AM st).size):(AM st)[i]∈a₀.toList:=(gH.mp h.perm).mem_iff.mp<|by simp
def aRK(nd:(xs.toList.map r).Nodup)(hi:i<xs.size)(hj:j<xs.size)(hij:i≠j):rkA r xs i≠rkA r xs j:=λe=>by
 rw[dX hi,dX hj] at e;have e2:(xs.toList.map r)[i]'(by simpa using hi)=(xs.toList.map r)[j]'(by simpa using hj):=by simpa using e
 exact hij<|(lC nd).mp e2
def SB.nd(h:SB κ a₀ st)(K:lV prog w A E s κ r a₀):((AM st).toList.map r).Nodup:=(((gH.mp h.perm).map r).nodup_iff).mpr K.nd
def SB.ne(h:SB κ a₀ st)(K:lV prog w A E s κ r a₀)(hi:i<a₀.size)(hj:j<a₀.size)(hij:i≠j):rkA r (AM st) i≠rkA r (AM st) j:=
 aRK (h.nd K) (by rw[h.size];exact hi) (by rw[h.size];exact hj) hij
def Stp.refl(h:SB κ a₀ st)(lo hi:Nat):Stp κ a₀ lo hi st st:=⟨h,rfl,λ_ _=>rfl⟩
def Stp.trans{lo hi:Nat}(h:Stp κ a₀ lo hi st st')(h2:Stp κ a₀ lo hi st' st''):Stp κ a₀ lo hi st st'':=⟨h2.sb,h2.pend.trans h.pend,λk hk=>(h2.keep k hk).trans<|h.keep k hk⟩
def SB.setArr(h:SB κ a₀ st)(hp:xs.Perm (AM st)):SB κ a₀ (setArr st xs):=⟨hp.trans h.perm,h.kind,h.failed⟩
def eG(hi:i<xs.size)(h:Q xs[i] st):wpS (AG prog w) A E s (elem' xs i) Q st:=by rw[elem'_eq,getElem?_pos xs i hi];exact AI h
def sK(K:lV prog w A E s κ r a₀)(hB:SB κ a₀ st)(hi:i<a₀.size)(hj:j<a₀.size)(h:Q (some (decide<|rkA r (AM st) i<rkA r (AM st) j)) st):wpS (AG prog w) A E s (ltAt' i j) Q st:=by
 have hi':i<(AM st).size:=by rw[hB.size];exact hi
 have hj':j<(AM st).size:=by rw[hB.size];exact hj
 refine AF<|wpS_get ?_;refine AF (eG hi'<|AF (eG hj'<|K.ask (hB.mem hi') (hB.mem hj') hB.kind ?_));rw[dX hi',dX hj'] at h;exact h
def aAy(hj:j<=xs.size)(k:Nat):rkA r (mirror xs i j<|(j-i) / 2) k=if i<=k/\k<j then rkA r xs (i+j-1-k) else rkA r xs k:=by
 have e:=getElem?_mirror_all (i:=i) hj k
 by_cases h1:i<=k/\k<j
 ·rw[zt h1] at e ⊢;exact iI e
 ·rw[zr h1] at e ⊢;exact iI e
def aAm{src d:Nat}(hs:src<xs.size)(hd:d<=src)(k:Nat):rkA r (bubble xs src d) k=if k=src-d then rkA r xs src else if src-d<k/\k<=src then rkA r xs (k-1) else rkA r xs k:=by
 have e:=getElem?_bubble hs d hd k
 by_cases h1:k=src-d
 ·rw[zt h1] at e ⊢;exact iI e
 ·rw[zr h1] at e ⊢
  by_cases h2:src-d<k/\k<=src
  ·rw[zt h2] at e ⊢;exact iI e
  ·rw[zr h2] at e ⊢;exact iI e
theorem AscR.snoc(a:AscR r xs l h)(lt:l<h)(q:rkA r xs (h-1)<rkA r xs h):AscR r xs l (h+1):=λi j hi hij hj=>by
 by_cases e:j=h
 ·subst e
  by_cases e2:i=j-1
  ·rw[e2];exact q
  ·exact qF (a i (j-1) hi (by lia)<|by lia) q
 ·exact a i j hi hij<|by lia
theorem aFh{lo a nrem:Nat}(K:lV prog w A E s κ r a₀)(hB:SB κ a₀ st)(ha:1<=a)(han:a<=nrem)(hn:lo+nrem<=a₀.size)(hs:AscR r (AM st) lo (lo+a))(h:∀m,a<=m->m<=nrem->AscR r (AM st) lo (lo+m)->(m<nrem->rkA r (AM st) (lo+m)<rkA r (AM st) (lo+m-1))->Q (none,m) st):wpS (AG prog w) A E s (forIn [a:nrem] ((none,a):Option (Option Nat) × Nat) fun _ __s=>do
   let __x <-ltAt' (lo+__s.snd) (lo+__s.snd-1)
   match __x with
   |some smaller=>if smaller=true then pure (ForInStep.done (none,__s.snd)) else pure (ForInStep.yield (none,__s.snd+1))
   |_=>pure (ForInStep.done (some none,__s.snd))) Q st:=by
 refine AW (I:=λx c st'=>st'=st/\c=(none,x)/\AscR r (AM st) lo (lo+x)) ?_ ?_ ⟨rfl,rfl,hs⟩
 ·rintro x c st' hx hxn ⟨rfl,rfl,hs'⟩;refine AF (sK K hB (by lia) (by lia) ?_)
  by_cases q:rkA r (AM st') (lo+x)<rkA r (AM st') (lo+x-1)
  ·simp only[q,decide_true,if_true];exact AI<|h x hx (by lia) hs' λ_=>q
  ·simp only[q,decide_false,cV,if_false];refine AI ⟨rfl,rfl,?_⟩;have ne:=hB.ne K (i:=lo+x) (j:=lo+x-1) (by lia) (by lia) (by lia);exact hs'.snoc (by lia)<|by lia
 ·rintro c st' ⟨rfl,rfl,hs'⟩;rw[show max a nrem=nrem by lia] at hs' ⊢;exact h nrem han (aQ _) hs' λz=>absurd z<|eU _
def DscR(r:AH->Nat)(xs:Array AH)(l h:Nat):Prop:=∀i j,l<=i->i<j->j<h->rkA r xs j<rkA r xs i
theorem DscR.snoc(a:DscR r xs l h)(lt:l<h)(q:rkA r xs h<rkA r xs (h-1)):DscR r xs l (h+1):=λi j hi hij hj=>by
 by_cases e:j=h
 ·subst e
  by_cases e2:i=j-1
  ·rw[e2];exact q
  ·exact qF q (a i (j-1) hi (by lia)<|by lia)
 ·exact a i j hi hij<|by lia
theorem aDO{lo nrem:Nat}(K:lV prog w A E s κ r a₀)(hB:SB κ a₀ st)(h1:1<=nrem)(hn:lo+nrem<=a₀.size)(h:∀m st',1<=m->m<=nrem->Stp κ a₀ lo (lo+nrem) st st'->AscR r (AM st') lo (lo+m)->Q (some m) st'):wpS (AG prog w) A E s (countRun' lo nrem) Q st:=by
 refine AF<|aFh K hB (aQ 1) h1 hn (λi j h1 h2 h3=>by lia) λm hm1 hm2 hs hq=>?_;dsimp only
 by_cases e:m=nrem
 ·rw[zt<|by simpa using e];exact AI<|h m st hm1 hm2 (.refl hB _ _) hs
 ·rw[zr<|by simpa using e]
  by_cases m1:m>1
  ·rw[zt m1];refine AF<|sK K hB (by lia) (by lia) ?_;rw[decide_eq_true (hs lo (lo+m-1) (aQ _) (by lia)<|by lia)];dsimp only;exact AI<|h m st hm1 hm2 (.refl hB _ _) hs
  ·have em:m=1:=by lia
   subst em;have hq:=hq (by lia);refine AF (wpS_lift<|BB ⟨rfl,?_⟩);refine AF<|Ac (AW (I:=λx c st'=>st'=st/\c=(none,x,0)/\DscR r (AM st) lo (lo+x)) (Q:=λc st'=>st'=st/\∃m,c=(none,m,0)/\2<=m/\m<=nrem/\DscR r (AM st) lo (lo+m)) ?step ?fin ⟨rfl,rfl, ?init⟩) ?post
   case init=>
    intro i j h1 h2 h3;have e1:i=lo:=by lia
    have e2:j=lo+1:=by lia
    subst e1 e2;exact hq
   case step=>
    rintro x c st' hx hxn ⟨rfl,rfl,hs'⟩;dsimp only;refine AF<|sK K hB (by lia) (by lia) ?_
    by_cases q:rkA r (AM st') (lo+x)<rkA r (AM st') (lo+x-1)
    ·simp only[q,decide_true,if_true];exact AI ⟨rfl,rfl,hs'.snoc (by lia) q⟩
    ·simp only[q,decide_false,cV,if_false];refine AF<|sK K hB (by lia) (by lia) ?_;have ne:=hB.ne K (i:=lo+x) (j:=lo+x-1) (by lia) (by lia) (by lia);rw[decide_eq_true<|by lia];dsimp only;exact AI ⟨rfl,x,rfl,hx,by lia,hs'⟩
   case fin=>rintro c st' ⟨rfl,rfl,hs'⟩;rw[show max (1+1) nrem=nrem by lia] at hs' ⊢;exact⟨rfl,nrem,rfl,by lia,aQ _,hs'⟩
   case post=>
    rintro c st' ⟨rfl,m,rfl,m2,mn,hd⟩;dsimp only;refine AF<|Aw ?_;have hz:lo+m<=(AM st').size:=by rw[hB.size];lia
    have S:Stp κ a₀ lo (lo+nrem) st' (setArr st' (mirror (AM st') lo (lo+m)<|(lo+m-lo) / 2)):=by refine⟨hB.setArr<|mirror_perm _ _ _ _,rfl,λk hk=>?_⟩;rw[getElem?_mirror_all hz,zr<|by lia]
    refine AF<|aFh K S.sb (by lia) mn hn (λi j h1 h2 h3=>?_) λm' a1 a2 a3 _=>?_
    ·show rkA r (mirror (AM st') lo (lo+m)<|(lo+m-lo) / 2) i<rkA r (mirror (AM st') lo (lo+m)<|(lo+m-lo) / 2) j;rw[aAy hz,aAy hz,zt<|by lia,zt<|by lia];exact hd _ _ (by lia) (by lia)<|by lia
    ·exact AI<|h m' _ (by lia) a2 S a3
theorem aIi{lo ok:Nat}(K:lV prog w A E s κ r a₀)(hB:SB κ a₀ st)(hn:lo+n<=a₀.size)(hok:ok<=n)(hs:AscR r (AM st) lo (lo+ok))(h:∀st',Stp κ a₀ lo (lo+n) st st'->AscR r (AM st') lo (lo+n)->Q true st'):wpS (AG prog w) A E s (binarySort' lo n ok) Q st:=by
 refine AF (Ac (AW (I:=fun k c st'=>c=(none,())∧Stp κ a₀ lo (lo+n) st st'∧AscR r (AM st') lo (lo+min k n))
  (Q:=λc st'=>c=(none,())/\Stp κ a₀ lo (lo+n) st st'/\AscR r (AM st') lo (lo+n)) ?step ?fin ?init) ?post)
 case post=>rintro c st' ⟨rfl,S,hs'⟩;exact AI<|h st' S hs'
 case init=>refine⟨rfl,.refl hB _ _,λi j hi hij hj=>?_⟩;exact hs i j hi hij<|by lia
 case fin=>
  rintro c st' ⟨hc,S,hs'⟩;refine⟨hc,S,?_⟩
  rwa[show min (max (max ok 1) n) n=n by lia] at hs'
 case step=>
  rintro k c st' hak hkn ⟨rfl,S,hs'⟩;rw[show min k n=k by lia] at hs';have hB':=S.sb;have hk:lo+k<a₀.size:=by lia
  refine AF (Ac (AW (I:=fun x c st''=>st''=st'∧∃l r',c=(none,l,r')∧l≤r'∧r'≤k∧r' - l≤k - x∧
    (∀i,i<l->rkA r (AM st') (lo+i)<rkA r (AM st') (lo+k))/\(∀i,r'<=i->i<k->rkA r (AM st') (lo+k)<rkA r (AM st') (lo+i)))
   (Q:=fun c st''=>st''=st'∧∃l r',c=(none,l,r')∧l≤k∧
    (∀i,i<l->rkA r (AM st') (lo+i)<rkA r (AM st') (lo+k))/\(∀i,l<=i->i<k->rkA r (AM st') (lo+k)<rkA r (AM st') (lo+i))) ?istep ?ifin ?iinit) ?ipost)
  case iinit=>exact⟨rfl,0,k,rfl,by lia,by omega,by omega,λi hi=>by lia,λi h1 h2=>by lia⟩
  case ifin=>
   rintro c st'' ⟨rfl,l,r',rfl,hlr,hrk,hm,hlo,hhi⟩;have:l=r':=by lia
   subst this;exact⟨rfl,l,l,rfl,hrk,hlo,hhi⟩
  case istep=>
   rintro x c st'' _ hxk ⟨rfl,l,r',rfl,hlr,hrk,hm,hlo,hhi⟩;dsimp only
   by_cases hge:l>=r'
   ·rw[zt hge];have:l=r':=by lia
    subst this;exact AI ⟨rfl,l,l,rfl,hrk,hlo,hhi⟩
   ·rw[zr hge];refine AF (sK K hB' hk (by lia) ?_)
    by_cases hless:rkA r (AM st'') (lo+k)<rkA r (AM st'') (lo+(l+r') / 2)
    ·simp only[hless,decide_true,if_true];refine AI ⟨rfl,l,(l+r') / 2,rfl,by lia,by lia,by lia,hlo,λi h1 h2=>?_⟩
     by_cases e:i=(l+r') / 2
     ·rw[e];exact hless
     ·exact qF hless (hs' _ _ (by lia) (by lia)<|by lia)
    ·simp only[hless,decide_false,cV,if_false];have ne:=hB'.ne K (j:=lo+(l+r') / 2) hk (by lia) (by lia);have hl:rkA r (AM st'') (lo+(l+r') / 2)<rkA r (AM st'') (lo+k):=by lia
     refine AI ⟨rfl,(l+r') / 2+1,r',rfl,by lia,by omega,by lia,λi h1=>?_,hhi⟩
     by_cases e:i=(l+r') / 2
     ·rw[e];exact hl
     ·exact qF (hs' _ _ (by lia) (by lia)<|by lia) hl
  case ipost=>
   rintro c st'' ⟨rfl,l,r',rfl,hlk,hlo,hhi⟩;show wpS _ _ _ _ (do moveDown' (lo+k) (lo+l);pure (ForInStep.yield (none,()))) _ _;rw[moveDown'_eq];have hks:lo+k<(AM st'').size:=by rw[hB'.size];exact hk
   have ed:lo+k-(lo+l)=k-l:=by lia
   rw[ed];refine AF (Aw<|AI ⟨rfl,S.trans ⟨hB'.setArr<|bubble_perm _ _ _,rfl,λi hi=>?_⟩,?_⟩)
   ·show(bubble (AM st'') (lo+k)<|k-l)[i]? =_;rw[getElem?_bubble hks _<|by lia,zr<|by lia,zr<|by lia]
   rw[show min (k+1) n=k+1 by lia];intro i j hi hij hj;show rkA r (bubble (AM st'') (lo+k)<|k-l) i<rkA r (bubble (AM st'') (lo+k)<|k-l) j;rw[aAm hks<|by lia,aAm hks<|by lia,show lo+k-(k-l)=lo+l by lia]
   have hlo':=λi a b=>by
    have:=hlo (i-lo)<|by omega
    rwa[show lo+(i-lo)=i by omega] at this
   have hhi':∀i,lo+l<=i->i<lo+k->rkA r (AM st'') (lo+k)<rkA r (AM st'') i:=λi a b=>by
    have:=hhi (i-lo) (by lia)<|by lia
    rwa[show lo+(i-lo)=i by lia] at this
   repeat' split
   all_goals first
    |(exfalso;omega)
    |exact hlo' _ (by omega) (by lia)
    |exact hhi' _ (by omega) (by omega)
    |exact hs' _ _ (by omega) (by omega) (by lia)
noncomputable def nA:Bool->AH->Array AH->Nat->Nat->Nat->StateT BK Sem (Option Nat):=sortPriv%PySem.Builtin.gallop
noncomputable def bey(left:Bool)(key:AH)(arr:Array AH)(base i:Nat):StateT BK Sem (Option Bool):=do
  let x <-elem' arr (base+i)
  if left then lt' x key else return (<-lt' key x).map (!·)
def aDR(left:Bool)(key:AH)(arr:Array AH)(base n hint:Nat):nA left key arr base n hint=(do
 let mut lastofs:=0
 let mut ofs:=1
 let mut lo:=0
 let mut hi:=0
 let some right <-bey left key arr base hint|return none
 if right then
  let maxofs:=n-hint
  for _ in[0:n] do
   if ofs>=maxofs then break
   let some more <-bey left key arr base (hint+ofs)|return none
   if !more then break
   lastofs:=ofs
   ofs:=2*ofs+1
  lo:=hint+lastofs+1
  hi:=hint+min ofs maxofs
 else
  let maxofs:=hint+1
  for _ in[0:n] do
   if ofs>=maxofs then break
   let some found <-bey left key arr base (hint-ofs)|return none
   if found then break
   lastofs:=ofs
   ofs:=2*ofs+1
  lo:=hint+1-min ofs maxofs
  hi:=hint-lastofs
 for _ in[0:n] do
  if lo>=hi then break
  let m:=lo+(hi-lo) / 2
  let some more <-bey left key arr base m|return none
  if more then lo:=m+1 else hi:=m
 return some hi):=rfl
theorem tU(K:lV prog w A E s κ r a₀)(hk:kindOf st=κ)(mx:∀x∈xs.toList,x∈a₀.toList)(mk:key∈a₀.toList)(hi:base+i<xs.size)(ne:rkA r xs (base+i)≠r key)(h:Q (some (decide<|rkA r xs (base+i)<r key)) st):wpS (AG prog w) A E s (bey left key xs base i) Q st:=by
 refine AF<|eG hi ?_;have m1:xs[base+i]∈a₀.toList:=mx _ (by simp);rw[dX hi] at h ne;cases left with
 |true=>exact K.ask m1 mk hk h
 |false=>
  refine AF (K.ask mk m1 hk<|AI ?_)
  have e:(!decide (r key<r xs[base+i]))=decide (r xs[base+i]<r key):=by
   by_cases q:r xs[base+i]<r key
   ·rw[decide_eq_true q,decide_eq_false<|by lia];rfl
   ·rw[decide_eq_false q,decide_eq_true<|by lia];rfl
  show Q (some<|!decide (r key<r xs[base+i])) st;rw[e];exact h
theorem AscR.le(a:AscR r xs base (base+n))(hij:i<=j)(hj:j<n):rkA r xs (base+i)<=rkA r xs (base+j):=by
 by_cases e:i=j
 ·rw[e];exact aQ _
 ·exact cZ (a _ _ (by lia) (by lia)<|by lia)
theorem qX(K:lV prog w A E s κ r a₀)(hk:kindOf st=κ)(mx:∀x∈xs.toList,x∈a₀.toList)(mk:key∈a₀.toList)(hx:base+n<=xs.size)(hh:hint<n)(asc:AscR r xs base (base+n)) (ne:∀i,i<n->rkA r xs (base+i)≠r key)(h:∀k,k<=n->(∀i,i<k->rkA r xs (base+i)<r key)->(∀i,k<=i->i<n->r key<rkA r xs (base+i))->Q (some k) st):wpS (AG prog w) A E s (nA left key xs base n hint) Q st:=by
 rw[aDR];refine AF<|tU K hk mx mk (by lia) (ne _ hh) ?_
 by_cases q:rkA r xs (base+hint)<r key
 ·simp only[q,decide_true,if_true]
  refine AF (Ac (AW (I:=fun x c st'=>st'=st∧∃last ofs,c=(none,last,ofs)∧last<ofs∧x+1≤ofs∧hint+last<n∧rkA r xs (base+(hint+last))<r key)
   (Q:=λc st'=>st'=st/\∃last ofs,c=(none,last,ofs)/\last<ofs/\hint+last<n/\rkA r xs (base+(hint+last))<r key/\(n-hint<=ofs\/(hint+ofs<n/\r key<rkA r xs (base+(hint+ofs))))) ?step ?fin ⟨rfl,0,1,rfl,by omega,by omega,hh,q⟩) ?post)
  case fin=>rintro c st' ⟨rfl,last,ofs,rfl,a,b,c,d⟩;exact⟨rfl,last,ofs,rfl,a,c,d,.inl<|by lia⟩
  case step=>
   rintro x c st' _ hxn ⟨rfl,last,ofs,rfl,a,b,c,d⟩;dsimp only
   by_cases z:ofs>=n-hint
   ·rw[zt z];exact AI ⟨rfl,last,ofs,rfl,a,c,d,.inl z⟩
   ·rw[zr z];refine AF (tU K hk mx mk (by lia) (ne _<|by lia) ?_)
    by_cases y:rkA r xs (base+(hint+ofs))<r key
    ·simp only[y,decide_true,Bool.not_true,cV,if_false];exact AI ⟨rfl,ofs,2*ofs+1,rfl,by lia,by lia,by lia,y⟩
    ·simp only[y,decide_false,Bool.not_false,if_true];have y':=ne (hint+ofs) (by lia);exact AI ⟨rfl,last,ofs,rfl,a,c,d,.inr ⟨by lia,by lia⟩⟩
  case post=>
   rintro c st' ⟨rfl,last,ofs,rfl,a,b,c,d⟩;dsimp only;have l1:hint+last+1<=hint+min ofs (n-hint):=by lia
   have l2:hint+min ofs (n-hint)<=n:=by lia
   have hl:∀i,i<hint+last+1->rkA r xs (base+i)<r key:=λi hi=>dD (asc.le (by lia) b) c
   have hg:∀i,hint+min ofs (n-hint)<=i->i<n->r key<rkA r xs (base+i):=λi h1 h2=>by
    rcases d with d|⟨d1,d2⟩
    ·lia
    ·exact aZ d2<|asc.le (by lia) h2
   refine AF (Ac (AW (I:=fun x c st''=>st''=st'∧∃lo hi,c=(none,lo,hi)∧lo≤hi∧hi≤n∧hi - lo≤n - x∧(∀i,i<lo→rkA r xs (base+i)<r key)∧(∀i,hi≤i→i<n→r key<rkA r xs (base+i)))
    (Q:=λc st''=>st''=st'/\∃k,c=(none,k,k)/\k<=n/\(∀i,i<k->rkA r xs (base+i)<r key)/\(∀i,k<=i->i<n->r key<rkA r xs (base+i))) ?step ?fin ⟨rfl,_,_,rfl,l1,l2,by lia,hl,hg⟩) ?post)
   case post=>rintro c st'' ⟨rfl,k,rfl,a,b,c⟩;exact AI<|h k a b c
   case fin=>
    rintro c st'' ⟨rfl,lo,hi,rfl,a,b,c,d,e⟩;have:lo=hi:=by lia
    subst this;exact⟨rfl,lo,rfl,b,d,e⟩
   case step=>
    rintro x c st'' _ hxn ⟨rfl,lo,hi,rfl,a,b,c,d,e⟩;dsimp only
    by_cases q:lo>=hi
    ·rw[zt q];have:lo=hi:=by lia
     subst this;exact AI ⟨rfl,lo,rfl,b,d,e⟩
    ·rw[zr q];refine AF (tU K hk mx mk (by lia) (ne _<|by lia) ?_)
     by_cases z:rkA r xs (base+(lo+(hi-lo) / 2))<r key
     ·simp only[z,decide_true,if_true];refine AI ⟨rfl,lo+(hi-lo) / 2+1,hi,rfl,by lia,b,by lia,λi hi'=>?_,e⟩;exact dD (asc.le (by lia)<|by lia) z
     ·simp only[z,decide_false,cV,if_false];have z':=ne (lo+(hi-lo) / 2) (by lia);refine AI ⟨rfl,lo,lo+(hi-lo) / 2,rfl,by lia,by lia,by lia,d,λi h1 h2=>?_⟩;exact aZ (by lia)<|asc.le h1 h2
 ·simp only[q,decide_false,cV,if_false];have q':=ne hint hh
  refine AF (Ac (AW (I:=fun x c st'=>st'=st∧∃last ofs,c=(none,last,ofs)∧last<ofs∧x+1≤ofs∧last≤hint∧r key<rkA r xs (base+(hint - last)))
   (Q:=λc st'=>st'=st/\∃last ofs,c=(none,last,ofs)/\last<ofs/\last<=hint/\r key<rkA r xs (base+(hint-last))/\(hint+1<=ofs\/(ofs<=hint/\rkA r xs (base+(hint-ofs))<r key))) ?step ?fin ⟨rfl,0,1,rfl,by omega,by omega,by lia,by rw[Nat.sub_zero];lia⟩) ?post)
  case fin=>rintro c st' ⟨rfl,last,ofs,rfl,a,b,c,d⟩;exact⟨rfl,last,ofs,rfl,a,c,d,.inl<|by lia⟩
  case step=>
   rintro x c st' _ hxn ⟨rfl,last,ofs,rfl,a,b,c,d⟩;dsimp only
   by_cases z:ofs>=hint+1
   ·rw[zt z];exact AI ⟨rfl,last,ofs,rfl,a,c,d,.inl z⟩
   ·rw[zr z];refine AF (tU K hk mx mk (by lia) (ne _<|by lia) ?_)
    by_cases y:rkA r xs (base+(hint-ofs))<r key
    ·simp only[y,decide_true,if_true];exact AI ⟨rfl,last,ofs,rfl,a,c,d,.inr ⟨by lia,y⟩⟩
    ·simp only[y,decide_false,cV,if_false];have y':=ne (hint-ofs) (by lia);exact AI ⟨rfl,ofs,2*ofs+1,rfl,by lia,by lia,by lia,by lia⟩
  case post=>
   rintro c st' ⟨rfl,last,ofs,rfl,a,b,c,d⟩;dsimp only;have l1:hint+1-min ofs (hint+1)<=hint-last:=by lia
   have l2:hint-last<=n:=by lia
   have hl:∀i,i<hint+1-min ofs (hint+1)->rkA r xs (base+i)<r key:=λi hi=>by
    rcases d with d|⟨d1,d2⟩
    ·lia
    ·exact dD (asc.le (by lia)<|by lia) d2
   have hg:∀i,hint-last<=i->i<n->r key<rkA r xs (base+i):=λi h1 h2=>aZ c<|asc.le (by omega) h2
   refine AF (Ac (AW (I:=fun x c st''=>st''=st'∧∃lo hi,c=(none,lo,hi)∧lo≤hi∧hi≤n∧hi - lo≤n - x∧(∀i,i<lo→rkA r xs (base+i)<r key)∧(∀i,hi≤i→i<n→r key<rkA r xs (base+i)))
    (Q:=λc st''=>st''=st'/\∃k,c=(none,k,k)/\k<=n/\(∀i,i<k->rkA r xs (base+i)<r key)/\(∀i,k<=i->i<n->r key<rkA r xs (base+i))) ?step ?fin ⟨rfl,_,_,rfl,l1,l2,by lia,hl,hg⟩) ?post)
   case post=>rintro c st'' ⟨rfl,k,rfl,a,b,c⟩;exact AI<|h k a b c
   case fin=>
    rintro c st'' ⟨rfl,lo,hi,rfl,a,b,c,d,e⟩;have:lo=hi:=by lia
    subst this;exact⟨rfl,lo,rfl,b,d,e⟩
   case step=>
    rintro x c st'' _ hxn ⟨rfl,lo,hi,rfl,a,b,c,d,e⟩;dsimp only
    by_cases q:lo>=hi
    ·rw[zt q];have:lo=hi:=by lia
     subst this;exact AI ⟨rfl,lo,rfl,b,d,e⟩
    ·rw[zr q];refine AF (tU K hk mx mk (by lia) (ne _<|by lia) ?_)
     by_cases z:rkA r xs (base+(lo+(hi-lo) / 2))<r key
     ·simp only[z,decide_true,if_true];refine AI ⟨rfl,lo+(hi-lo) / 2+1,hi,rfl,by lia,b,by lia,λi hi'=>?_,e⟩;exact dD (asc.le (by lia)<|by lia) z
     ·simp only[z,decide_false,cV,if_false];have z':=ne (lo+(hi-lo) / 2) (by lia);refine AI ⟨rfl,lo,lo+(hi-lo) / 2,rfl,by lia,by lia,by lia,d,λi h1 h2=>?_⟩;exact aZ (by lia)<|asc.le h1 h2
structure MS(r:AH->Nat)(a b:Array AH)(out:List AH)(ia ib:Nat):Prop where
 ha:ia<=a.size
 hb:ib<=b.size
 perm:out.Perm (a.toList.take ia++b.toList.take ib)
 asc:(out.map r).Pairwise (·<·)
 la:∀x∈out,∀i,ia<=i->i<a.size->r x<rkA r a i
 lb:∀x∈out,∀i,ib<=i->i<b.size->r x<rkA r b i
def MD(r:AH->Nat)(a b:Array AH)(out:List AH):Prop:=out.Perm (a.toList++b.toList)/\(out.map r).Pairwise (·<·)
variable {a b:Array AH}{out:List AH}{ia ib:Nat}
def MS.swap(m:MS r a b out ia ib):MS r b a out ib ia:=⟨m.hb,m.ha,m.perm.trans iT,m.asc,m.lb,m.la⟩
theorem MS.pushA(m:MS r a b out ia ib)(h:ia<a.size)(asa:AscR r a 0 a.size)(hb:∀j,ib<=j->j<b.size->rkA r a ia<rkA r b j):MS r a b (out++[a[ia]]) (ia+1) ib:=by
 refine⟨h,m.hb,?_,?_,λx hx i h1 h2=>?_,λx hx i h1 h2=>?_⟩
 ·have e:a.toList.take (ia+1)=a.toList.take ia++[a[ia]]:=by rw[gW];simp[h]
  rw[e,dP];refine(m.perm.append_right _).trans ?_;rw[dP];exact List.Perm.append_left _ iT
 ·rw[aX,rL];refine⟨m.asc,kG _ _,λx hx y hy=>?_⟩;obtain⟨z,hz,rfl⟩:=aS.mp hx;have:=by simpa using hy
  rw[this,<-dX (r:=r) h];exact m.la z hz ia (aQ _) h
 ·rcases aV.mp hx with hx|hx
  ·exact m.la x hx i (by lia) h2
  ·rw[aK.mp hx,<-dX (r:=r) h];exact asa ia i (bQ _) (by omega) h2
 ·rcases aV.mp hx with hx|hx
  ·exact m.lb x hx i h1 h2
  ·rw[aK.mp hx,<-dX (r:=r) h];exact hb i h1 h2
def MS.pushB(m:MS r a b out ia ib)(h:ib<b.size)(asb:AscR r b 0 b.size)(hb:∀j,ia<=j->j<a.size->rkA r b ib<rkA r a j):MS r a b (out++[b[ib]]) ia (ib+1):=(m.swap.pushA h asb hb).swap
theorem aIt(h:ia+k<a.size):(a.extract ia<|ia+(k+1)).toList=(a.extract ia<|ia+k).toList++[a[ia+k]]:=by simp only[eK,dH];rw[show ia+(k+1)-ia=k+1 by lia,gW];simp[h]
def aIQ(i:Nat):(a.extract i<|i+0).toList=[]:=by simp[eK,dH]
theorem MS.extA(asa:AscR r a 0 a.size)(m:MS r a b out ia ib):∀k,ia+k<=a.size->(∀i,i<k->∀j,ib<=j->j<b.size->rkA r a (ia+i)<rkA r b j)->MS r a b (out++(a.extract ia<|ia+k).toList) (ia+k) ib
 |0,_,_=>by rw[aIQ,bG];exact m
 |k+1,h,hb=>by
  have ih:=MS.extA asa m k (by lia) λi hi=>hb i<|by lia
  rw[aIt<|by omega,<-dP];exact ih.pushA (by omega) asa (hb k<|by omega)
def MS.extB(asb:AscR r b 0 b.size)(m:MS r a b out ia ib)(k:Nat)(h:ib+k<=b.size)(hb:∀i,i<k->∀j,ia<=j->j<a.size->rkA r b (ib+i)<rkA r a j):MS r a b (out++(b.extract ib<|ib+k).toList) ia (ib+k):=(m.swap.extA asb k h hb).swap
def MS.done(m:MS r a b out a.size b.size):MD r a b out:=by refine⟨?_,m.asc⟩;have:=m.perm;rw[eX<|by simp,eX<|by simp] at this;exact this
theorem MS.finA(m:MS r a b out ia b.size)(asa:AscR r a 0 a.size):MD r a b (out++(a.extract ia a.size).toList):=by
 have h:=m.ha;have:=m.extA asa (a.size-ia) (by lia) λi hi j h1 h2=>by lia
 rw[show ia+(a.size-ia)=a.size by lia] at this;exact this.done
theorem MS.finL(m:MS r a b out ia ib)(asa:AscR r a 0 a.size)(asb:AscR r b 0 b.size)(h1:ia+1=a.size)(hab:∀j,j<b.size->rkA r b j<rkA r a (a.size-1)):MD r a b (out++(b.extract ib b.size).toList++(a.extract ia a.size).toList):=by
 have h:=m.hb
 have:=m.extB asb (b.size-ib) (by lia) λi hi j h1 h2=>by
  have e:j=a.size-1:=by lia
  rw[e];exact hab _<|by lia
 rw[show ib+(b.size-ib)=b.size by lia] at this;exact this.finA asa
theorem aMl(i:Nat)(h:a.size<=i):(a.extract i a.size).toList=[]:=by
 rw[eK,dH];have:a.size-i=0:=by lia
 rw[this];rfl
noncomputable def setG(st:BK)(g:Nat):BK:=SortSt.mk' (kindOf st) (AM st) (AE st) g<|failedOf st
noncomputable def kR:Nat->StateT BK Sem Unit:=sortPriv%PySem.Builtin.setMinGallop
noncomputable def xH:Array AH->Array AH->StateT BK Sem (Array AH):=sortPriv%PySem.Builtin.mergeLo
structure SameG(st st':BK):Prop where
 kind:kindOf st'=kindOf st
 arr:AM st'=AM st
 pend:AE st'=AE st
 failed:failedOf st'=failedOf st
def SameG.refl(st:BK):SameG st st:=⟨rfl,rfl,rfl,rfl⟩
def SameG.set(h:SameG st st')(g:Nat):SameG st (setG st' g):=⟨h.kind,h.arr,h.pend,h.failed⟩
structure MPre(r:AH->Nat)(a₀ a b:Array AH):Prop where
 a1:1<=a.size
 b1:1<=b.size
 asa:AscR r a 0 a.size
 asb:AscR r b 0 b.size
 ma:∀x∈a.toList,x∈a₀.toList
 mb:∀x∈b.toList,x∈a₀.toList
 ne:∀i j,i<a.size->j<b.size->rkA r a i≠rkA r b j
 first:rkA r b 0<rkA r a 0
 last:rkA r b (b.size-1)<rkA r a (a.size-1)
theorem AscR.le0(a:AscR r xs 0 n)(hij:i<=j)(hj:j<n):rkA r xs i<=rkA r xs j:=by
 by_cases e:i=j
 ·rw[e];exact aQ _
 ·exact cZ (a _ _ (by lia) (by lia)<|by omega)
abbrev SM:=StateT BK Sem
abbrev ML1:=Option (Array AH)×Array AH×Nat×Nat×Nat×Nat
abbrev ML2:=Option (Array AH)×Array AH×Nat×Nat×Nat×Nat×Nat
abbrev ML0:=Option (Array AH)×Array AH×Nat×Nat×Nat
noncomputable def dnA(a b out:Array AH)(ia ib:Nat):Array AH:=out++a.extract ia a.size++b.extract ib b.size
noncomputable def lsA(a b out:Array AH)(ia ib:Nat):Array AH:=out++b.extract ib b.size++a.extract ia a.size
def lo1(a b:Array AH)(mg:Nat)(c:ML1):SM (ForInStep ML1):=do
 let y <-elem' b c.2.2.2.1
 let x <-elem' a c.2.2.1
 let q <-lt' y x
 match q with
 |some bw=>
  if bw=true then do
   let y <-elem' b c.2.2.2.1
   if(c.2.2.2.1+1==b.size)=true then pure (.done (some (dnA a b (c.2.1.push y) c.2.2.1<|c.2.2.2.1+1),c.2.1.push y,c.2.2.1,c.2.2.2.1+1,0,c.2.2.2.2.2+1))
   else if c.2.2.2.2.2+1>=mg then pure (.done (none,c.2.1.push y,c.2.2.1,c.2.2.2.1+1,0,c.2.2.2.2.2+1))
   else pure (.yield (none,c.2.1.push y,c.2.2.1,c.2.2.2.1+1,0,c.2.2.2.2.2+1))
  else do
   let x <-elem' a c.2.2.1
   if(c.2.2.1+1+1==a.size)=true then pure (.done (some<|lsA a b (c.2.1.push x) (c.2.2.1+1) c.2.2.2.1,c.2.1.push x,c.2.2.1+1,c.2.2.2.1,c.2.2.2.2.1+1,0))
   else if c.2.2.2.2.1+1>=mg then pure (.done (none,c.2.1.push x,c.2.2.1+1,c.2.2.2.1,c.2.2.2.2.1+1,0))
   else pure (.yield (none,c.2.1.push x,c.2.2.1+1,c.2.2.2.1,c.2.2.2.2.1+1,0))
 |_=>pure<|.done (some<|dnA a b c.2.1 c.2.2.1 c.2.2.2.1,c.2.1,c.2.2.1,c.2.2.2.1,c.2.2.2.2.1,c.2.2.2.2.2)
def aQO(a b out:Array AH)(ia ib mg k k1:Nat):SM (ForInStep ML2):=do
 let x <-elem' a ia
 if(ia+1+1==a.size)=true then pure (.done (some<|lsA a b (out.push x) (ia+1) ib,out.push x,ia+1,ib,mg,k,k1))
 else if(decide (k<7)&&decide (k1<7))=true then pure (.done (none,out.push x,ia+1,ib,mg,k,k1))
 else pure (.yield (none,out.push x,ia+1,ib,mg,k,k1))
def aQD(a b out:Array AH)(ia ib mg k bc:Nat):SM (ForInStep ML2):=do
 let y <-elem' b ib
 if(ib+1==b.size)=true then pure (.done (some (dnA a b (out.push y) ia<|ib+1),out.push y,ia,ib+1,mg,k,bc))
 else do
  let x <-elem' a ia
  let q <-nA true x b (ib+1) (b.size-(ib+1)) 0
  match q with
  |some k1=>
   if k1>0 then
    if(ib+1+k1==b.size)=true then pure (.done (some (dnA a b (out.push y++b.extract (ib+1) (ib+1+k1)) ia<|ib+1+k1),out.push y++b.extract (ib+1) (ib+1+k1),ia,ib+1+k1,mg,k,k1))
    else aQO a b (out.push y++b.extract (ib+1) (ib+1+k1)) ia (ib+1+k1) mg k k1
   else aQO a b (out.push y) ia (ib+1) mg k k1
  |_=>pure<|.done (some (dnA a b (out.push y) ia<|ib+1),out.push y,ia,ib+1,mg,k,bc)
def aNW(a b out:Array AH)(ia ib mg ac bc:Nat):SM (ForInStep ML2):=do
 kR mg
 let y <-elem' b ib
 let q <-nA false y a ia (a.size-ia) 0
 match q with
 |some k=>
  if k>0 then
   if(ia+k+1==a.size)=true then pure (.done (some<|lsA a b (out++a.extract ia (ia+k)) (ia+k) ib,out++a.extract ia (ia+k),ia+k,ib,mg,k,bc))
   else if(ia+k==a.size)=true then pure (.done (some<|dnA a b (out++a.extract ia (ia+k)) (ia+k) ib,out++a.extract ia (ia+k),ia+k,ib,mg,k,bc))
   else aQD a b (out++a.extract ia (ia+k)) (ia+k) ib mg k bc
  else aQD a b out ia ib mg k bc
 |_=>pure<|.done (some<|dnA a b out ia ib,out,ia,ib,mg,ac,bc)
def lo2(a b:Array AH)(c:ML2):SM (ForInStep ML2):=
 if c.2.2.2.2.1>1 then aNW a b c.2.1 c.2.2.1 c.2.2.2.1 (c.2.2.2.2.1-1) c.2.2.2.2.2.1 c.2.2.2.2.2.2
 else aNW a b c.2.1 c.2.2.1 c.2.2.2.1 c.2.2.2.2.1 c.2.2.2.2.2.1 c.2.2.2.2.2.2
def lo0(a b:Array AH)(c:ML0):SM (ForInStep ML0):=do
 let d <-forIn [:a.size+b.size] ((none,c.2.1,c.2.2.1,c.2.2.2.1,0,0):ML1) λ_ d=>lo1 a b c.2.2.2.2 d
 match d.1 with
 |some r=>pure<|.done (some r,d.2.1,d.2.2.1,d.2.2.2.1,c.2.2.2.2)
 |none=>do
  liftM (rule "list.sort.gallop")
  let e <-forIn [:a.size+b.size] ((none,d.2.1,d.2.2.1,d.2.2.2.1,c.2.2.2.2+1,d.2.2.2.2.1,d.2.2.2.2.2):ML2) λ_ e=>lo2 a b e
  match e.1 with
  |some r=>pure<|.done (some r,e.2.1,e.2.2.1,e.2.2.2.1,e.2.2.2.2.1)
  |none=>do
   kR (e.2.2.2.2.1+1)
   pure (.yield (none,e.2.1,e.2.2.1,e.2.2.2.1,e.2.2.2.2.1+1))
def loM(a b:Array AH):SM (Array AH):=do
 liftM (rule "list.sort.merge-lo")
 let y <-elem' b 0
 if(1==b.size)=true then pure (dnA a b #[y] 0 1)
 else if(0+1==a.size)=true then pure (lsA a b #[y] 0 1)
 else do
  let g <-get
  let c <-forIn [:a.size+b.size] ((none, #[y],0,1,gallopOf g):ML0) λ_ c=>lo0 a b c
  match c.1 with
  |some r=>pure r
  |none=>liftM (unsupported "internal:list.sort.merge-bound":Sem (Array AH))
def aPZ(a b:Array AH):xH a b=loM a b:=by kernel_rfl
def FIN(r:AH->Nat)(a b:Array AH)(o:Option (Array AH)):Prop:=∃res,o=some res/\MD r a b res.toList
def OKm(r:AH->Nat)(a b:Array AH)(N:Nat)(o:Option (Array AH))(out:Array AH)(ia ib:Nat):Prop:=o=none/\MS r a b out.toList ia ib/\ia+1<a.size/\ib<b.size/\N<=ia+ib
def OKm.mono{out:Array AH}(h:OKm r a b N o out ia ib)(le:N'<=N):OKm r a b N' o out ia ib:=⟨h.1,h.2.1,h.2.2.1,h.2.2.2.1,cJ le h.2.2.2.2⟩
section
variable {prog:AD}{w:AL}{A:BG}{E:BD->BE->Prop}{s:BE}{κ:Au}{r:AH->Nat}{a₀ a b out:Array AH}{st st0:BK}{ia ib:Nat}
theorem MPre.last'(M:MPre r a₀ a b):∀j,j<b.size->rkA r b j<rkA r a (a.size-1):=λj hj=>dD (M.asb.le0 (by lia)<|by lia) M.last
def aBX(M:MPre r a₀ a b)(m:MS r a b out.toList ia ib)(h:ib=b.size):FIN r a b (some<|dnA a b out ia ib):=by subst h;refine⟨_,rfl,?_⟩;have:=m.finA M.asa;unfold dnA;rw[dF,dF,aMl _<|aQ _,bG];exact this
def aCg(M:MPre r a₀ a b)(m:MS r a b out.toList ia ib)(h:ia+1=a.size):FIN r a b (some<|lsA a b out ia ib):=by refine⟨_,rfl,?_⟩;have:=m.finL M.asa M.asb h M.last';unfold lsA;rw[dF,dF];exact this
def MS.pushA'(M:MPre r a₀ a b)(m:MS r a b out.toList ia ib)(h:ia<a.size)(hb:∀j,ib<=j->j<b.size->rkA r a ia<rkA r b j):MS r a b (out.push a[ia]).toList (ia+1) ib:=by rw[kI];exact m.pushA h M.asa hb
def MS.pushB'(M:MPre r a₀ a b)(m:MS r a b out.toList ia ib)(h:ib<b.size)(hb:∀j,ia<=j->j<a.size->rkA r b ib<rkA r a j):MS r a b (out.push b[ib]).toList ia (ib+1):=by rw[kI];exact m.pushB h M.asb hb
def MS.extA'(M:MPre r a₀ a b)(m:MS r a b out.toList ia ib)(h:ia+k<=a.size)(hb:∀i,i<k->∀j,ib<=j->j<b.size->rkA r a (ia+i)<rkA r b j):MS r a b (out++a.extract ia (ia+k)).toList (ia+k) ib:=by rw[dF];exact m.extA M.asa k h hb
def MS.extB'(M:MPre r a₀ a b)(m:MS r a b out.toList ia ib)(h:ib+k<=b.size)(hb:∀i,i<k->∀j,ia<=j->j<a.size->rkA r b (ib+i)<rkA r a j):MS r a b (out++b.extract ib (ib+k)).toList ia (ib+k):=by rw[dF];exact m.extB M.asb k h hb
def P2(r:AH->Nat)(a b:Array AH)(st0:BK)(N:Nat):ForInStep ML2->BK->Prop:=λq st'=>SameG st0 st'/\match q with
 |.done c=>FIN r a b c.1\/OKm r a b N c.1 c.2.1 c.2.2.1 c.2.2.2.1
 |.yield c=>OKm r a b N c.1 c.2.1 c.2.2.1 c.2.2.2.1
theorem aFj(M:MPre r a₀ a b)(S:SameG st0 st)(m:MS r a b out.toList ia ib)(h1:ia+1<a.size)(h2:ib<b.size)(hN:N<=ia+1+ib)(hb:∀j,ib<=j->j<b.size->rkA r a ia<rkA r b j):wpS (AG prog w) A E s (aQO a b out ia ib mg k k1) (P2 r a b st0 N) st:=by
 refine AF<|eG (by lia) ?_;have m2:=m.pushA' M (by lia) hb
 by_cases e:ia+1+1=a.size
 ·rw[zt<|by simpa using e];exact AI ⟨S,.inl<|aCg M m2 e⟩
 ·rw[zr<|by simpa using e]
  split
  ·exact AI ⟨S,.inr ⟨rfl,m2,by show ia+1+1<_;lia,h2,hN⟩⟩
  ·exact AI ⟨S,rfl,m2,by show ia+1+1<_;lia,h2,hN⟩
theorem aFF(K:lV prog w A E s κ r a₀)(hk:kindOf st0=κ)(M:MPre r a₀ a b)(S:SameG st0 st)(m:MS r a b out.toList ia ib)(h1:ia+1<a.size)(h2:ib<b.size)(hN:N<=ia+1+ib)(hb:∀j,ia<=j->j<a.size->rkA r b ib<rkA r a j):wpS (AG prog w) A E s (aQD a b out ia ib mg k bc) (P2 r a b st0 N) st:=by
 refine AF<|eG (by omega) ?_;have m2:=m.pushB' M h2 hb
 by_cases e:ib+1=b.size
 ·rw[zt<|by simpa using e];exact AI ⟨S,.inl<|aBX M m2 e⟩
 ·rw[zr<|by simpa using e];have h1':ia<a.size:=by lia
  refine AF<|eG h1' (AF<|qX K (S.kind.trans hk) M.mb (M.ma _<|by simp) (by lia) (by lia) (λi j h1 h2 h3=>M.asb i j (by lia) h2<|by lia) (λi hi e=>M.ne ia (ib+1+i) h1' (by lia)<|by rw[e,dX h1']) λk1 c1 c2 c3=>?_);dsimp only;rw[<-dX (r:=r) h1'] at c2 c3;have m3:=m2.extB' M (by lia) λi hi j j1 j2=>aZ (c2 i hi)<|M.asa.le0 j1 j2
  have c3':∀j,ib+1+k1<=j->j<b.size->rkA r a ia<rkA r b j:=λj j1 j2=>by
   have:=c3 (j-(ib+1)) (by lia)<|by lia
   rwa[show ib+1+(j-(ib+1))=j by lia] at this
  by_cases z:k1>0
  ·rw[zt z]
   by_cases y:ib+1+k1=b.size
   ·rw[zt<|by simpa using y];exact AI ⟨S,.inl<|aBX M m3 y⟩
   ·rw[zr<|by simpa using y];exact aFj M S m3 h1 (by lia) (by lia) c3'
  ·have z0:k1=0:=by lia
   subst z0;exact aFj M S m2 h1 (by lia) (by lia) c3'
theorem aNs(K:lV prog w A E s κ r a₀)(hk:kindOf st0=κ)(M:MPre r a₀ a b)(S:SameG st0 st)(m:MS r a b out.toList ia ib)(h1:ia+1<a.size)(h2:ib<b.size)(hN:N<=ia+1+ib):wpS (AG prog w) A E s (aNW a b out ia ib mg ac bc) (P2 r a b st0 N) st:=by
 refine AF<|Aw ?_;have S:=S.set mg;refine AF<|eG h2 (AF<|qX K (S.kind.trans hk) M.ma (M.mb _<|by simp) (by lia) (by lia) (λi j h1 h2 h3=>M.asa i j (by lia) h2<|by lia) (λi hi e=>M.ne (ia+i) ib (by lia) h2<|by rw[e,dX h2]) λk c1 c2 c3=>?_);dsimp only;rw[<-dX (r:=r) h2] at c2 c3;have m3:=m.extA' M (by lia) λi hi j j1 j2=>aZ (c2 i hi)<|M.asb.le0 j1 j2
 have c3':∀j,ia+k<=j->j<a.size->rkA r b ib<rkA r a j:=λj j1 j2=>by
  have:=c3 (j-ia) (by lia)<|by lia
  rwa[show ia+(j-ia)=j by lia] at this
 have kl:ia+k<a.size:=by
  by_cases q:ia+k<a.size
  ·exact q
  ·have:=c2 (a.size-1-ia) (by lia);rw[show ia+(a.size-1-ia)=a.size-1 by lia] at this;have:=M.last' ib h2;lia
 by_cases z:k>0
 ·rw[zt z]
  by_cases y:ia+k+1=a.size
  ·rw[zt<|by simpa using y];exact AI ⟨S,.inl<|aCg M m3 y⟩
  ·rw[zr (by simpa using y),zr<|by simp;lia];exact aFF K hk M S m3 (by lia) h2 (by lia) c3'
 ·have z0:k=0:=by lia
  subst z0;exact aFF K hk M S m (by omega) h2 (by omega) c3'
def P1(r:AH->Nat)(a b:Array AH)(st:BK)(N:Nat):ForInStep ML1->BK->Prop:=λq st'=>st'=st/\match q with
 |.done c=>FIN r a b c.1\/OKm r a b N c.1 c.2.1 c.2.2.1 c.2.2.2.1
 |.yield c=>OKm r a b N c.1 c.2.1 c.2.2.1 c.2.2.2.1
theorem aQa{c:ML1}(K:lV prog w A E s κ r a₀)(hk:kindOf st=κ)(M:MPre r a₀ a b)(h:OKm r a b N c.1 c.2.1 c.2.2.1 c.2.2.2.1):wpS (AG prog w) A E s (lo1 a b mg c) (P1 r a b st<|N+1) st:=by
 obtain⟨o,out,ia,ib,ac,bc⟩:=c;obtain⟨h0,m,h1,h2,hN⟩:=h;dsimp only at h0 m h1 h2 hN;have h1':ia<a.size:=by lia
 refine AF<|eG h2 (AF<|eG h1' (AF<|K.ask (M.mb _<|by simp) (M.ma _<|by simp) hk ?_));dsimp only
 by_cases q:r b[ib]<r a[ia]
 ·rw[zt<|by simpa using q];refine AF<|eG h2 ?_;have q':rkA r b ib<rkA r a ia:=by rw[dX h2,dX h1'];exact q
  have m2:=m.pushB' M h2 λj j1 j2=>aZ q'<|M.asa.le0 j1 j2
  by_cases e:ib+1=b.size
  ·rw[zt<|by simpa using e];exact AI ⟨rfl,.inl<|aBX M m2 e⟩
  ·rw[zr<|by simpa using e]
   split
   ·exact AI ⟨rfl,.inr ⟨rfl,m2,h1,by show ib+1<_;lia,by show _<=ia+(ib+1);lia⟩⟩
   ·exact AI ⟨rfl,rfl,m2,h1,by show ib+1<_;lia,by show _<=ia+(ib+1);lia⟩
 ·rw[zr<|by simpa using q];refine AF (eG h1' ?_)
  have q':rkA r a ia<rkA r b ib:=by have:=M.ne ia ib h1' h2;rw[dX h1',dX h2] at this ⊢;lia
  have m2:=m.pushA' M h1' λj j1 j2=>aZ q'<|M.asb.le0 j1 j2
  by_cases e:ia+1+1=a.size
  ·rw[zt<|by simpa using e];exact AI ⟨rfl,.inl<|aCg M m2 e⟩
  ·rw[zr<|by simpa using e]
   split
   ·exact AI ⟨rfl,.inr ⟨rfl,m2,by show ia+1+1<_;lia,h2,by show _<=ia+1+ib;lia⟩⟩
   ·exact AI ⟨rfl,rfl,m2,by show ia+1+1<_;lia,h2,by show _<=ia+1+ib;lia⟩
def P0(r:AH->Nat)(a b:Array AH)(st0:BK)(N:Nat):ForInStep ML0->BK->Prop:=λq st'=>SameG st0 st'/\match q with
 |.done c=>FIN r a b c.1
 |.yield c=>OKm r a b N c.1 c.2.1 c.2.2.1 c.2.2.2.1
theorem aPr{c:ML0}(K:lV prog w A E s κ r a₀)(hk:kindOf st0=κ)(M:MPre r a₀ a b)(S:SameG st0 st)(h:OKm r a b N c.1 c.2.1 c.2.2.1 c.2.2.2.1):wpS (AG prog w) A E s (lo0 a b c) (P0 r a b st0<|N+1) st:=by
 obtain⟨o,out,ia,ib,mg⟩:=c;obtain⟨h0,m,h1,h2,hN⟩:=h;refine AF<|Ac (AW (I:=λx d st'=>st'=st/\OKm r a b (N+x) d.1 d.2.1 d.2.2.1 d.2.2.2.1) (Q:=λd st'=>st'=st/\(FIN r a b d.1\/OKm r a b (N+1) d.1 d.2.1 d.2.2.1 d.2.2.2.1)) ?step ?fin ⟨rfl,rfl,m,h1,h2,hN⟩) ?post
 case step=>
  rintro x d st' _ hx ⟨rfl,hd⟩;refine Ac (aQa K (S.kind.trans hk) M hd) λq st'' hq=>?_
  obtain⟨rfl,hq⟩:=hq;cases q with
  |done d=>exact⟨rfl,hq.imp id λz=>z.mono<|by lia⟩
  |yield d=>exact⟨rfl,hq⟩
 case fin=>rintro d st' ⟨rfl,_,_,h3,h4,h5⟩;lia
 case post=>
  rintro d st' ⟨rfl,hd⟩;obtain⟨o1,out,ia,ib,ac,bc⟩:=d
  rcases hd with⟨res,e,hres⟩|⟨e,m,h1,h2,hN⟩
  ·subst e;exact AI ⟨S,res,rfl,hres⟩
  ·subst e;refine AF (wpS_lift<|BB ⟨rfl,?_⟩);refine AF (Ac (AW (I:=λx d st'=>SameG st0 st'/\OKm r a b (N+1+x) d.1 d.2.1 d.2.2.1 d.2.2.2.1) (Q:=λd st'=>SameG st0 st'/\(FIN r a b d.1\/OKm r a b (N+1) d.1 d.2.1 d.2.2.1 d.2.2.2.1)) ?step2 ?fin2 ⟨S,rfl,m,h1,h2,hN⟩) ?post2)
   case step2=>
    rintro x ⟨o2,out,ia,ib,mg,ac,bc⟩ st' _ hx ⟨S,_,m,h1,h2,hN⟩;dsimp only at m h1 h2 hN;have key:∀mg,wpS (AG prog w) A E s (aNW a b out ia ib mg ac bc) (P2 r a b st0<|N+1+(x+1)) st':=λmg=>aNs K hk M S m h1 h2<|by lia
    unfold lo2
    split<;>
    ·refine Ac (key _) λq st'' hq=>?_
     obtain⟨S',hq⟩:=hq;cases q with
     |done d=>exact⟨S',hq.imp id λz=>z.mono<|by lia⟩
     |yield d=>exact⟨S',hq⟩
   case fin2=>rintro d st' ⟨_,_,_,h3,h4,h5⟩;lia
   case post2=>
    rintro⟨o2,out,ia,ib,mg,ac,bc⟩ st' ⟨S,hd⟩
    rcases hd with⟨res,e,hres⟩|⟨e,m,h1,h2,hN⟩
    ·subst e;exact AI ⟨S,res,rfl,hres⟩
    ·subst e;exact AF (Aw<|AI ⟨S.set _,rfl,m,h1,h2,hN⟩)
theorem aBJ(K:lV prog w A E s κ r a₀)(hk:kindOf st=κ)(M:MPre r a₀ a b)(h:∀out st',MD r a b out.toList->SameG st st'->Q out st'):wpS (AG prog w) A E s (xH a b) Q st:=by
 rw[aPZ];refine AF (wpS_lift<|BB ⟨rfl,?_⟩);have b1:=M.b1;have a1:=M.a1;refine AF<|eG (by omega) ?_;have m0:MS r a b (#[]).toList 0 0:=⟨by lia,by lia,by simp,by simp,λx hx=>by simp at hx,λx hx=>by simp at hx⟩;have m:=m0.pushB' M (by omega) λj j1 j2=>aZ M.first<|M.asa.le0 j1 j2
 by_cases e:1=b.size
 ·rw[zt<|by simpa using e];obtain⟨res,e2,hr⟩:=aBX M m e;cases e2;exact AI (h _ _ hr<|.refl _)
 ·rw[zr<|by simpa using e]
  by_cases e1:0+1=a.size
  ·rw[zt<|by simpa using e1];obtain⟨res,e2,hr⟩:=aCg M m e1;cases e2;exact AI (h _ _ hr<|.refl _)
  ·rw[zr<|by simpa using e1];refine AF (wpS_get (AF<|Ac (AW (I:=λx d st'=>SameG st st'/\OKm r a b (x+1) d.1 d.2.1 d.2.2.1 d.2.2.2.1) (Q:=λd st'=>SameG st st'/\FIN r a b d.1) ?step ?fin ⟨.refl _,rfl,m,by show 0+1<_;lia,by show 1<_;lia,aQ _⟩) ?post))
   case step=>
    rintro x d st' _ hx ⟨S,hd⟩;refine Ac (aPr K hk M S hd) λq st'' hq=>?_
    obtain⟨S',hq⟩:=hq;cases q with
    |done d=>exact⟨S',hq⟩
    |yield d=>exact⟨S',hq⟩
   case fin=>rintro d st' ⟨_,_,_,h3,h4,h5⟩;lia
   case post=>rintro d st' ⟨S,res,e,hr⟩;rw[e];exact AI<|h _ _ hr S
end
structure HS(r:AH->Nat)(a b:Array AH)(out:List AH)(na nb:Nat):Prop where
 ha:na<=a.size
 hb:nb<=b.size
 perm:out.Perm (a.toList.drop na++b.toList.drop nb)
 dsc:(out.map r).Pairwise (λx y=>y<x)
 la:∀x∈out,∀i,i<na->rkA r a i<r x
 lb:∀x∈out,∀i,i<nb->rkA r b i<r x
variable {na nb:Nat}
def HS.swap(m:HS r a b out na nb):HS r b a out nb na:=⟨m.hb,m.ha,m.perm.trans iT,m.dsc,m.lb,m.la⟩
theorem HS.pushA(m:HS r a b out (na+1) nb)(asa:AscR r a 0 a.size)(hb:∀j,j<nb->rkA r b j<rkA r a na):HS r a b (out++[a[na]'m.ha]) na nb:=by
 have h:na<a.size:=m.ha;refine⟨cZ h,m.hb,?_,?_,λx hx i h1=>?_,λx hx i h1=>?_⟩
 ·have e:a.toList.drop na=a[na]::a.toList.drop (na+1):=by rw[dG<|by simpa using h];simp
  rw[e];exact(iT).trans<|List.Perm.cons _ m.perm
 ·rw[aX,rL];refine⟨m.dsc,kG _ _,λx hx y hy=>?_⟩;obtain⟨z,hz,rfl⟩:=aS.mp hx;have:=by simpa using hy
  rw[this,<-dX (r:=r) h];exact m.la z hz na<|iE _
 ·rcases aV.mp hx with hx|hx
  ·exact m.la x hx i<|by lia
  ·rw[aK.mp hx,<-dX (r:=r) h];exact asa i na (bQ _) h1 h
 ·rcases aV.mp hx with hx|hx
  ·exact m.lb x hx i h1
  ·rw[aK.mp hx,<-dX (r:=r) h];exact hb i h1
theorem aHS(h:k+1<=na)(h2:na<=a.size):(a.extract (na-(k+1)) na).toList.reverse=(a.extract (na-k) na).toList.reverse++[a[na-(k+1)]'(by omega)]:=by
 simp only[eK,dH]
 have e:a.toList.drop (na-(k+1))=a[na-(k+1)]'(by lia)::a.toList.drop (na-k):=by rw[dG<|by simp;lia];rw[show na-(k+1)+1=na-k by lia];simp
 rw[e,show na-(na-(k+1))=(na-(na-k))+1 by lia,List.take_succ_cons,List.reverse_cons]
theorem HS.extA(asa:AscR r a 0 a.size)(m:HS r a b out na nb):∀k,k<=na->(∀i,na-k<=i->i<na->∀j,j<nb->rkA r b j<rkA r a i)->HS r a b (out++(a.extract (na-k) na).toList.reverse) (na-k) nb
 |0,_,_=>by
  have e:(a.extract (na-0) na).toList.reverse=[]:=by simp[eK,dH]
  rw[e,bG];exact m
 |k+1,h,hb=>by
  have ih:=HS.extA asa m k (by lia) λi h1 h2=>hb i (by lia) h2
  rw[aHS h m.ha,<-dP];have e:na-k=na-(k+1)+1:=by lia
  rw[e] at ih;have:=ih.pushA asa (hb (na-(k+1)) (aQ _)<|by lia);rw[show a.extract (na-k) na=a.extract (na-(k+1)+1) na by rw[e]];exact this
def HS.extB(asb:AscR r b 0 b.size)(m:HS r a b out na nb)(k:Nat)(h:k<=nb)(hb:∀i,nb-k<=i->i<nb->∀j,j<na->rkA r a j<rkA r b i):HS r a b (out++(b.extract (nb-k) nb).toList.reverse) na (nb-k):=(m.swap.extA asb k h hb).swap
def HS.done(m:HS r a b out 0 0):MD r a b out.reverse:=by
 refine⟨(List.reverse_perm _).trans ?_,?_⟩
 ·have:=m.perm;simpa using this
 ·rw[List.map_reverse,List.pairwise_reverse];exact m.dsc
theorem HS.finB(m:HS r a b out 0 nb)(asb:AscR r b 0 b.size):MD r a b ((b.extract 0 nb).toList++out.reverse):=by
 have:=m.extB asb nb (aQ _) λi h1 h2 j hj=>by lia
 rw[aHm] at this;have:=this.done
 rwa[aHs,aHj] at this
theorem HS.finL(m:HS r a b out na 1)(asa:AscR r a 0 a.size)(asb:AscR r b 0 b.size)(first:∀i,i<a.size->rkA r b 0<rkA r a i):MD r a b ((b.extract 0 1).toList++(a.extract 0 na).toList++out.reverse):=by
 have ha:=m.ha
 have:=m.extA asa na (aQ _) λi h1 h2 j hj=>by
  have:j=0:=by lia
  subst this;exact first i<|by lia
 rw[aHm] at this;have:=this.finB asb
 rwa[aHs,aHj,<-dP] at this
noncomputable def xK:Array AH->Array AH->StateT BK Sem (Array AH):=sortPriv%PySem.Builtin.mergeHi
abbrev MH1:=Option (Array AH)×Nat×Nat×Array AH×Nat×Nat
abbrev MH2:=Option (Array AH)×Nat×Nat×Array AH×Nat×Nat×Nat
abbrev MH0:=Option (Array AH)×Nat×Nat×Array AH×Nat
noncomputable def dnH(a b out:Array AH)(na nb:Nat):Array AH:=a.extract 0 na++b.extract 0 nb++out.reverse
noncomputable def fsB(a b out:Array AH)(na nb:Nat):Array AH:=b.extract 0 nb++a.extract 0 na++out.reverse
def hi1(a b:Array AH)(mg:Nat)(c:MH1):SM (ForInStep MH1):=do
 let y <-elem' b (c.2.2.1-1)
 let x <-elem' a (c.2.1-1)
 let q <-lt' y x
 match q with
 |some aw=>
  if aw=true then do
   let x <-elem' a (c.2.1-1)
   if(c.2.1-1==0)=true then pure (.done (some<|dnH a b (c.2.2.2.1.push x) (c.2.1-1) c.2.2.1,c.2.1-1,c.2.2.1,c.2.2.2.1.push x,c.2.2.2.2.1+1,0))
   else if c.2.2.2.2.1+1>=mg then pure (.done (none,c.2.1-1,c.2.2.1,c.2.2.2.1.push x,c.2.2.2.2.1+1,0))
   else pure (.yield (none,c.2.1-1,c.2.2.1,c.2.2.2.1.push x,c.2.2.2.2.1+1,0))
  else do
   let y <-elem' b (c.2.2.1-1)
   if(c.2.2.1-1==1)=true then pure (.done (some (fsB a b (c.2.2.2.1.push y) c.2.1<|c.2.2.1-1),c.2.1,c.2.2.1-1,c.2.2.2.1.push y,0,c.2.2.2.2.2+1))
   else if c.2.2.2.2.2+1>=mg then pure (.done (none,c.2.1,c.2.2.1-1,c.2.2.2.1.push y,0,c.2.2.2.2.2+1))
   else pure (.yield (none,c.2.1,c.2.2.1-1,c.2.2.2.1.push y,0,c.2.2.2.2.2+1))
 |_=>pure<|.done (some<|dnH a b c.2.2.2.1 c.2.1 c.2.2.1,c.2.1,c.2.2.1,c.2.2.2.1,c.2.2.2.2.1,c.2.2.2.2.2)
def aQz(a b out:Array AH)(na nb mg k k1:Nat):SM (ForInStep MH2):=do
 let x <-elem' a (na-1)
 if(na-1==0)=true then pure (.done (some<|dnH a b (out.push x) (na-1) nb,na-1,nb,out.push x,mg,k,k1))
 else if(decide (k<7)&&decide (k1<7))=true then pure (.done (none,na-1,nb,out.push x,mg,k,k1))
 else pure (.yield (none,na-1,nb,out.push x,mg,k,k1))
def aQV(a b out:Array AH)(na nb mg k bc:Nat):SM (ForInStep MH2):=do
 let y <-elem' b (nb-1)
 if(nb-1==1)=true then pure (.done (some (fsB a b (out.push y) na<|nb-1),na,nb-1,out.push y,mg,k,bc))
 else do
  let x <-elem' a (na-1)
  let q <-nA true x b 0 (nb-1) (nb-1-1)
  match q with
  |some at_=>
   if nb-1-at_>0 then
    if(at_==1)=true then pure (.done (some<|fsB a b (out.push y++(b.extract at_<|nb-1).reverse) na at_,na,at_,out.push y++(b.extract at_<|nb-1).reverse,mg,k,nb-1-at_))
    else if(at_==0)=true then pure (.done (some<|dnH a b (out.push y++(b.extract at_<|nb-1).reverse) na at_,na,at_,out.push y++(b.extract at_<|nb-1).reverse,mg,k,nb-1-at_))
    else aQz a b (out.push y++(b.extract at_<|nb-1).reverse) na at_ mg k (nb-1-at_)
   else aQz a b (out.push y) na (nb-1) mg k (nb-1-at_)
  |_=>pure<|.done (some (dnH a b (out.push y) na<|nb-1),na,nb-1,out.push y,mg,k,bc)
def aNV(a b out:Array AH)(na nb mg ac bc:Nat):SM (ForInStep MH2):=do
 kR mg
 let y <-elem' b (nb-1)
 let q <-nA false y a 0 na (na-1)
 match q with
 |some at_=>
  if na-at_>0 then
   if(at_==0)=true then pure (.done (some<|dnH a b (out++(a.extract at_ na).reverse) at_ nb,at_,nb,out++(a.extract at_ na).reverse,mg,na-at_,bc))
   else aQV a b (out++(a.extract at_ na).reverse) at_ nb mg (na-at_) bc
  else aQV a b out na nb mg (na-at_) bc
 |_=>pure<|.done (some<|dnH a b out na nb,na,nb,out,mg,ac,bc)
def hi2(a b:Array AH)(c:MH2):SM (ForInStep MH2):=
 if c.2.2.2.2.1>1 then aNV a b c.2.2.2.1 c.2.1 c.2.2.1 (c.2.2.2.2.1-1) c.2.2.2.2.2.1 c.2.2.2.2.2.2
 else aNV a b c.2.2.2.1 c.2.1 c.2.2.1 c.2.2.2.2.1 c.2.2.2.2.2.1 c.2.2.2.2.2.2
def hi0(a b:Array AH)(c:MH0):SM (ForInStep MH0):=do
 let d <-forIn [:a.size+b.size] ((none,c.2.1,c.2.2.1,c.2.2.2.1,0,0):MH1) λ_ d=>hi1 a b c.2.2.2.2 d
 match d.1 with
 |some r=>pure<|.done (some r,d.2.1,d.2.2.1,d.2.2.2.1,c.2.2.2.2)
 |none=>do
  liftM (rule "list.sort.gallop")
  let e <-forIn [:a.size+b.size] ((none,d.2.1,d.2.2.1,d.2.2.2.1,c.2.2.2.2+1,d.2.2.2.2.1,d.2.2.2.2.2):MH2) λ_ e=>hi2 a b e
  match e.1 with
  |some r=>pure<|.done (some r,e.2.1,e.2.2.1,e.2.2.2.1,e.2.2.2.2.1)
  |none=>do
   kR (e.2.2.2.2.1+1)
   pure (.yield (none,e.2.1,e.2.2.1,e.2.2.2.1,e.2.2.2.2.1+1))
def hiM(a b:Array AH):SM (Array AH):=do
 liftM (rule "list.sort.merge-hi")
 let x <-elem' a (a.size-1)
 if(a.size-1==0)=true then pure (dnH a b #[x] (a.size-1) b.size)
 else if(b.size==1)=true then pure (fsB a b #[x] (a.size-1) b.size)
 else do
  let g <-get
  let c <-forIn [:a.size+b.size] ((none,a.size-1,b.size, #[x],gallopOf g):MH0) λ_ c=>hi0 a b c
  match c.1 with
  |some r=>pure r
  |none=>liftM (unsupported "internal:list.sort.merge-bound":Sem (Array AH))
def aPd(a b:Array AH):xK a b=hiM a b:=by kernel_rfl
def OKh(r:AH->Nat)(a b:Array AH)(N:Nat)(o:Option (Array AH))(out:Array AH)(na nb:Nat):Prop:=o=none/\HS r a b out.toList na nb/\1<=na/\2<=nb/\na+nb+N<=a.size+b.size
theorem OKh.mono{out:Array AH}(h:OKh r a b N o out na nb)(le:N'<=N):OKh r a b N' o out na nb:=⟨h.1,h.2.1,h.2.2.1,h.2.2.2.1,by have:=h.2.2.2.2;lia⟩
section
variable {prog:AD}{w:AL}{A:BG}{E:BD->BE->Prop}{s:BE}{κ:Au}{r:AH->Nat}{a₀ a b out:Array AH}{st st0:BK}{na nb:Nat}
def MPre.first'(M:MPre r a₀ a b):∀i,i<a.size->rkA r b 0<rkA r a i:=λi hi=>aZ M.first<|M.asa.le0 (bQ _) hi
def ex0(xs:Array AH):(xs.extract 0 0).toList=[]:=by simp[eK,dH]
def aCa(M:MPre r a₀ a b)(m:HS r a b out.toList na nb)(h:na=0):FIN r a b (some<|dnH a b out na nb):=by subst h;refine⟨_,rfl,?_⟩;have:=m.finB M.asb;unfold dnH;rw[dF,dF,ex0,lP];exact this
def aBZ(M:MPre r a₀ a b)(m:HS r a b out.toList na nb)(h:nb=1):FIN r a b (some<|fsB a b out na nb):=by subst h;refine⟨_,rfl,?_⟩;have:=m.finL M.asa M.asb M.first';unfold fsB;rw[dF,dF,lP];exact this
theorem HS.pushA'(M:MPre r a₀ a b)(m:HS r a b out.toList na nb)(h1:1<=na)(hb:∀j,j<nb->rkA r b j<rkA r a (na-1)):HS r a b (out.push<|a[na-1]'(by have:=m.ha;omega)).toList (na-1) nb:=by
 rw[kI];have e:na=na-1+1:=by lia
 have m':HS r a b out.toList (na-1+1) nb:=by rw[<-e];exact m
 exact m'.pushA M.asa hb
theorem HS.pushB'(M:MPre r a₀ a b)(m:HS r a b out.toList na nb)(h1:1<=nb)(hb:∀j,j<na->rkA r a j<rkA r b (nb-1)):HS r a b (out.push<|b[nb-1]'(by have:=m.hb;omega)).toList na (nb-1):=by
 rw[kI];have e:nb=nb-1+1:=by lia
 have m':HS r a b out.toList na (nb-1+1):=by rw[<-e];exact m
 exact(m'.swap.pushA M.asb hb).swap
theorem HS.extA'(M:MPre r a₀ a b)(m:HS r a b out.toList na nb)(h:t<=na)(hb:∀i,t<=i->i<na->∀j,j<nb->rkA r b j<rkA r a i):HS r a b (out++(a.extract t na).reverse).toList t nb:=by rw[dF,lP];have:=m.extA M.asa (na-t) (by lia) (by rw[show na-(na-t)=t by lia];exact hb);rw[show na-(na-t)=t by lia] at this;exact this
theorem HS.extB'(M:MPre r a₀ a b)(m:HS r a b out.toList na nb)(h:t<=nb)(hb:∀i,t<=i->i<nb->∀j,j<na->rkA r a j<rkA r b i):HS r a b (out++(b.extract t nb).reverse).toList na t:=by rw[dF,lP];have:=m.extB M.asb (nb-t) (by lia) (by rw[show nb-(nb-t)=t by lia];exact hb);rw[show nb-(nb-t)=t by lia] at this;exact this
def H2(r:AH->Nat)(a b:Array AH)(st0:BK)(N:Nat):ForInStep MH2->BK->Prop:=λq st'=>SameG st0 st'/\match q with
 |.done c=>FIN r a b c.1\/OKh r a b N c.1 c.2.2.2.1 c.2.1 c.2.2.1
 |.yield c=>OKh r a b N c.1 c.2.2.2.1 c.2.1 c.2.2.1
theorem aFz(M:MPre r a₀ a b)(S:SameG st0 st)(m:HS r a b out.toList na nb)(h1:1<=na)(h2:2<=nb)(hN:na-1+nb+N<=a.size+b.size)(hb:∀j,j<nb->rkA r b j<rkA r a (na-1)):wpS (AG prog w) A E s (aQz a b out na nb mg k k1) (H2 r a b st0 N) st:=by
 have ha:=m.ha;refine AF<|eG (by lia) ?_;have m2:=m.pushA' M h1 hb
 by_cases e:na-1=0
 ·rw[zt<|by simpa using e];exact AI ⟨S,.inl<|aCa M m2 e⟩
 ·rw[zr<|by simpa using e]
  split
  ·exact AI ⟨S,.inr ⟨rfl,m2,by show 1<=na-1;lia,h2,hN⟩⟩
  ·exact AI ⟨S,rfl,m2,by show 1<=na-1;lia,h2,hN⟩
theorem aFy(K:lV prog w A E s κ r a₀)(hk:kindOf st0=κ)(M:MPre r a₀ a b)(S:SameG st0 st)(m:HS r a b out.toList na nb)(h1:1<=na)(h2:2<=nb)(hN:na-1+nb+N<=a.size+b.size)(hb:∀j,j<na->rkA r a j<rkA r b (nb-1)):wpS (AG prog w) A E s (aQV a b out na nb mg k bc) (H2 r a b st0 N) st:=by
 have ha:=m.ha;have hbb:=m.hb;refine AF<|eG (by lia) ?_;have m2:=m.pushB' M (by lia) hb
 by_cases e:nb-1=1
 ·rw[zt<|by simpa using e];exact AI ⟨S,.inl<|aBZ M m2 e⟩
 ·rw[zr<|by simpa using e];have h1':na-1<a.size:=by lia
  refine AF<|eG h1' (AF<|qX K (S.kind.trans hk) M.mb (M.ma _<|by simp) (by lia) (by lia) (λi j h1 h2 h3=>M.asb i j (by omega) h2<|by lia) (λi hi e=>M.ne (na-1) i h1' (by lia)<|by rw[vY] at e;rw[e,dX h1']) λat_ c1 c2 c3=>?_);dsimp only;simp only[vY] at c2 c3;rw[<-dX (r:=r) h1'] at c2 c3;have m3:=m2.extB' M c1 λi i1 i2 j hj=>dD (M.asa.le0 (by lia) h1')<|c3 i i1 i2
  have a0:1<=at_:=by
   by_cases q:at_=0
   ·subst q;have:=c3 0 (aQ _) (by lia);have:=M.first' (na-1) h1';lia
   ·lia
  by_cases z:nb-1-at_>0
  ·rw[zt z]
   by_cases y:at_=1
   ·rw[zt<|by simpa using y];exact AI ⟨S,.inl<|aBZ M m3 y⟩
   ·rw[zr (by simpa using y),zr<|by simp;lia];exact aFz M S m3 h1 (by lia) (by lia) c2
  ·rw[zr z];have z0:at_=nb-1:=by lia
   subst z0;exact aFz M S m2 h1 (by lia) (by lia) c2
theorem aLJ(K:lV prog w A E s κ r a₀)(hk:kindOf st0=κ)(M:MPre r a₀ a b)(S:SameG st0 st)(m:HS r a b out.toList na nb)(h1:1<=na)(h2:2<=nb)(hN:na-1+nb+N<=a.size+b.size):wpS (AG prog w) A E s (aNV a b out na nb mg ac bc) (H2 r a b st0 N) st:=by
 have ha:=m.ha;have hbb:=m.hb;refine AF<|Aw ?_;have S:=S.set mg;have h2':nb-1<b.size:=by lia
 refine AF<|eG h2' (AF<|qX K (S.kind.trans hk) M.ma (M.mb _<|by simp) (by lia) (by lia) (λi j h1 h2 h3=>M.asa i j (by omega) h2<|by lia) (λi hi e=>M.ne i (nb-1) (by lia) h2'<|by rw[vY] at e;rw[e,dX h2']) λat_ c1 c2 c3=>?_);dsimp only;simp at c2 c3;rw[<-dX (r:=r) h2'] at c2 c3;have m3:=m.extA' M c1 λi i1 i2 j hj=>dD (M.asb.le0 (by lia) h2')<|c3 i i1 i2
 by_cases z:na-at_>0
 ·rw[zt z]
  by_cases y:at_=0
  ·rw[zt<|by simpa using y];exact AI ⟨S,.inl<|aCa M m3 y⟩
  ·rw[zr<|by simpa using y];exact aFy K hk M S m3 (by lia) h2 (by lia) c2
 ·rw[zr z];have z0:at_=na:=by lia
  subst z0;exact aFy K hk M S m h1 h2 hN c2
def H1(r:AH->Nat)(a b:Array AH)(st:BK)(N:Nat):ForInStep MH1->BK->Prop:=λq st'=>st'=st/\match q with
 |.done c=>FIN r a b c.1\/OKh r a b N c.1 c.2.2.2.1 c.2.1 c.2.2.1
 |.yield c=>OKh r a b N c.1 c.2.2.2.1 c.2.1 c.2.2.1
theorem aPD{c:MH1}(K:lV prog w A E s κ r a₀)(hk:kindOf st=κ)(M:MPre r a₀ a b)(h:OKh r a b N c.1 c.2.2.2.1 c.2.1 c.2.2.1):wpS (AG prog w) A E s (hi1 a b mg c) (H1 r a b st<|N+1) st:=by
 obtain⟨o,na,nb,out,ac,bc⟩:=c;obtain⟨h0,m,h1,h2,hN⟩:=h;dsimp only at h0 m h1 h2 hN;have ha:=m.ha;have hbb:=m.hb;have h1':na-1<a.size:=by lia
 have h2':nb-1<b.size:=by lia
 refine AF<|eG h2' (AF<|eG h1' (AF<|K.ask (M.mb _<|by simp) (M.ma _<|by simp) hk ?_));dsimp only
 by_cases q:r b[nb-1]<r a[na-1]
 ·rw[zt<|by simpa using q];refine AF<|eG h1' ?_;have q':rkA r b (nb-1)<rkA r a (na-1):=by rw[dX h1',dX h2'];exact q
  have m2:=m.pushA' M h1 λj hj=>dD (M.asb.le0 (by lia) h2') q'
  by_cases e:na-1=0
  ·rw[zt<|by simpa using e];exact AI ⟨rfl,.inl<|aCa M m2 e⟩
  ·rw[zr<|by simpa using e]
   split
   ·exact AI ⟨rfl,.inr ⟨rfl,m2,by show 1<=na-1;lia,h2,by show na-1+nb+_<=_;lia⟩⟩
   ·exact AI ⟨rfl,rfl,m2,by show 1<=na-1;lia,h2,by show na-1+nb+_<=_;lia⟩
 ·rw[zr<|by simpa using q];refine AF (eG h2' ?_)
  have q':rkA r a (na-1)<rkA r b (nb-1):=by have:=M.ne (na-1) (nb-1) h1' h2';rw[dX h1',dX h2'] at this ⊢;lia
  have m2:=m.pushB' M (by lia) λj hj=>dD (M.asa.le0 (by lia) h1') q'
  by_cases e:nb-1=1
  ·rw[zt<|by simpa using e];exact AI ⟨rfl,.inl<|aBZ M m2 e⟩
  ·rw[zr<|by simpa using e]
   split
   ·exact AI ⟨rfl,.inr ⟨rfl,m2,h1,by show 2<=nb-1;lia,by show na+(nb-1)+_<=_;lia⟩⟩
   ·exact AI ⟨rfl,rfl,m2,h1,by show 2<=nb-1;lia,by show na+(nb-1)+_<=_;lia⟩
def H0(r:AH->Nat)(a b:Array AH)(st0:BK)(N:Nat):ForInStep MH0->BK->Prop:=λq st'=>SameG st0 st'/\match q with
 |.done c=>FIN r a b c.1
 |.yield c=>OKh r a b N c.1 c.2.2.2.1 c.2.1 c.2.2.1
theorem aPL{c:MH0}(K:lV prog w A E s κ r a₀)(hk:kindOf st0=κ)(M:MPre r a₀ a b)(S:SameG st0 st)(h:OKh r a b N c.1 c.2.2.2.1 c.2.1 c.2.2.1):wpS (AG prog w) A E s (hi0 a b c) (H0 r a b st0<|N+1) st:=by
 obtain⟨o,na,nb,out,mg⟩:=c;obtain⟨h0,m,h1,h2,hN⟩:=h;refine AF<|Ac (AW (I:=λx d st'=>st'=st/\OKh r a b (N+x) d.1 d.2.2.2.1 d.2.1 d.2.2.1) (Q:=λd st'=>st'=st/\(FIN r a b d.1\/OKh r a b (N+1) d.1 d.2.2.2.1 d.2.1 d.2.2.1)) ?step ?fin ⟨rfl,rfl,m,h1,h2,hN⟩) ?post
 case step=>
  rintro x d st' _ hx ⟨rfl,hd⟩;refine Ac (aPD K (S.kind.trans hk) M hd) λq st'' hq=>?_
  obtain⟨rfl,hq⟩:=hq;cases q with
  |done d=>exact⟨rfl,hq.imp id λz=>z.mono<|by lia⟩
  |yield d=>exact⟨rfl,hq⟩
 case fin=>rintro d st' ⟨rfl,_,_,h3,h4,h5⟩;lia
 case post=>
  rintro d st' ⟨rfl,hd⟩;obtain⟨o1,na,nb,out,ac,bc⟩:=d
  rcases hd with⟨res,e,hres⟩|⟨e,m,h1,h2,hN⟩
  ·subst e;exact AI ⟨S,res,rfl,hres⟩
  ·subst e;refine AF (wpS_lift<|BB ⟨rfl,?_⟩);refine AF (Ac (AW (I:=λx d st'=>SameG st0 st'/\OKh r a b (N+1+x) d.1 d.2.2.2.1 d.2.1 d.2.2.1) (Q:=λd st'=>SameG st0 st'/\(FIN r a b d.1\/OKh r a b (N+1) d.1 d.2.2.2.1 d.2.1 d.2.2.1)) ?step2 ?fin2 ⟨S,rfl,m,h1,h2,hN⟩) ?post2)
   case step2=>
    rintro x ⟨o2,na,nb,out,mg,ac,bc⟩ st' _ hx ⟨S,_,m,h1,h2,hN⟩;dsimp only at m h1 h2 hN;have key:∀mg,wpS (AG prog w) A E s (aNV a b out na nb mg ac bc) (H2 r a b st0<|N+1+(x+1)) st':=λmg=>aLJ K hk M S m h1 h2<|by lia
    unfold hi2
    split<;>
    ·refine Ac (key _) λq st'' hq=>?_
     obtain⟨S',hq⟩:=hq;cases q with
     |done d=>exact⟨S',hq.imp id λz=>z.mono<|by lia⟩
     |yield d=>exact⟨S',hq⟩
   case fin2=>rintro d st' ⟨_,_,_,h3,h4,h5⟩;lia
   case post2=>
    rintro⟨o2,na,nb,out,mg,ac,bc⟩ st' ⟨S,hd⟩
    rcases hd with⟨res,e,hres⟩|⟨e,m,h1,h2,hN⟩
    ·subst e;exact AI ⟨S,res,rfl,hres⟩
    ·subst e;exact AF (Aw<|AI ⟨S.set _,rfl,m,h1,h2,hN⟩)
theorem aBE(K:lV prog w A E s κ r a₀)(hk:kindOf st=κ)(M:MPre r a₀ a b)(h:∀out st',MD r a b out.toList->SameG st st'->Q out st'):wpS (AG prog w) A E s (xK a b) Q st:=by
 rw[aPd];refine AF (wpS_lift<|BB ⟨rfl,?_⟩);have b1:=M.b1;have a1:=M.a1;refine AF<|eG (by lia) ?_;have m0:HS r a b (#[]).toList a.size b.size:=⟨aQ _,aQ _,by rw[aEe<|by simp,aEe<|by simp];exact .refl _,by simp,λx hx=>by simp at hx,λx hx=>by simp at hx⟩;have m:=m0.pushA' M a1 λj hj=>M.last' j hj
 by_cases e:a.size-1=0
 ·rw[zt<|by simpa using e];obtain⟨res,e2,hr⟩:=aCa M m e;cases e2;exact AI (h _ _ hr<|.refl _)
 ·rw[zr<|by simpa using e]
  by_cases e1:b.size=1
  ·rw[zt<|by simpa using e1];obtain⟨res,e2,hr⟩:=aBZ M m e1;cases e2;exact AI (h _ _ hr<|.refl _)
  ·rw[zr<|by simpa using e1];refine AF (wpS_get (AF<|Ac (AW (I:=λx d st'=>SameG st st'/\OKh r a b (x+1) d.1 d.2.2.2.1 d.2.1 d.2.2.1) (Q:=λd st'=>SameG st st'/\FIN r a b d.1) ?step ?fin ⟨.refl _,rfl,m,by show 1<=a.size-1;lia,by show 2<=b.size;lia,by show a.size-1+b.size+(0+1)<=_;lia⟩) ?post))
   case step=>
    rintro x d st' _ hx ⟨S,hd⟩;refine Ac (aPL K hk M S hd) λq st'' hq=>?_
    obtain⟨S',hq⟩:=hq;cases q with
    |done d=>exact⟨S',hq⟩
    |yield d=>exact⟨S',hq⟩
   case fin=>rintro d st' ⟨_,_,_,h3,h4,h5⟩;lia
   case post=>rintro d st' ⟨S,res,e,hr⟩;rw[e];exact AI<|h _ _ hr S
end
abbrev Pnd:=Array<|Nat×Nat×Nat
noncomputable def wbA(sa:Nat)(m:Array AH)(xs:Array AH):Array AH:=m.toList.zipIdx.foldl (λa (q:AH×Nat)=>a.setIfInBounds (sa+q.2) q.1) xs
def mgC(x y:Array AH)(na nb sa:Nat):SM Bool:=do
 let merged <-if na<=nb then xH x y else xK x y
 modify λs=>setArr s (wbA sa merged<|AM s)
 let s <-get
 pure (failedOf s).isNone
def mgB(xs:Array AH)(sa na sb nb:Nat):SM Bool:=do
 if(na==0)=true then pure true
 else do
  let x <-elem' xs (sa+na-1)
  let q <-nA true x xs sb nb (nb-1)
  match q with
  |some nb=>if(nb==0)=true then pure true else mgC (xs.extract sa sb) (xs.extract sb<|sb+nb) na nb sa
  |_=>pure false
def mgA(i:Nat):SM Bool:=do
 let s <-get
 match(AE s)[i]?,(AE s)[i+1]? with
 |some (sa,na,pw),some (sb,nb,_)=>do
  set (BC s (((AE s).setIfInBounds i (sa,na+nb,pw)).eraseIdxIfInBounds<|i+1))
  let y <-elem' (AM s) sb
  let q <-nA false y (AM s) sa na 0
  match q with
  |some k=>mgB (AM s) (sa+k) (na-k) sb nb
  |_=>pure false
 |_,_=>liftM (unsupported "internal:list.sort.pending":Sem Bool)
def aOS(i:Nat):mergeAt' i=mgA i:=by kernel_rfl
noncomputable def srIn(pw:Nat):SM (ForInStep<|Option Unit×Unit):=do
 let s <-get
 match(if(AE s).size>1 then(AE s)[(AE s).size-2]? else none) with
 |some (_,_,older)=>
  if older<=pw then pure (.done (none,()))
  else do
   let b <-mergeAt' ((AE s).size-2)
   if(!b)=true then pure (.done (some (),())) else pure (.yield (none,()))
 |_=>pure<|.done (none,())
def aEV(lo n size:Nat):SM (ForInStep<|Option Unit×Nat):=do
 let s <-get
 match(AE s).back? with
 |some (s1,n1,_)=>do
  let c <-forIn [:size] ((none,()):Option Unit×Unit) λ_ _=>srIn<|power' size (2*s1+n1) (2*s1+n1+n1+n) size
  match c.1 with
  |some r=>pure<|.done (some r,lo)
  |none=>do
   modify λs=>BC s<|(AE s).modify ((AE s).size-1) λ(st,len,_)=>(st,len,power' size (2*s1+n1) (2*s1+n1+n1+n) size)
   modify λs=>BC s<|(AE s).push (lo,n,0)
   pure (.yield (none,lo+n))
 |_=>do
  modify λs=>BC s<|(AE s).push (lo,n,0)
  pure (.yield (none,lo+n))
def aJU(size minrun:Nat)(c:Option Unit×Nat):SM (ForInStep<|Option Unit×Nat):=
 if c.2>=size then pure (.done (none,c.2))
 else do
  let f <-countRun' c.2 (size-c.2)
  match f with
  |some found=>
   if found<minrun then do
    liftM (rule "list.sort.binary-insertion")
    let b <-binarySort' c.2 (min (size-c.2) minrun) found
    if(!b)=true then pure (.done (some (),c.2)) else aEV c.2 (min (size-c.2) minrun) size
   else aEV c.2 found size
  |_=>pure<|.done (some (),c.2)
noncomputable def aRp:SM (ForInStep<|Option Unit×Unit):=do
 let s <-get
 if(AE s).size<=1 then pure (.done (none,()))
 else do
  let b <-mergeAt' (if((if(AE s).size-2>0 then(AE s)[(AE s).size-2-1]?.map (·.2.1) else none).any (·<((AE s)[(AE s).size-2+1]?.elim 0 (·.2.1))))=true then(AE s).size-2-1 else(AE s).size-2)
  if(!b)=true then pure (.done (some (),())) else pure (.yield (none,()))
def srM:SM Unit:=do
 let s <-get
 let c <-forIn [:(AM s).size] ((none,0):Option Unit×Nat) λ_ c=>aJU (AM s).size (minRun' (AM s).size (AM s).size 0) c
 match c.1 with
 |some r=>pure r
 |none=>do
  let d <-forIn [:(AM s).size] ((none,()):Option Unit×Unit) λ_ _=>aRp
  match d.1 with
  |some r=>pure r
  |none=>pure ()
def aOQ:sortRuns'=srM:=by kernel_rfl
variable {xs:Array AH}
theorem aEM(h:i+t<j)(hj:j<=xs.size):rkA r (xs.extract i j) t=rkA r xs (i+t):=by refine iI ?_;rw[Array.getElem?_extract,zt<|by lia]
theorem aJK(sa t:Nat):∀ (l:List AH) (n:Nat) (xs:Array AH),sa+n+l.length<=xs.size->((l.zipIdx n).foldl (λa (q:AH×Nat)=>a.setIfInBounds (sa+q.2) q.1) xs)[t]? =if sa+n<=t/\t<sa+n+l.length then l[t-(sa+n)]? else xs[t]?
 |[],n,xs,_=>by rw[zr<|by rw[iP];lia];rfl
 |p::l,n,xs,h=>by
  rw[bJ] at h
  have S:(xs.setIfInBounds (sa+n) p)[t]? =if sa+n=t then some p else xs[t]? :=by
   rw[Array.getElem?_setIfInBounds]
   by_cases e:sa+n=t
   ·rw[zt e,zt e,zt<|by lia]
   ·rw[zr e,zr e]
  rw[List.zipIdx_cons,aNK,aJK sa t l (n+1) _ (by rw[Array.size_setIfInBounds];lia),bJ,S]
  by_cases e:sa+n=t
  ·rw[zr<|by lia,zt e,zt<|by lia,show t-(sa+n)=0 by lia];rfl
  ·by_cases q:sa+(n+1)<=t/\t<sa+(n+1)+l.length
   ·rw[zt q,zt<|by lia,show t-(sa+n)=t-(sa+(n+1))+1 by lia,List.getElem?_cons_succ]
   ·rw[zr q,zr e,zr<|by lia]
def aOe(h:sa+m.size<=xs.size)(t:Nat):(wbA sa m xs)[t]? =if sa<=t/\t<sa+m.size then m[t-sa]? else xs[t]? :=by have:=aJK sa t m.toList 0 xs (by simpa using h);unfold wbA;rw[this];simp
theorem aMs(h:sa+m.size<=xs.size):(wbA sa m xs).toList=xs.toList.take sa++(m.toList++xs.toList.drop (sa+m.size)):=by
 apply oM;intro t;rw[dM,aOe h];have l1:(xs.toList.take sa).length=sa:=by simp;lia
 by_cases h1:t<sa
 ·rw[zr<|by lia,dS (by rw[l1];exact h1),aBO h1,dM]
 ·rw[jD<|by lia,l1]
  by_cases h2:t<sa+m.size
  ·rw[zt ⟨by lia,h2⟩,dS (by simp;lia),dM]
  ·rw[zr<|by lia,jD (by simp;lia),List.getElem?_drop,fK];rw[show sa+m.size+(t-sa-m.size)=t by lia,dM]
theorem aDy(h:sa+n<=xs.size):xs.toList=xs.toList.take sa++((xs.extract sa<|sa+n).toList++xs.toList.drop (sa+n)):=by
 rw[eK,dH,show sa+n-sa=n by lia];have e:xs.toList.drop (sa+n)=(xs.toList.drop sa).drop n:=by rw[rK]
 rw[e,dN,dN]
def aLE(h:sa+m.size<=xs.size)(hp:m.toList.Perm (xs.extract sa<|sa+m.size).toList):(wbA sa m xs).Perm xs:=by apply gH.mpr;rw[aMs h];refine List.Perm.trans ?_<|List.Perm.of_eq (aDy h).symm;exact List.Perm.append_left _<|List.Perm.append_right _ hp
theorem aLP(h1:i<=j)(h2:j<=k)(h3:k<=xs.size):(xs.extract i j).toList++(xs.extract j k).toList=(xs.extract i k).toList:=by simp ;rw[show k-i=(j-i)+(k-j) by lia,List.take_add,rK,show i+(j-i)=j by lia]
def aMU(h:Q ⟨⟩ st2):wpS (AG prog w) A E s (set st2:StateT BK Sem PUnit) Q st:=by exact AC ⟨rfl,h⟩
theorem aBF(K:lV prog w A E s κ r a₀)(hB:SB κ a₀ st)(p1:(AE st)[i]? =some (sa,na,pw))(p2:(AE st)[i+1]? =some (sb,nb,pw'))(hs:sb=sa+na)(n1:1<=na)(n2:1<=nb)(hz:sb+nb<=a₀.size)(A1:AscR r (AM st) sa sb) (A2:AscR r (AM st) sb (sb+nb))(h:∀st',SB κ a₀ st'->AE st'=((AE st).setIfInBounds i (sa,na+nb,pw)).eraseIdxIfInBounds (i+1)->(∀k,k<sa\/sb+nb<=k->(AM st')[k]? =(AM st)[k]?)->AscR r (AM st') sa (sb+nb)->Q true st'):wpS (AG prog w) A E s (mergeAt' i) Q st:=by
 have sz:=hB.size;have mem:∀x∈(AM st).toList,x∈a₀.toList:=λx hx=>(gH.mp hB.perm).mem_iff.mp hx
 rw[aOS];unfold mgA;refine AF<|wpS_get ?_;rw[p1,p2];dsimp only;refine AF<|aMU ?_;have hB1:SB κ a₀ (BC st (((AE st).setIfInBounds i (sa,na+nb,pw)).eraseIdxIfInBounds<|i+1)):=⟨hB.perm,hB.kind,hB.failed⟩
 have h1:∀st',SameG (BC st (((AE st).setIfInBounds i (sa,na+nb,pw)).eraseIdxIfInBounds<|i+1)) st'->AscR r (AM st) sa (sb+nb)->Q true st':=λst' S a=>by refine h st' ⟨by rw[S.arr];exact hB.perm,by rw[S.kind];exact hB.kind,by rw[S.failed];exact hB.failed⟩ S.pend (λk _=>by rw[S.arr]) ?_;rw[S.arr];exact a
 have hsb:sb<(AM st).size:=by lia
 refine AF<|eG hsb (AF<|qX K hB1.kind mem (mem _<|by simp) (by lia) (by omega) (by rw[<-hs];exact A1) (λj hj e=>?_) λk c1 c2 c3=>?_)
 ·rw[<-dX (r:=r) hsb] at e;exact hB.ne K (by lia) (by lia) (by lia) e
 rw[<-dX (r:=r) hsb] at c2 c3
 have c2':∀j,sa<=j->j<sa+k->rkA r (AM st) j<rkA r (AM st) sb:=λj j1 j2=>by
  have:=c2 (j-sa)<|by lia
  rwa[show sa+(j-sa)=j by lia] at this
 have c3':∀j,sa+k<=j->j<sb->rkA r (AM st) sb<rkA r (AM st) j:=λj j1 j2=>by
  have:=c3 (j-sa) (by lia)<|by lia
  rwa[show sa+(j-sa)=j by lia] at this
 have A2l:∀j,sb<=j->j<sb+nb->rkA r (AM st) sb<=rkA r (AM st) j:=λj j1 j2=>by
  by_cases e:j=sb
  ·rw[e];exact aQ _
  ·exact cZ<|A2 sb j (aQ _) (by lia) j2
 dsimp only;unfold mgB
 by_cases e0:na-k=0
 ·rw[zt<|by simpa using e0];refine AI (h1 _ (.refl _) λi j i1 ij j1=>?_)
  by_cases q1:j<sb
  ·exact A1 i j i1 ij q1
  ·by_cases q2:i<sb
   ·exact aZ (c2' i i1<|by lia)<|A2l j (by lia) j1
   ·exact A2 i j (by lia) ij j1
 ·rw[zr<|by simpa using e0];have ekn:sa+k+(na-k)-1=sb-1:=by lia
  have hkb:sb-1<(AM st).size:=by lia
  rw[ekn];refine AF<|eG hkb (AF<|qX K hB1.kind mem (mem _<|by simp) (by lia) (by lia) A2 (λj hj e=>?_) λn2' d1 d2 d3=>?_)
  ·rw[<-dX (r:=r) hkb] at e;exact hB.ne K (by lia) (by lia) (by lia) e
  rw[<-dX (r:=r) hkb] at d2 d3
  have d2':∀j,sb<=j->j<sb+n2'->rkA r (AM st) j<rkA r (AM st) (sb-1):=λj j1 j2=>by
   have:=d2 (j-sb)<|by lia
   rwa[show sb+(j-sb)=j by lia] at this
  have d3':∀j,sb+n2'<=j->j<sb+nb->rkA r (AM st) (sb-1)<rkA r (AM st) j:=λj j1 j2=>by
   have:=d3 (j-sb) (by lia)<|by lia
   rwa[show sb+(j-sb)=j by lia] at this
  have n2p:n2'≠0:=λz=>by subst z;have a:=d3' sb (by omega) (by lia);have b:=c3' (sb-1) (by lia) (by lia);lia
  dsimp only;rw[zr<|by simpa using n2p];unfold mgC
  have M:MPre r a₀ ((AM st).extract (sa+k) sb) ((AM st).extract sb<|sb+n2'):=by
   have s1:((AM st).extract (sa+k) sb).size=sb-(sa+k):=by rw[jV];lia
   have s2:((AM st).extract sb<|sb+n2').size=n2':=by rw[jV];lia
   have e1:∀t,t<sb-(sa+k)->rkA r ((AM st).extract (sa+k) sb) t=rkA r (AM st) (sa+k+t):=λt ht=>aEM (by lia)<|by lia
   have e2:∀t,t<n2'->rkA r ((AM st).extract sb<|sb+n2') t=rkA r (AM st) (sb+t):=λt ht=>aEM (by lia)<|by lia
   refine⟨by lia,by lia,λi j _ ij j1=>?_,λi j _ ij j1=>?_,λx hx=>?_,λx hx=>?_,λi j i1 j1=>?_,?_,?_⟩
   ·rw[s1] at j1;rw[e1 i<|by lia,e1 j j1];exact A1 _ _ (by lia) (by lia)<|by lia
   ·rw[s2] at j1;rw[e2 i<|by lia,e2 j j1];exact A2 _ _ (by lia) (by lia)<|by lia
   ·rw[eK,dH] at hx;exact mem x (dR<|dA hx)
   ·rw[eK,dH] at hx;exact mem x (dR<|dA hx)
   ·rw[s1] at i1;rw[s2] at j1;rw[e1 i i1,e2 j j1];exact hB.ne K (by lia) (by lia)<|by lia
   ·rw[e1 0<|by lia,e2 0<|by lia];exact c3' _ (by omega)<|by lia
   ·rw[s1,s2,e1 _<|by lia,e2 _<|by lia,show sa+k+(sb-(sa+k)-1)=sb-1 by lia];exact d2' _ (by lia)<|by lia
  have fin:∀out st',MD r ((AM st).extract (sa+k) sb) ((AM st).extract sb (sb+n2')) out.toList→SameG (BC st (((AE st).setIfInBounds i (sa,na+nb,pw)).eraseIdxIfInBounds (i+1))) st'→wpS (AG prog w) A E s (do
    modify λs=>setArr s (wbA (sa+k) out<|AM s)
    let s <-get
    pure (failedOf s).isNone) Q st':=λout st' D S=>by
   refine AF (Aw<|AF (wpS_get<|AI ?_))
   have ep:out.toList.Perm ((AM st).extract (sa+k)<|sb+n2').toList:=by
    have:=D.1
    rwa[aLP (by lia) (by lia)<|by lia] at this
   have sO:out.size=sb+n2'-(sa+k):=by have:=ep.length_eq;rw[fK,fK,jV] at this;lia
   have hz2:sa+k+out.size<=(AM st).size:=by lia
   have ep2:out.toList.Perm ((AM st).extract (sa+k)<|sa+k+out.size).toList:=by rw[sO,show sa+k+(sb+n2'-(sa+k))=sb+n2' by lia];exact ep
   have ff:failedOf (setArr st' (wbA (sa+k) out<|AM st'))=none:=by show failedOf st'=none;rw[S.failed];exact hB.failed
   rw[ff];have arr':AM st'=AM st:=S.arr
   have at_:∀t,(AM<|setArr st' (wbA (sa+k) out<|AM st'))[t]? =if sa+k<=t/\t<sb+n2' then out[t-(sa+k)]? else(AM st)[t]? :=λt=>by show(wbA (sa+k) out<|AM st')[t]? =_;rw[arr',aOe hz2,sO,show sa+k+(sb+n2'-(sa+k))=sb+n2' by lia]
   refine h _ ⟨?_,?_,ff⟩ ?_ (λt ht=>by rw[at_,zr<|by lia]) ?_
   ·show(wbA (sa+k) out<|AM st').Perm a₀;rw[arr'];exact(aLE hz2 ep2).trans hB.perm
   ·show kindOf st'=κ;rw[S.kind];exact hB.kind
   ·show AE st'=_;rw[S.pend]
   ·have rin:∀t,sa+k<=t->t<sb+n2'->rkA r (AM<|setArr st' (wbA (sa+k) out<|AM st')) t=rkA r out (t-(sa+k)):=λt t1 t2=>iI (by rw[at_,zt ⟨t1,t2⟩])
    have rout:∀t,t<sa+k\/sb+n2'<=t->rkA r (AM<|setArr st' (wbA (sa+k) out<|AM st')) t=rkA r (AM st) t:=λt ht=>iI (by rw[at_,zr<|by lia])
    have mo:∀u,u<out.size->∃v,sa+k<=v/\v<sb+n2'/\rkA r out u=rkA r (AM st) v:=λu hu=>by
     have hm:out[u]∈((AM st).extract (sa+k)<|sb+n2').toList:=ep.mem_iff.mp (by simp);obtain⟨v,hv,ev⟩:=eB hm
     have hv':v<sb+n2'-(sa+k):=by have:=hv;rw[fK,jV] at this;lia
     refine⟨sa+k+v,by lia,by lia,?_⟩;rw[dX hu,<-ev,<-aEM (i:=sa+k) (j:=sb+n2') (t:=v) (by lia) (by lia)];rw[dX<|by rw[jV];lia];simp
    have asO:∀u v,u<v->v<out.size->rkA r out u<rkA r out v:=λu v uv hv=>by have:=(aAU.mp D.2) u v (by simp;lia) (by simpa using hv) uv;rw[dX<|by lia,dX hv];simpa using this
    have low:∀t u,sa<=t->t<sa+k->u<out.size->rkA r (AM st) t<rkA r out u:=λt u t1 t2 hu=>by
     obtain⟨v,v1,v2,ev⟩:=mo u hu;rw[ev]
     by_cases q:v<sb
     ·exact A1 t v t1 (by lia) q
     ·exact aZ (c2' t t1 t2) (A2l v (by lia)<|by lia)
    have high:∀t u,sb+n2'<=t->t<sb+nb->u<out.size->rkA r out u<rkA r (AM st) t:=λt u t1 t2 hu=>by
     obtain⟨v,v1,v2,ev⟩:=mo u hu;rw[ev]
     by_cases q:v<sb
     ·refine dD ?_ (d3' t t1 t2)
      by_cases e:v=sb-1
      ·rw[e];exact aQ _
      ·exact cZ (A1 v (sb-1) (by lia) (by lia)<|by lia)
     ·exact A2 v t (by lia) (by lia) t2
    intro u v u1 uv v1
    by_cases q1:u<sa+k
    ·rw[rout u<|.inl q1]
     by_cases q2:v<sa+k
     ·rw[rout v<|.inl q2];exact A1 u v u1 uv<|by lia
     ·by_cases q3:v<sb+n2'
      ·rw[rin v (by lia) q3];exact low _ _ u1 q1<|by lia
      ·rw[rout v (.inr<|by lia)];exact aZ (c2' u u1 q1)<|A2l v (by lia) v1
    ·by_cases q2:u<sb+n2'
     ·rw[rin u (by lia) q2]
      by_cases q3:v<sb+n2'
      ·rw[rin v (by lia) q3];exact asO _ _ (by lia)<|by lia
      ·rw[rout v (.inr<|by lia)];exact high _ _ (by lia) v1<|by lia
     ·rw[rout u (.inr<|by lia),rout v (.inr<|by lia)];exact A2 u v (by lia) uv v1
  dsimp only
  split
  ·exact AF<|aBJ K hB1.kind M fin
  ·exact AF<|aBE K hB1.kind M fin
def Runs(r:AH->Nat)(xs:Array AH):Nat->List (Nat×Nat×Nat)->Nat->Prop
 |s,[],e=>s=e
 |s,p::l,e=>p.1=s/\1<=p.2.1/\AscR r xs s (s+p.2.1)/\Runs r xs (s+p.2.1) l e
variable {ys:Array AH}
theorem AscR.keep{s e:Nat}(h:AscR r xs s e)(k:∀t,s<=t->t<e->ys[t]? =xs[t]?):AscR r ys s e:=λi j hi hij hj=>by rw[iI (k i hi<|by lia),iI<|k j (by lia) hj];exact h i j hi hij hj
theorem Runs.le:∀ {l:List (Nat×Nat×Nat)}{s e:Nat},Runs r xs s l e->s+l.length<=e
 |[],s,e,h=>by rw[h];exact aQ _
 |p::l,s,e,⟨_,h1,_,h2⟩=>by have:=h2.le;rw[bJ];lia
theorem Runs.keep:∀ {l:List (Nat×Nat×Nat)}{s e:Nat},Runs r xs s l e->(∀t,s<=t->t<e->ys[t]? =xs[t]?)->Runs r ys s l e
 |[],_,_,h,_=>h
 |p::l,s,e,⟨h0,h1,h2,h3⟩,k=>by have:=h3.le;exact⟨h0,h1,h2.keep λt t1 t2=>k t t1<|by lia,h3.keep λt t1 t2=>k t (by lia) t2⟩
def Runs.split:∀ {l1 l2:List (Nat×Nat×Nat)}{s e:Nat},Runs r xs s (l1++l2) e->∃m,Runs r xs s l1 m/\Runs r xs m l2 e
 |[],l2,s,e,h=>⟨s,rfl,h⟩
 |p::l1,l2,s,e,⟨h0,h1,h2,h3⟩=>by obtain⟨m,a,b⟩:=Runs.split h3;exact⟨m,⟨h0,h1,h2,a⟩,b⟩
def Runs.app:∀ {l1 l2:List (Nat×Nat×Nat)}{s m e:Nat},Runs r xs s l1 m->Runs r xs m l2 e->Runs r xs s (l1++l2) e
 |[],l2,s,m,e,h,h2=>by rw[h];exact h2
 |p::l1,l2,s,m,e,⟨h0,h1,h2,h3⟩,b=>⟨h0,h1,h2,Runs.app h3 b⟩
def Runs.pow{x y:Nat×Nat×Nat}{s e:Nat}(h:Runs r xs s (l1++[x]) e)(h1:y.1=x.1)(h2:y.2.1=x.2.1):Runs r xs s (l1++[y]) e:=by obtain⟨m,a,b⟩:=h.split;refine a.app ?_;obtain⟨b0,b1,b2,b3⟩:=b;exact⟨h1.trans b0,by rw[h2];exact b1,by rw[h2];exact b2,by rw[h2];exact b3⟩
theorem aJP{p:Pnd}{i:Nat}(h:i+1<p.size)(v:Nat×Nat×Nat):p.toList=p.toList.take i++p[i]::p[i+1]::p.toList.drop (i+2)/\((p.setIfInBounds i v).eraseIdxIfInBounds<|i+1).toList=p.toList.take i++v::p.toList.drop (i+2):=by
 have e1:p.toList=p.toList.take i++p[i]::p[i+1]::p.toList.drop (i+2):=by
  have a:p.toList.drop i=p[i]::p.toList.drop (i+1):=by rw[dG<|by simp;lia];simp
  have b:p.toList.drop (i+1)=p[i+1]::p.toList.drop (i+1+1):=by rw[dG<|by omega];simp
  rw[<-b,<-a,dN]
 refine⟨e1,?_⟩;have l1:(p.toList.take i).length=i:=by simp;lia
 rw[Array.toList_eraseIdxIfInBounds,Array.toList_setIfInBounds];generalize p.toList.take i=u at e1 l1;generalize p.toList.drop (i+2)=z at e1;rw[e1];rw[List.set_append_right _ _<|by lia,l1,aHm,List.eraseIdx_append_of_length_le<|by lia,l1,show i+1-i=1 by lia];rfl
theorem aEX(K:lV prog w A E s κ r a₀)(hB:SB κ a₀ st)(R:Runs r (AM st) 0 (AE st).toList e)(he:e<=a₀.size)(hi:i+1<(AE st).size)(h:∀st',SB κ a₀ st'->Runs r (AM st') 0 (AE st').toList e->(AE st').size+1=(AE st).size->(∀k,e<=k->(AM st')[k]? =(AM st)[k]?)->Q true st'):wpS (AG prog w) A E s (mergeAt' i) Q st:=by
 obtain⟨e1,_⟩:=aJP hi (0,0,0);have R0:=R;rw[e1] at R0;obtain⟨m,R1,a1,a2,a3,b1,b2,b3,R2⟩:=R0.split
 have h1:(AE st)[i]? =some (m,(AE st)[i].2.1,(AE st)[i].2.2):=by rw[getElem?_pos _ i<|by lia];refine congrArg some ?_;rw[<-a1]
 have h2:(AE st)[i+1]? =some (m+(AE st)[i].2.1,(AE st)[i+1].2.1,(AE st)[i+1].2.2):=by rw[getElem?_pos _ (i+1)<|by omega];refine congrArg some ?_;rw[<-b1]
 have l2:=R2.le;refine aBF K hB h1 h2 rfl a2 b2 (by lia) a3 b3 λst' hB' hp hk ha=>?_
 obtain⟨_,e2⟩:=aJP hi (m,(AE st)[i].2.1+(AE st)[i+1].2.1,(AE st)[i].2.2);have ep:(AE st').toList=(AE st).toList.take i++(m,(AE st)[i].2.1+(AE st)[i+1].2.1,(AE st)[i].2.2)::(AE st).toList.drop (i+2):=by rw[hp];exact e2
 refine h st' hB' ?_ ?_ λk hk2=>hk k (.inr<|by lia)
 ·rw[ep];refine(R1.keep λt _ t2=>hk t<|.inl t2).app ⟨rfl,by show 1<=_+_;lia,?_,?_⟩
  ·rw[<-aRL];exact ha
  ·rw[<-aRL];exact R2.keep λt t1 _=>hk t<|.inr t1
 ·have:=congrArg zL ep;have q:=congrArg zL e1;simp at this q;lia
structure SR(κ:Au)(r:AH->Nat)(a₀:Array AH)(lo:Nat)(st:BK):Prop where
 sb:SB κ a₀ st
 runs:Runs r (AM st) 0 (AE st).toList lo
theorem aCP{lo:Nat}(K:lV prog w A E s κ r a₀)(S:SR κ r a₀ lo st)(n1:1<=n)(hn:lo+n<=a₀.size)(ha:AscR r (AM st) lo (lo+n))(h:∀st',SR κ r a₀ (lo+n) st'->Q (.yield (none,lo+n)) st'):wpS (AG prog w) A E s (aEV lo n a₀.size) Q st:=by
 refine AF<|wpS_get ?_
 have fin:∀st',SR κ r a₀ lo st'->AscR r (AM st') lo (lo+n)->SR κ r a₀ (lo+n) (BC st'<|(AE st').push (lo,n,0)):=λst' S' ha'=>by refine⟨⟨S'.sb.perm,S'.sb.kind,S'.sb.failed⟩,?_⟩;rw[kI];exact S'.runs.app ⟨rfl,n1,ha',rfl⟩
 cases hb:(AE st).back? with
 |none=>exact AF (Aw<|AI (h _<|fin st S ha))
 |some p=>
  obtain⟨s1,n1',p1⟩:=p;dsimp only;generalize power' a₀.size (2*s1+n1') (2*s1+n1'+n1'+n) a₀.size=pw
  have ne0:1<=(AE st).size:=by
   rcases Nat.eq_zero_or_pos (AE st).size with z|z
   ·rw[Array.eq_empty_of_size_eq_zero z] at hb;cases hb
   ·exact z
  refine AF<|Ac (AW (I:=λ_ c st'=>c=(none,())/\SR κ r a₀ lo st'/\1<=(AE st').size/\AscR r (AM st') lo (lo+n)) ?step (λ_ _ z=>z) ⟨rfl,S,ne0,ha⟩) ?post
  case step=>
   rintro x c st' _ hx ⟨rfl,S',ne',ha'⟩;refine AF<|wpS_get ?_
   by_cases q:(AE st').size>1
   ·rw[zt q,getElem?_pos _ _<|by lia];dsimp only
    split
    ·exact AI ⟨rfl,S',ne',ha'⟩
    ·refine AF<|aEX K S'.sb S'.runs (by lia) (by lia) λst'' hB hr hs hk=>?_;exact AI ⟨rfl,⟨hB,hr⟩,by lia,ha'.keep λt t1 _=>hk t t1⟩
   ·rw[zr q];exact AI ⟨rfl,S',ne',ha'⟩
  case post=>
   rintro c st' ⟨rfl,S',ne',ha'⟩;refine AF (Aw<|AF (Aw<|AI (h _<|fin (BC st'<|(AE st').modify ((AE st').size-1) λ(x)=>(x.1,x.2.1,pw)) ⟨⟨S'.sb.perm,S'.sb.kind,S'.sb.failed⟩,?_⟩ ha')))
   have hl:(AE st').toList≠[]:=λz=>by have:=congrArg zL z;rw[fK,iP] at this;lia
   have e1:=(mC hl).symm;have R:=S'.runs;rw[e1] at R
   have e2:((AE st').modify ((AE st').size-1) λ(x)=>(x.1,x.2.1,pw)).toList=(AE st').toList.dropLast++[(((AE st').toList.getLast hl).1,((AE st').toList.getLast hl).2.1,pw)]:=by
    apply oM;intro t;rw[dM,aEf];have ld:(AE st').toList.dropLast.length=(AE st').size-1:=by simp
    by_cases q:(AE st').size-1=t
    ·rw[jD<|by lia,ld,<-q];rw[List.getLast_eq_getElem];have:(AE st').size-1<(AE st').size:=by lia
     simp[this]
    ·rw[zr q]
     by_cases q2:t<(AE st').size-1
     ·rw[dS (by rw[ld];exact q2),List.getElem?_dropLast,zt (by simpa using q2),dM]
     ·rw[aDl<|by lia,iR<|by simp;lia]
   rw[e2];exact R.pow rfl rfl
theorem aHh(K:lV prog w A E s κ r a₀)(hB:SB κ a₀ st)(hp:AE st= #[])(h:∀st',SB κ a₀ st'->AscR r (AM st') 0 a₀.size->Q () st'):wpS (AG prog w) A E s sortRuns' Q st:=by
 rw[aOQ];refine AF<|wpS_get ?_;have sz:=hB.size;rw[sz];generalize minRun' a₀.size a₀.size 0=minrun;refine AF<|Ac (AW (I:=λx c st'=>∃lo,c=(none,lo)/\SR κ r a₀ lo st'/\lo<=a₀.size/\(x<=lo\/lo=a₀.size)) (Q:=λc st'=>c=(none,a₀.size)/\SR κ r a₀ a₀.size st') ?step ?fin ⟨0,rfl,⟨hB,by rw[hp];rfl⟩,bQ _,.inl<|aQ _⟩) ?post
 case fin=>
  rintro c st' ⟨lo,rfl,S,h1,h2⟩;have:lo=a₀.size:=by lia
  subst this;exact⟨rfl,S⟩
 case step=>
  rintro x c st' _ hx ⟨lo,rfl,S,h1,h2⟩;unfold aJU;by_cases q:lo>=a₀.size
  ·rw[zt q];have:lo=a₀.size:=by lia
   subst this;exact AI ⟨rfl,S⟩
  ·rw[zr q];refine AF<|aDO K S.sb (by lia) (by lia) λm st2 m1 m2 T ha=>?_;have S2:SR κ r a₀ lo st2:=⟨T.sb,by rw[T.pend];exact S.runs.keep λt _ t2=>T.keep t<|.inl t2⟩;dsimp only
   by_cases z:m<minrun
   ·rw[zt z];refine AF (wpS_lift<|BB ⟨rfl,?_⟩);refine AF<|aIi K S2.sb (by lia) (by lia) ha λst3 T3 ha3=>?_;refine aCP K ⟨T3.sb,by rw[T3.pend];exact S2.runs.keep λt _ t2=>T3.keep t<|.inl t2⟩ (by lia) (by lia) ha3 λst4 S4=>⟨_,rfl,S4,by lia,.inl<|by lia⟩
   ·rw[zr z];exact aCP K S2 m1 (by lia) ha λst4 S4=>⟨_,rfl,S4,by lia,.inl<|by lia⟩
 case post=>
  rintro c st' ⟨rfl,S⟩
  have pl:=by have:=S.runs.le;simpa using this
  refine AF<|Ac (AW (I:=λx c st''=>c=(none,())/\SR κ r a₀ a₀.size st''/\(AE st'').size<=a₀.size-x) (Q:=λc st''=>c=(none,())/\SR κ r a₀ a₀.size st''/\(AE st'').size<=1) ?step2 ?fin2 ⟨rfl,S,by omega⟩) ?post2
  case fin2=>rintro c st'' ⟨rfl,S,h1⟩;exact⟨rfl,S,by lia⟩
  case step2=>
   rintro x c st'' _ hx ⟨rfl,S,h1⟩;refine AF<|wpS_get ?_
   by_cases q:(AE st'').size<=1
   ·rw[zt q];exact AI ⟨rfl,S,q⟩
   ·rw[zr q];have go:∀i,i+1<(AE st'').size->wpS (AG prog w) A E s (mergeAt' i) (λb st'=>b=true/\SR κ r a₀ a₀.size st'/\(AE st').size<=a₀.size-(x+1)) st'':=λi hi=>aEX K S.sb S.runs (aQ _) hi λst3 hB3 hr hs hk=>⟨rfl,⟨hB3,hr⟩,by lia⟩
    refine AF<|Ac (go _ ?_) λb st3 hb=>?_
    ·have bd:∀c,(if c=true then(AE st'').size-2-1 else(AE st'').size-2)+1<(AE st'').size:=λc=>by
      cases c
      ·rw[zr<|by decide];lia
      ·rw[zt rfl];lia
     exact bd _
    ·obtain⟨rfl,S3,h3⟩:=hb;exact AI ⟨rfl,S3,h3⟩
  case post2=>
   rintro c st'' ⟨rfl,S,h1⟩;refine AI<|h st'' S.sb ?_;have R:=S.runs;generalize e:(AE st'').toList=l at R;have ll:l.length<=1:=by rw[<-e];simpa using h1
   match l,ll with
   |[],_=>have:0=a₀.size:=R;intro i j _ _ hj;lia
   |[p],_=>obtain⟨_,_,b,c⟩:=R;rw[c] at b;exact b
open PySem.W (KasT kas_sort kas_asc kas_desc kas_tail3 kas_descPart kas_count kas_place kas_bin kas_rev kas_ask kas_item kat_lt kat_cons kat_nil kat_yes kat_no kat_one kat_kind kat_run kat_snds KatTups)
open PySem.W (KasT kas_sort kas_asc kas_desc kas_tail3 kas_descPart kas_count kas_place kas_bin kas_rev)
open PySem.W (KasT kas_sort kas_asc kas_desc kas_tail3 kas_descPart kas_count kas_place kas_bin kas_rev kas_ask kas_item kat_lt kat_cons kat_nil kat_yes kat_no kat_one kat_kind kat_run kat_snds KatTups KatLex)
def aAM{α β:Type}{f:α->β}{l:List α}{l':List β}(h:l'.Perm (l.map f)):∃l2:List α,l2.Perm l/\l'=l2.map f:=by
 generalize hy:l.map f=y at h
 induction h generalizing l with
 |nil=>
  have:=by simpa using hy
  subst this;exact⟨[],.refl _,rfl⟩
 |cons x p ih=>
  cases l with
  |nil=>simp at hy
  |cons a t=>simp at hy;obtain⟨l3,q1,q2⟩:=ih hy.2;exact⟨a::l3,q1.cons a,by rw[cA,hy.1,q2]⟩
 |swap x y l0=>
  match l,hy with
  |a::b::t,hy=>simp at hy;exact⟨b::a::t,List.Perm.swap a b t,by rw[cA,cA,hy.1,hy.2.1,hy.2.2]⟩
  |[a],hy=>simp at hy
  |[],hy=>simp at hy
 |trans p1 p2 ih1 ih2=>obtain⟨l3,q1,q2⟩:=ih2 hy;obtain⟨l4,r1,r2⟩:=ih1 q2.symm;exact⟨l4,r1.trans q1,r2⟩
variable {a b:Expr}
def pM(k:List Key):D:=.tup<|k.map kD
noncomputable def rJ(h:BH)(a:BF)(vs:List BD):BH:=((h.update a<|Obj.mapSeq λ_=> #[]).push<|Am "tuple" vs.toArray 0).push<|Am "list" #[] 0
def uD(vs:List BD):(vs.toArray.zip vs.toArray).toList=vs.map λv=>(v,v):=by
 rw[Array.toList_zip]
 induction vs with
 |nil=>rfl
 |cons v vs ih=>rw[dC,ih];rfl
def aMq{vs:List BD}(nd:(vs.map rk).Nodup)(hask:∀x∈vs,∀y∈vs,∀ (Q:Bool->BE->Prop) (E':BD->BE->Prop),Q (decide<|rk x<rk y) s->AK (AG prog w) A (keyLt' κ x y) Q E' s):lV prog w A E s κ (λp=>rk p.1) (vs.toArray.zip vs.toArray):=by
 refine⟨λ{x y st Q} hx hy hk h=>?_,?_⟩
 ·rw[uD] at hx hy;obtain⟨u,hu,rfl⟩:=aS.mp hx;obtain⟨v,hv,rfl⟩:=aS.mp hy;rw[lt'_eq];refine AF<|wpS_get ?_;rw[hk];exact AF<|wpS_lift (wpAny_attempt<|hask u hu v hv _ _ ⟨rfl,AI h⟩)
 ·rw[uD,aY];exact nd
theorem zW{a:BF}{rk:BD->Nat}{R:PySem.Fin->BE->Prop}(ho:s.heap.get? a=some (Am "list" vs.toArray n))(nd:(vs.map rk).Nodup)(hn:vs.length<=10000)(hkind:2<=vs.length->∀ (Q:Au->BE->Prop),Q κ ⟨rJ s.heap a vs,s.gens,s.drawn,s.toks,s.os⟩->AK (AG prog w) A (keyKind' vs.toArray) Q E ⟨rJ s.heap a vs,s.gens,s.drawn,s.toks,s.os⟩)(hask:∀x∈vs,∀y∈vs,∀ (Q:Bool->BE->Prop) (E':BD->BE->Prop),Q (decide<|rk x<rk y) ⟨rJ s.heap a vs,s.gens,s.drawn,s.toks,s.os⟩->AK (AG prog w) A (keyLt' κ x y) Q E' ⟨rJ s.heap a vs,s.gens,s.drawn,s.toks,s.os⟩)(h:∀out:Array BD,out.toList.Perm vs->(out.toList.map rk).Pairwise (·<·)->R (.done<|.ret .none) {s with heap:=sortedHeap s.heap a vs out}):AK (AG prog w) A (Builtin.«list.sort» ⟨[.ref a],[]⟩) R E s:=by
 have lt:=aU ho;have sz:vs.toArray.size=vs.length:=by simp
 obtain⟨n0,g1⟩:∃n0,(s.heap.update a<|Obj.mapSeq λ_=> #[]).get? a=some (Am "list" #[] n0):=⟨_,get?_update_seq ho λ_=> #[]⟩
 have n1:a≠((s.heap.update a<|Obj.mapSeq λ_=> #[]).push<|Am "tuple" vs.toArray 0).objs.size:=by rw[size_push',pK];exact bR<|oQ lt
 have n2:a≠(s.heap.update a<|Obj.mapSeq λ_=> #[]).objs.size:=by rw[pK];exact bR lt
 have g6:(rJ s.heap a vs).get? a=some (Am "list" #[] n0):=by unfold rJ;rw[aKM _ _ _ n1,aKM _ _ _ n2,g1]
 rw[list_sort_plain];refine AA (listItems_at ho rfl<|AA (listUpdate_at ho rfl (AA (seqEpoch_at g1 rfl<|AA (wpAny_newTuple (AA (wpAny_newList (AY ?_)<|bQ _))<|by show vs.length<=_;rw[At];lia))) (by rw[At];lia)<|bQ _));by_cases h2:vs.toArray.size<2
 ·rw[zt h2,zt h2];refine AA<|AC ?_;refine AA (AC (AA<|seqEpoch_at g6 rfl (AA<|listUpdate_at g6 rfl ?_ (bQ _) ?_)))
  ·simp only[bne_self_eq_false,if_false,cV];refine AC ?_
   have e:Array.map (λ(x)=>x.2) (AM<|SortSt.mk' general' (vs.toArray.zip vs.toArray) #[] 7 none)=vs.toArray:=by apply vZ.mp;rw[wB];rw[uD,aY];exact kE _
   rw[e];refine h vs.toArray (.refl _) ?_
   match vs,h2 with
   |[],_=>exact .nil
   |[v],_=>exact kG _ _
  ·rw[Array.size_map,Array.size_zip,sz,At];lia
 ·rw[zr h2,zr h2];refine AA<|hkind (by lia) _ ?_;have K:lV prog w A E ⟨rJ s.heap a vs,s.gens,s.drawn,s.toks,s.os⟩ κ (λp=>rk p.1) (vs.toArray.zip vs.toArray):=aMq nd hask;refine AA<|AU (aHh (Q:=λ_ st'=>SB κ (vs.toArray.zip vs.toArray) st'/\AscR (λp=>rk p.1) (AM st') 0 (vs.toArray.zip vs.toArray).size) K ⟨Array.Perm.refl _,rfl,rfl⟩ rfl λst' b c=>⟨b,c⟩) ?_ λ_ _ z=>z;rintro⟨⟨⟩,st'⟩ s' ⟨rfl,hB,hA⟩
  have pm:=by
   have:=gH.mp hB.perm
   rwa[uD] at this
  have p2:((AM st').map (·.2)).toList.Perm vs:=by rw[wB];have:=pm.map (·.2);rw[aY] at this;exact this.trans (List.Perm.of_eq<|kE _)
  have sO:=by
   have:=p2.length_eq
   rwa[fK] at this
  refine AA<|seqEpoch_at g6 rfl (AA<|listUpdate_at g6 rfl ?_ (bQ _) ?_)
  ·rw[hB.failed];simp only[bne_self_eq_false,if_false,cV];refine AC<|h _ p2 ?_;rw[wB,aY,aAU];intro i j hi hj hij;rw[aC,fK] at hi hj;have q:=hA i j (bQ _) hij (by rw[<-hB.size];exact hj);rw[dX hi,dX hj] at q
   have d:∀p∈(AM st').toList,p.1=p.2:=λp hp=>by obtain⟨v,_,rfl⟩:=aS.mp<|pm.mem_iff.mp hp;rfl
   have d1:=d (AM st')[i] (by simp);have d2:=d (AM st')[j] (by simp);rw[d1,d2] at q;simpa using q
  ·rw[sO,At];lia
open PySem.W (kat_lt kat_cons kat_nil kat_yes kat_no kat_one kat_kind KatTups KatLex)
theorem aEa{rk:BD->Nat}(hl:s.heap.IsList l vs.toArray)(nd:(vs.map rk).Nodup)(hn:vs.length<=10000)(hkind:∀t:BE,(∀b o,s.heap.get? b=some o->t.heap.get? b=some o)->2<=vs.length->∀ (A':BG) (R:Au->BE->Prop) (E':BD->BE->Prop),A'.units<=A.units+2->R κ t->AK (AG prog w) A' (keyKind' vs.toArray) R E' t)(hask:∀t:BE,(∀b o,s.heap.get? b=some o->t.heap.get? b=some o)->∀x∈vs,∀y∈vs,∀ (A':BG) (R:Bool->BE->Prop) (E':BD->BE->Prop),A'.units<=A.units+2->R (decide<|rk x<rk y) t->AK (AG prog w) A' (keyLt' κ x y) R E' t)(h:∀out:Array BD,out.toList.Perm vs->(out.toList.map rk).Pairwise (·<·)->Q (.ref<|s.heap.objs.size+1) {s with heap:=sortedAll s.heap vs out}):AK (AG prog w) A (call (.builtin "sorted") [.ref l]) Q E s:=by
 have hsz:((s.heap.push<|Am "list" #[] 0).update s.heap.objs.size (Obj.mapSeq (·++vs.toArray))).objs.size=s.heap.objs.size+1:=by rw[pK,size_push']
 have hoL:(((s.heap.push<|Am "list" #[] 0).update s.heap.objs.size (Obj.mapSeq (·++vs.toArray))).push<|Am "list" vs.toArray 0).get? (s.heap.objs.size+1)=some (Am "list" vs.toArray 0):=by rw[<-hsz];exact bO _ rfl
 have k2:∀b o,s.heap.get? b=some o->(((s.heap.push<|Am "list" #[] 0).update s.heap.objs.size (Obj.mapSeq (·++vs.toArray))).push<|Am "list" vs.toArray 0).get? b=some o:=λb o g=>by
  have nb:s.heap.objs.size≠b:=λz=>absurd (aU g) (by rw[<-z];exact eU _)
  refine aD _ ?_;rw[cW _ _ nb];exact aD _ g
 have k6:∀b o,s.heap.get? b=some o->(rJ (((s.heap.push<|Am "list" #[] 0).update s.heap.objs.size (Obj.mapSeq (·++vs.toArray))).push<|Am "list" vs.toArray 0) (s.heap.objs.size+1) vs).get? b=some o:=λb o g=>by
  have nb:s.heap.objs.size+1≠b:=λz=>by have:=aU g;rw[<-z] at this;exact absurd this (qG.mpr<|iL _)
  refine aD _<|aD _ ?_;rw[cW _ _ nb];exact k2 b o g
 refine Calls.call_function_entry kind_sorted plain_sorted entry_sorted (args_sorted1<|.ref l) ?_;refine AA (AC<|AA (collect_list hl (AA (wpAny_newList ?_<|by rw[At];lia))<|by rw[At];lia));rw[hsz];refine AA (AY (Av slot_list_sort ⟨_,hoL,rfl⟩ entry_list_sort (zW hoL nd hn (λh2 R q=>hkind ⟨rJ (((s.heap.push<|Am "list" #[] 0).update s.heap.objs.size (Obj.mapSeq (·++vs.toArray))).push<|Am "list" vs.toArray 0) (s.heap.objs.size+1) vs,s.gens,s.drawn,s.toks,s.os⟩ k6 h2 _ R _ ?_ q) (λx hx y hy R E' q=>hask ⟨rJ (((s.heap.push<|Am "list" #[] 0).update s.heap.objs.size (Obj.mapSeq (·++vs.toArray))).push<|Am "list" vs.toArray 0) (s.heap.objs.size+1) vs,s.gens,s.drawn,s.toks,s.os⟩ k6 x hx y hy _ R E' ?_ q) λout p1 p2=>⟨_,rfl,AC ⟨_,rfl,h out p1 p2⟩⟩)<|args_list_sort _))
 all_goals simp only[Around.in1];omega
def aNb{fin b:Bool}{r:List (BD×BD)}(x:aHv A s fin r b):∀ {i:Nat},Q b s->KatLex prog w A false fin Q r i s:=by
 induction x with
 |nil=>intro i q;exact kat_nil q
 |eq he _ ih=>intro i q;exact kat_cons<|SeqAt.EqAt.of_in1 he prog w _ _ (kat_yes<|ih q)
 |@lt x y r b he hl=>intro i q;refine kat_cons (SeqAt.EqAt.of_in1 he prog w _ _<|kat_no ?_);exact kat_one x y (wpAny_of_in1<|hl prog w _ _ q)
theorem xR:∀ {l:List α}{m:List β}{n:Nat}{a:α},Paired G l m->l[n]? =some a->∃b,m[n]? =some b/\G a b
 |_,_,_,_,.nil,h=>by simp at h
 |_,_,0,_,.cons r _,h=>by cases h;exact⟨_,rfl,r⟩
 |_,_,n+1,_,.cons _ t,h=>xR (n:=n) t (by simpa using h)
theorem tS:∀ {l:List α}{m:List β} (n:Nat),Paired G l m->Paired G (l.eraseIdx n) (m.eraseIdx n)
 |_,_,_,.nil=>.nil
 |_,_,0,.cons _ t=>t
 |_,_,n+1,.cons r t=>.cons r<|tS n t
def aRT(X:Cx):V->List V->Hp->VK->Prop:=λx vs H Q=>∃ (F:Hp) (l ad:BF) (k:List Key) (y:V) (n:Nat) (o:BI) (kvs:List (List Key×V)),x=.ref l/\vs=[.ref ad]/\Same F H/\H l=some (exO l o)/\F ad=some (.tup<|k.map kV)/\X.A.units+1<AR/\
 TDo X.prog X.w F l o kvs/\kvs[n]? =some (k,y)/\(∀o',(∀v,o'.data≠ .cell v)->TDo X.prog X.w F l o' (kvs.eraseIdx n)->Q y (upd H l<|exO l o'))
theorem aPI:MtR X "dict.pop" (aRT X):=by
 intro za s σ H x vs v us Q I rx rv h;obtain⟨F,l,ad,k,y,n,o,kvs,rfl,rfl,sF,hl,ha,hu,⟨z,hm,ts,kt,es,ep,t1,t2,t3,t4⟩,hn,q1⟩:=h;obtain rfl:v=Value.ref l:=rx;obtain⟨u,rfl,ru⟩:=Vals.one rv;obtain rfl:u=Value.ref ad:=ru;have ho:=(I.hok l _ hl).1;have ktH:=kt.keeps λb ys e=>sF _ _ e
 have dd:s.heap.DictOfH (Ak<|fA X.prog X.w) l ts:=⟨o,es,ep,ho,t1,t2,t3,KT.all I.hok ktH,t4⟩;have hz:ts.length<=AJ:=by rw[<-Paired.length kt];exact z
 obtain⟨⟨k',b,w'⟩,hj,e1,_,rw'⟩:=xR kt hn;subst e1;refine call_meetsIn aBR dd.typeIs PySem.F.entry_dict_pop (PySem.F.args_dict_pop_2 _ _) (aDY (Ak<|fA X.prog X.w) l ad) ⟨Af hu,k,ts,n,(b,w'),nJ I.hok<|sF _ _ ha,dd,hz,hj,λh' dd' hsm=>?_⟩;obtain⟨q,es',ep',hq,u2,u3,u4,_,u5⟩:=dd';have I4:=qK (t':=s.toks+(Ak<|fA X.prog X.w).draws k) I (by rw[hl];exact True.intro) hsm ⟨q,hq⟩<|pU hq;exact⟨y,_,I4,rw',q1 q (λv z=>by rw[u3] at z;cases z) ⟨by have:=List.length_eraseIdx_le kvs n;lia,hm,_,tS n kt,es',ep',u2,u3,u4,u5⟩⟩
variable {e:Expr}{l:BF}{ls:List BF}{ks:List (List Key)}{dss:List (List D)}
theorem aMh(i:Nat)(hg:Gl X "len")(hm:X.mg "len"=none)(hs:sd[i]? =some (odG X.prog X.w X.K l ks ls dss))(hx:PE X (.Name x p2) (iQ i))(hst:AB [.Name x p2] X.env=(false,eval (.Name x p2) X.env)::AB [] X.env:=by rfl):PEd X sd (.Call (.Name "len" p) [.Name x p2] [] pos) (.val<|.int (ks.length:Nat)):=.mk λσ F H S=>
 (oK aGt hg hm PySem.boot_len (cO hx pa_nil hst) (by decide) (by decide) hst rfl).to (by
  obtain⟨hv,hF,⟨o,g1,nc,hl,z,sm,xs,kt,es,ep,t1,t2,t3,t4⟩,hI,nd⟩:=iO S hs;refine⟨.ref l,hv,l,o,es,ep,rfl,g1,t1,t2,sm,?_,F,S,Same.refl _,?_⟩
  ·have:=Ax t3;have e2:=Paired.length kt;lia
  ·have:=Ax t3;have e2:=Paired.length kt;have e3:(ks.zip<|ls.map V.ref).length=ks.length:=by rw[mD,aC,hl,qH]
   simp only[ResOk,Rep]
   rw[this,<-e2,e3])
theorem aFo:∀ {kvs:List (List Key×V)}{xs:List (List Key×BF×BD)},KT F kvs xs->Vals (xs.map λq=>V.ref q.2.1) (xs.map λq=>Value.ref q.2.1)
 |_,_,.nil=>.nil
 |_,_,.cons _ t=>.cons rfl<|aFo t
theorem aJY{K:aB}:∀ {kvs:List (List Key×V)}{xs:List (List Key×BF×BD)},KT F kvs xs->RepL K F ((kvs.map (·.1)).map pM) (xs.map λq=>V.ref q.2.1)
 |_,_,.nil=>.nil
 |_,_, @Paired.cons _ _ _ p q _ _ r t=>by refine .cons ?_ (aJY t);refine⟨q.2.1,p.1.map kV,rfl,r.2.1,?_⟩;exact wY _
theorem aHP(i:Nat)(hg:Gl X "list")(hm:X.mg "list"=none)(hs:sd[i]? =some (odG X.prog X.w X.K l ks ls dss))(hx:PE X (.Name x p2) (iQ i))(hc:X.calm=true:=by rfl)(hst:AB [.Name x p2] X.env=(false,eval (.Name x p2) X.env)::AB [] X.env:=by rfl):PEd X sd (.Call (.Name "list" p) [.Name x p2] [] pos) (.own<|ks.map pM):=.mk λσ F H S za s I=>by
 obtain⟨hv,hF,⟨o,g1,nc,hl,z,sm,xs,kt,es,ep,t1,t2,t3,t4⟩,hI,nd⟩:=iO S hs;refine AO<|mH I hg hm PyProof.Rows.boot_list ?_;refine PyProof.Rows.callWith_type1 (thn ((cO hx pa_nil hst) pos za s σ H (λus H1=>us=[.ref l]/\H1=H) I ⟨.ref l,hv,rfl,rfl⟩) λus s1 hus=>?_) hst rfl;obtain⟨ws,H1,I1,rv,rfl,rfl⟩:=hus;obtain⟨u,rfl,ru⟩:=pF rv;cases(ru);have ez:=Ax t3
 have e3:(ks.zip<|ls.map V.ref).map (·.1)=ks:=by rw[List.map_fst_zip];rw[aC];lia
 have ho:=(I1.hok l _ g1).1;refine PySem.W.kdl_call (srcD sm t1 t2) (I1.ok.hd hc) ho (by have:=Paired.length kt;lia) λh' tk acc c' kp gl it=>?_
 have al:acc=(xs.map λq=>Value.ref q.2.1).toArray:=by
  apply vZ.mp;apply oM;intro j
  by_cases hj:j<acc.toList.length
  ·have e4:acc.toList[j]? =some acc.toList[j]:=by simp[hj]
   obtain⟨u,q,ev⟩:=it.2 j acc.toList[j] (by rw[<-dM];exact e4);rw[e4,ev];rw[<-dM,t3,bE] at q;obtain⟨y,hy,ey⟩:=eV.mp q;rw[<-ey];simp[hy,entryOfKey]
  ·have a1:acc.toList.length=es.size:=it.1
   rw[iR<|by lia,iR<|by simp;lia]
 subst al;have le2:s1.heap.objs.size<=s1.heap.objs.size:=aQ _;have hD:=I1.hok.fresh le2
 have I4:Inv X za σ (upd H1 s1.heap.objs.size (.lst<|xs.map λq=>V.ref q.2.1)) {s1 with heap:=h',toks:=tk}:=
  I1.laid kp le2 ⟨by rw[aC];have:=Paired.length kt;lia,_,c',aFo kt,gl⟩
 obtain⟨S4,fp,no⟩:=S.layO hD;refine⟨.ref s1.heap.objs.size,_,I4,rfl,F,S4,Same.refl _,_,_,rfl,fp,bH,?_,no⟩;have:=aJY (K:=X.K) kt;rw[e3] at this;exact this
noncomputable def lQ(ds:List D):Nat:=Ae (λi k=>dlt (ds.getD i .non)<|ds.getD k .non)<|ds.length-1
structure aLr(X:Cx)(ds:List D):Prop where
 ne:0<ds.length
 cmp:∀d∈ds,∀d2∈ds,uM d d2=true
 pl:∀d∈ds,pl d=true
 dep:∀d∈ds,X.A.units+1+dep d<AR
theorem aGT(hc:X.calm=true):lA X (.builtin "min") (λvs H Q=>∃ (a:BF) (xs:List V) (ds:List D),vs=[.ref a]/\SqL X.K H a xs/\RepL X.K H ds xs/\aLr X ds/\∀v,xs[lQ ds]? =some v->Q v H):=by
 intro za s σ H vs us Q I r h;obtain⟨a,xs,ds,rfl,ha,rl,M,q⟩:=h;obtain⟨u,rfl,rx⟩:=pF r;cases(rx);obtain⟨its,rv,p,hz⟩:=I.list ha;have hl:=rv.length;have hd:=rl.len;have isl:=p.isList;have alt:a<s.heap.objs.size:=by obtain⟨o,ho,_⟩:=isl;exact aU ho
 refine aFV<|BA isl ?_;refine⟨s.heap.objs.size,[s.heap.objs.size,a],[s.heap.objs.size],its.toArray.size,_,_,λh=>HOk X.prog X.w H h,λi k=>dlt (ds.getD i .non)<|ds.getD k .non,rfl,Walks.list (A:=X.A.in1) (I.ok.hd hc) _ a (bR alt) its.toArray,⟨⟨_,bO _ rfl,rfl,rfl⟩,isl.push _⟩,λb hb=>?_,by simp;have:=M.ne;lia,?_,?_,?_,λv h' tk pv k=>?_⟩
 ·rw[nG];simp at hb
  rcases hb with rfl|rfl
  ·exact iE _
  ·exact oQ alt
 ·intro i k x y t Q' E' hJ hx hy q';have hx:=by simpa using hx
  have hy:=by simpa using hy
  have li:i<ds.length:=by have:=(aF.mp hx).1;lia
  have lk:k<ds.length:=by have:=(aF.mp hy).1;lia
  have ei:ds[i]? =some (ds.getD i .non):=by simp[bV,li]
  have ek:ds[k]? =some (ds.getD k .non):=by simp[bV,lk]
  obtain⟨v1,g1,r1⟩:=rl.get ei;obtain⟨v2,g2,r2⟩:=rl.get ek;obtain⟨u1,w1,z1⟩:=rv.get g1;obtain⟨u2,w2,z2⟩:=rv.get g2;rw[hx] at w1;rw[hy] at w2;cases w1;cases w2;have mi:=bC ei;have mk:=bC ek;exact aKC hJ (ds.getD i .non) (M.cmp _ mi _ mk) (M.pl _ mi) (M.pl _ mk) r1 r2 z1 z2 (by have:=M.dep _ mi;omega) X.prog X.w _ _ q'
 ·exact aBn (cs:=[]) I.hok (λb u _ g=>aD _ g) λb hb=>by cases hb
 ·intro h1 h2 j1 kp;refine aBn (cs:=[s.heap.objs.size+1,s.heap.objs.size]) j1 (λb u hb g=>kp b u (λz=>hb ?_) g) λb hb=>?_
  ·rw[nG] at z;exact z
  ·simp at hb
   rcases hb with rfl|rfl
   ·exact I.hok.fresh<|iL _
   ·exact I.hok.fresh<|aQ _
 ·have eb:Ae (λi k=>dlt (ds.getD i .non)<|ds.getD k .non) (its.toArray.size-1)=lQ ds:=by rw[bD];congr 1;lia
  rw[eb] at pv;have pv:=by simpa using pv
  have lb:lQ ds<xs.length:=by have:=(aF.mp pv).1;lia
  have ex:xs[lQ ds]? =some xs[lQ ds]:=by simp[lb]
  obtain⟨u,hu,ru⟩:=rv.get ex;rw[pv] at hu;cases hu;refine⟨xs[lQ ds],H,I.kept λb o g=>k b o (λz=>?_)<|aD _ g,ru,q _ ex⟩;have zb:=by simpa using z
  exact bR (aU g) zb
def aLR{d:D}(hg:Gl X "min")(hm:X.mg "min"=none)(ha:PEd X sd e (.bor ds))(M:aLr X ds)(hd:ds[lQ ds]? =some d)(hc:X.calm=true:=by rfl)(hst:AB [e] X.env=(false,eval e X.env)::AB [] X.env:=by rfl):PEd X sd (.Call (.Name "min" p) [e] [] pos) (.val d):=
 mL (he:=hst) (aGT hc) hg hm boot_min (aA ha aE trivial hst) λσ F H vs Q S q k=>by
  cases q with
  |cons q1 q2=>cases q2;obtain⟨p,xs,rfl,hp,rl,_⟩:=q1;refine⟨p,xs,ds,rfl,.of hp,rl.mono S.sub,M,λv hv=>k v F H S (Same.refl _) ?_⟩;obtain⟨v',g,r'⟩:=rl.get hd;rw[hv] at g;cases g;exact r'
theorem aAh{α β:Type}:∀ (a:List α) (b:List β) (n:Nat),a.length=b.length->(a.zip b).eraseIdx n=(a.eraseIdx n).zip (b.eraseIdx n)
 |[],[],_,_=>by simp
 |_::_,[],_,h=>by simp at h
 |[],_::_,_,h=>by simp at h
 |x::a,y::b,0,_=>rfl
 |x::a,y::b,n+1,h=>by show(x,y)::(a.zip b).eraseIdx n=(x,y)::(a.eraseIdx n).zip (b.eraseIdx n);rw[aAh a b n<|by simpa using h]
theorem aAd{α β:Type}(f:α->β):∀ (l:List α) (n:Nat),(l.eraseIdx n).map f=(l.map f).eraseIdx n
 |[],_=>by simp
 |_::_,0=>rfl
 |x::l,n+1=>by show f x::(l.eraseIdx n).map f=f x::(l.map f).eraseIdx n;rw[aAd f l n]
def aHb{j:Nat}{a:BF}(h:sd[j]? =some z)(ha:a∈iM z):a∈cS sd:=dZ.mpr ⟨z,bC h,ha⟩
variable {K:aB}{H₀ F F' H H':Hp}{σ:St}{i:Nat}{P:AD}
def StF.popG(n:Nat)(S:StF K H₀ F H σ sd)(hs:sd[i]? =some (odG P w K l ks ls dss))(nc:∀v,o.data≠ .cell v)(td:TDo P w F l o ((ks.zip<|ls.map V.ref).eraseIdx n)):StF K H₀ F (upd H l<|exO l o) σ (sd.set i (odG P w K l (ks.eraseIdx n) (ls.eraseIdx n)<|dss.eraseIdx n)):=by
 obtain⟨g1,g2,⟨o',g3,nc',hl,_⟩,g4,g5⟩:=iO S hs;obtain⟨n1,n2⟩:=bY.mp g5
 have sb:∀b,b∈l::ls.eraseIdx n->b∈l::ls:=λb hb=>by
  rcases bL.mp hb with h|h
  ·exact h▸aO
  ·exact aH _<|jT h
 refine S.reX hs g1 (λb ob hb q=>?_) (oI S.smp l) (zA (λb hb=>g2 b<|sb b hb) bH nc ?_ ?_ ?_) ?_ λb hb=>.inl<|sb b hb
 ·rw[aW (show b≠l from λz=>hb<|z▸aO)];exact q
 ·rw[aHk,aHk,hl]
 ·rw[aAd,<-aAh _ _ _ (by rw[aC];exact hl)];exact td
 ·refine InD.erase n<|g4.mono2 (Same.refl _) λb hb ob q=>?_;rw[aW (show b≠l from λz=>n1<|z▸hb)];exact q
 ·exact bY.mpr ⟨λh=>n1<|jT h,n2.sublist<|qZ _ _⟩
open PySem.W (kat_lt kat_kind KatTups KatLex)
abbrev Pr2:=List Int×List Int
def p2D(x:Pr2):D:=.tup [cB x.1,cB x.2]
def aRw(x:Pr2):pl (p2D x)=true:=by show(pl (cB x.1)&&(pl (cB x.2)&&true))=true;rw[sP,sP];rfl
theorem yQ:∀a b:List Int,zT (a.map D.int) (b.map D.int)=true
 |[],_=>rfl
 |_::_,[]=>rfl
 |x::a,y::b=>by show(true&&zT (a.map D.int) (b.map D.int))=true;rw[yQ a b];rfl
def aQc(x y:Pr2):zT [cB x.1,cB x.2] [cB y.1,cB y.2]=true:=by show(zT (x.1.map D.int) (y.1.map D.int)&&(zT (x.2.map D.int) (y.2.map D.int)&&true))=true;rw[yQ,yQ];rfl
def aCi{x:List Int}(h:Rep K F (cB x) v):∃c,v=.ref c/\F c=some (.tup<|x.map V.int):=by obtain⟨c,ys,rfl,e,r⟩:=h;have:=(r).ints;subst this;exact⟨c,rfl,e⟩
theorem aBa:∀ {x y:List Int},x.map V.int=y.map V.int->x=y
 |[],[],_=>rfl
 |[],_::_,h=>by cases h
 |_::_,[],h=>by cases h
 |a::x,b::y,h=>by
  injection h with h1 h2
  injection h1 with h1
  rw[h1,aBa h2]
def aKi{x:Pr2}(h:Rep K F (p2D x) v):∃a c d,v=.ref a/\F a=some (.tup [.ref c,.ref d])/\F c=some (.tup<|x.1.map V.int)/\F d=some (.tup<|x.2.map V.int):=by obtain⟨a,ys,rfl,e,r⟩:=h;obtain⟨v1,ys1,rfl,r1,t1⟩:=r.uncons;obtain⟨v2,ys2,rfl,r2,t2⟩:=t1.uncons;subst t2;obtain⟨c,rfl,f1⟩:=aCi r1;obtain⟨d,rfl,f2⟩:=aCi r2;exact⟨a,c,d,rfl,e,f1,f2⟩
def aDw{x y:Pr2}(h:Rep K F (p2D x) v)(g:Rep K F (p2D y) v):x=y:=by obtain⟨a,c,d,rfl,e,f1,f2⟩:=aKi h;obtain⟨a',c',d',ea,e',f1',f2'⟩:=aKi g;cases ea;rw[e] at e';cases e';rw[f1] at f1';rw[f2] at f2';have h1:=aBa (HO.tup.inj<|bZ.inj f1');have h2:=aBa (HO.tup.inj<|bZ.inj f2');exact Prod.ext h1 h2
structure SrtP(A:BG)(ps:List Pr2)(rk:Pr2->Nat):Prop where
 len:ps.length<=10000
 lt:∀x∈ps,∀y∈ps,dlt (p2D x) (p2D y)=decide (rk x<rk y)
 nd:(ps.map rk).Nodup
 un:A.units+8<AR
def aPi(x:Pr2):dep (p2D x)=2:=by show max (dep<|cB x.1) (max (dep<|cB x.2) 0)+1=2;rw[xT,xT];rfl
noncomputable def srE{α:Type}(hd:α->List D)(sn:α->D)(x:α):D:=.tup [.tup<|hd x,sn x]
structure aSw{α:Type}(A:BG)(K:aB)(hd:α->List D)(sn:α->D)(ps:List α)(rk:α->Nat):Prop where
 len:ps.length<=10000
 lt:∀x∈ps,∀y∈ps,rG [.tup<|hd x,sn x] [.tup<|hd y,sn y]=decide (rk x<rk y)
 nd:(ps.map rk).Nodup
 un:A.units+8<AR
 pl:∀x∈ps,plL [.tup<|hd x,sn x]=true
 cm:∀x∈ps,∀y∈ps,zT [.tup<|hd x,sn x] [.tup<|hd y,sn y]=true
 dp:∀x∈ps,lN [.tup<|hd x,sn x]<=4
 inj:∀ (F:Hp) (x y:α) (v:V),Rep K F (srE hd sn x) v->Rep K F (srE hd sn y) v->x=y
def aFp(h:Rep K F (.tup ds) v):∃a,v=.ref a:=by obtain⟨a,_,rfl,_⟩:=h;exact⟨a,rfl⟩
variable {α:Type}{hd:α->List D}{sn:α->D}
theorem aDB:lA X (.builtin "sorted") (fun vs H Q=>∃ (a:BF) (xs:List V) (ps:List α) (rk:α→Nat),vs=[.ref a]∧H a=some (.lst xs)∧RepL X.K H (ps.map (srE hd sn)) xs∧aSw X.A X.K hd sn ps rk∧
  ∀ (D:BF) (ys:List V) (qs:List α),H D=none->qs.Perm ps->(qs.map rk).Pairwise (·<·)->(∀F,RepL X.K F (ps.map (srE hd sn)) xs->RepL X.K F (qs.map (srE hd sn)) ys)->Q (.ref D) (upd H D (.lst ys))):=by
 intro za s σ H vs us Q I r h;obtain⟨a,xs,ps,rk,rfl,ha,rl,M,q⟩:=h;obtain⟨u,rfl,rx⟩:=pF r;cases(rx);obtain⟨z,its,n,rv,hl2,eo⟩:=I.lstM ha
 have tb:∀ {ps:List α}{xs:List V}{us:List BD},RepL X.K H (ps.map<|srE hd sn) xs->Vals xs us->∃T:List (α×BF),us=(T.map λr=>Value.ref r.2)/\xs=(T.map λr=>V.ref r.2)/\ps=(T.map λr=>r.1)/\∀r∈T,Rep X.K H ((srE hd sn) r.1) (.ref r.2):=by
  intro ps
  induction ps with
  |nil=>intro xs us r rv;rw[gB] at r;subst r;cases rv;exact⟨[],rfl,rfl,rfl,λr h=>(lE h).elim⟩
  |cons x ps ih=>
   intro xs us r rv;rw[cA] at r;obtain⟨v,xs,rfl,a,rl⟩:=r.uncons;cases rv with
   |cons ru rv=>
    obtain⟨T,e1,e2,e3,t1⟩:=ih rl rv;obtain⟨b,rfl⟩:=aFp a;cases ru;refine⟨(x,b)::T,by rw[cA,<-e1],by rw[cA,<-e2],by rw[cA,<-e3],λr hr=>?_⟩
    rcases bL.mp hr with rfl|hr
    ·exact a
    ·exact t1 r hr
 obtain⟨T,rfl,rfl,rfl,tr⟩:=tb rl rv
 obtain⟨rkW,hrk⟩:∃rkW:BD->Nat,∀r∈T,rkW (.ref r.2)=rk r.1:=by
  classical
  refine⟨λv=>if h:∃r∈T,v=Value.ref r.2 then rk h.choose.1 else 0,λr hr=>?_⟩;have h:∃r'∈T,Value.ref r.2=Value.ref r'.2:=⟨r,hr,rfl⟩;show(if h:∃r'∈T,Value.ref r.2=Value.ref r'.2 then rk h.choose.1 else 0)=_;rw[dif_pos h]
  have e2:=by have:=h.choose_spec.2;injection this
  have r2:=tr _ h.choose_spec.1;rw[<-e2] at r2;rw[M.inj _ _ _ _ r2<|tr r hr]
 have mT:∀ {r:α×BF},r∈T->r.1∈T.map λr=>r.1:=λh=>List.mem_map_of_mem h
 have lT:=by simpa using M.len
 have mv:∀x∈(T.map λr=>Value.ref r.2),∃r∈T,x=Value.ref r.2:=λx hx=>by obtain⟨r,hr,e⟩:=aS.mp hx;exact⟨r,hr,e.symm⟩
 have ew:∀T':List (α×BF),(∀r∈T',r∈T)->(T'.map λr=>Value.ref r.2).map rkW=(T'.map λr=>r.1).map rk:=λT' h=>by rw[aY,aY];exact cH λr hr=>hrk r<|h r hr
 have hok':∀t:BE,(∀b o,s.heap.get? b=some o->t.heap.get? b=some o)->HOk X.prog X.w H t.heap:=λt k=>aBn I.hok (λb u _ g=>k b u g) λb hb=>(lE hb).elim
 refine aEa (κ:=tuples' false) ⟨_,eo,rfl,n,rfl⟩ (by rw[ew T λ_ h=>h];exact M.nd) (by rw[aC];exact lT) (λt kp h2 A' R E' _ hR=>?_) (λt kp x hx y hy A' R E' hA hR=>?_) λout p1 p2=>?_
 ·have ok:=hok' t kp
  have kt:∀T':List (α×BF),(∀r∈T',r∈T)->∃fs:List BD,KatTups t.heap (T'.map λr=>Value.ref r.2) fs/\fs.length=T'.length/\∀v∈fs,∃c o,v=.ref c/\t.heap.get? c=some o/\o.cls=.type "tuple":=λT'=>by
   induction T' with
   |nil=>exact λ_=>⟨[],.nil,rfl,λv hv=>(lE hv).elim⟩
   |cons r T' ih=>
    intro h;obtain⟨fs,k,l,i⟩:=ih λr hr=>h r<|aH _ hr
    have rr:=tr r<|h r aO;obtain⟨b,ys,its,e1,e2,r2,v2,o,g,c,n',hd1⟩:=hW ok rr<|rfl;cases e1;cases e2;have r2:=r2;obtain⟨w1,ys1,rfl,q1,t1⟩:=r2.uncons;obtain⟨w2,ys2,rfl,q2,t2⟩:=t1.uncons;simp only[RepL] at t2;subst t2;obtain⟨c1,rfl⟩:=aFp q1;cases v2 with
    |cons ru1 v2=>
     cases ru1;obtain⟨b1,ys1,its1,e3,e4,_,_,o1,g1,cc1,_⟩:=hW ok q1<|rfl;cases e3;refine⟨.ref c1::fs,KatTups.cons g c hd1 (by simp) k,by rw[bJ,bJ,l],λv hv=>?_⟩
     rcases bL.mp hv with rfl|hv
     ·cases e4;exact⟨_,o1,rfl,g1,cc1⟩
     ·exact i v hv
  obtain⟨fs,k,l,i⟩:=kt T λ_ h=>h
  rw[aC] at h2;refine kat_kind (T:=.type "tuple") k (by lia) (λv hv=>?_) rfl hR;obtain⟨c,o,rfl,g,e⟩:=i v hv;have:PySem.W.Looks (AG X.prog X.w) t.heap (typeOf<|.ref c) o.cls:=(PySem.W.Looks.ld g).andThen .now;rw[e] at this;exact this
 ·have ok:=hok' t kp;obtain⟨rx,hrx,rfl⟩:=mv x hx;obtain⟨ry,hry,rfl⟩:=mv y hy;obtain⟨b,ys,its,e1,e2,r2,v2,o,g,c,n',hd1⟩:=hW ok (tr rx hrx)<|rfl;cases e1;cases e2;obtain⟨b',ys',its',e1,e2,r2',v2',o',g',c',n'',hd'⟩:=hW ok (tr ry hry)<|rfl;cases e1;cases e2;have r2:=r2;have r2':=r2';have l1:its.length=2:=by rw[<-v2.length,r2.len];rfl
  have l2:its'.length=2:=by rw[<-v2'.length,r2'.len];rfl
  refine kat_lt g hd1 g' hd'<|aNb (b:=rG [.tup<|hd rx.1,sn rx.1] [.tup<|hd ry.1,sn ry.1]) ?_ ?_
  ·refine aEA ok [.tup<|hd rx.1,sn rx.1] ?_ ?_ ?_ r2 r2' v2 v2' ?_ (by simp[l1,l2])
   ·exact M.cm _ (mT hrx) _<|mT hry
   ·exact M.pl _<|mT hrx
   ·exact M.pl _<|mT hry
   ·have:=M.un;have:=M.dp _<|mT hrx;lia
  ·have e:rG [.tup<|hd rx.1,sn rx.1] [.tup<|hd ry.1,sn ry.1]=decide (rkW (.ref rx.2)<rkW (.ref ry.2)):=by rw[hrk rx hrx,hrk ry hry];exact M.lt _ (mT hrx) _ (mT hry)
   rw[e];exact hR
 ·obtain⟨T',q1,q2⟩:=aAM p1
  have eo2:out=(T'.map λr=>Value.ref r.2).toArray:=by apply vZ.mp;rw[q2]
  rw[q2,ew T' λr hr=>q1.mem_iff.mp hr] at p2;subst eo2;obtain⟨kp,n2,g2⟩:=aId s.heap (T.map λr=>Value.ref r.2) (T'.map λr=>Value.ref r.2).toArray;have hD:=I.hok.fresh<|iL _;have lT':=q1.length_eq
  have vv:Vals (T'.map λr=>V.ref r.2) (T'.map λr=>Value.ref r.2):=by
   generalize T'=U
   induction U with
   |nil=>exact .nil
   |cons r U ih=>exact .cons rfl ih
  have I3:Inv X za σ (upd H (s.heap.objs.size+1) (.lst<|T'.map λr=>V.ref r.2)) {s with heap:=sortedAll s.heap (T.map λr=>Value.ref r.2) (T'.map λr=>Value.ref r.2).toArray}:=
   I.laid kp (iL _) ⟨by rw[At,aC];lia,_,n2,vv,by simpa[Am] using g2⟩
  refine⟨.ref<|s.heap.objs.size+1,_,I3,rfl,q _ (T'.map λr=>V.ref r.2) (T'.map λr=>r.1) hD (q1.map _) p2 λF rF=>?_⟩
  have all:∀ {U:List (α×BF)},RepL X.K F ((U.map λr=>r.1).map<|srE hd sn) (U.map λr=>V.ref r.2)->∀r∈U,Rep X.K F ((srE hd sn) r.1) (.ref r.2):=λ{U}=>by
   induction U with
   |nil=>exact λ_ r hr=>(lE hr).elim
   |cons y U ih=>
    intro h r hr;rw[cA,cA,cA] at h;obtain⟨v,vs,e,a1,a2⟩:=h.uncons;cases e
    rcases bL.mp hr with rfl|hr
    ·exact a1
    ·exact ih a2 r hr
  have aT:=all rF;have rT:=λr hr=>aT r<|q1.mem_iff.mp hr
  clear vv I3 g2 p2 q1 q2 p1 lT' kp
  induction T' with
  |nil=>exact .nil
  |cons r U ih=>exact .cons (rT r aO) (ih λq hq=>rT q<|aH _ hq)
theorem SrtP.gen(M:SrtP A ps rk):aSw A K (fun x:Pr2=>x.1.map D.int) (fun x=>cB x.2) ps rk:=⟨M.len,M.lt,M.nd,M.un,fun x _=>aRw x,fun x _ y _=>aQc x y,fun x _=>by
 have:=aPi x;have:lN [cB x.1,cB x.2]+1=2:=this;show lN [cB x.1,cB x.2]<=4
 lia,λF x y v h1 h2=>aDw h1 h2⟩
def aDP:lA X (.builtin "sorted") (fun vs H Q=>∃ (a:BF) (xs:List V) (ps:List Pr2) (rk:Pr2→Nat),vs=[.ref a]∧H a=some (.lst xs)∧RepL X.K H (ps.map p2D) xs∧SrtP X.A ps rk∧
  ∀ (D:BF) (ys:List V) (qs:List Pr2),H D=none->qs.Perm ps->(qs.map rk).Pairwise (·<·)->(∀F,RepL X.K F (ps.map p2D) xs->RepL X.K F (qs.map p2D) ys)->Q (.ref D) (upd H D (.lst ys))):=by
 intro za s σ H vs us Q I r h;obtain⟨a,xs,ps,rk,h1,h2,h3,M,q⟩:=h;exact aDB za s σ H vs us Q I r ⟨a,xs,ps,rk,h1,h2,h3,M.gen,q⟩
variable {k:List Key}{E:gX}{ps:List Pr2}{rk:Pr2->Nat}
theorem aIU(i j n:Nat){px py ap:Pos}(hu:X.A.units+1<AR)(hg:Gl X "sorted")(hm:X.mg "sorted"=none)(hs:sd[i]? =some (odG X.prog X.w X.K l ks ls dss))(hx:PE X (.Name x px) (iQ i))(hb:PEd X sd b (.val (.tup<|k.map kD)))(hk:ks[n]? =some k)(hd:dss[n]? =some (ps.map p2D))(M:SrtP X.A ps rk)(hN:X.N.Nodup) (hj:X.N[j]? =some y) (hy:Loc X.env.scope y)(hE:∀ (l':BF) (qs:List Pr2),qs.Perm ps->(qs.map rk).Pairwise (·<·)->E.nx ((sd.set i (odG X.prog X.w X.K l (ks.eraseIdx n) (ls.eraseIdx n)<|dss.eraseIdx n)).set j (.own l'<|qs.map p2D)))(hpop:PE X (.Call (.Attribute (.Name x px) "pop" ap) [b] [] cp) (λσ H Q=>iQ i σ H λv H1=>(∃l ob,v=.ref l/\H1 l=some (exO l ob)/\ob.ExactDict)/\(qC (wE X b) aHw) σ H1 λxs H2=>aRT X v xs H2 Q):=by exact aOm aAR aBR PySem.F.type_dict_pop aPI (pv _) (cO eO pa_nil))(hst:AB [.Call (.Attribute (.Name x px) "pop" ap) [b] [] cp] X.env=(false,eval (.Call (.Attribute (.Name x px) "pop" ap) [b] [] cp) X.env)::AB [] X.env:=by rfl)(hsw:Ab (.Call (.Name "sorted" p) [.Call (.Attribute (.Name x px) "pop" ap) [b] [] cp] [] p2) (some<|.Name y py) pos.line X.env=pure false:=by rfl)(hf:X.fn y=true\/X.env.scope.names.lookup y=some .local:=by first|exact .inl rfl|exact .inr rfl|assumption):PSd1 X sd (.Assign [.Name y py] (.Call (.Name "sorted" p) [.Call (.Attribute (.Name x px) "pop" ap) [b] [] cp] [] p2) pos) E:=.mk λσ F H S=>
 (rP hN hj hy (oK aDP hg hm boot_sorted (cO hpop pa_nil hst) (by decide) (by decide) hst rfl) hsw hf).to (by
  obtain⟨h1,h2,⟨o,h3,nc,hk2,td⟩,h4,h5⟩:=iO S hs;refine⟨.ref l,h1,⟨l,o,rfl,h3,td.2.2.choose_spec.2.choose_spec.choose_spec.1⟩,(hb σ F H S).imp λv1 H1 ⟨F1,S1,s1,q1⟩=>?_⟩;obtain⟨g1,g2,⟨o2,g3,nc2,hk3,td2⟩,g4,g5⟩:=iO S1 hs;obtain⟨n1,n2⟩:=bY.mp g5;obtain⟨ad,ys,rfl,ha,rl⟩:=q1;rw[pS rl] at ha;have nl:n<ls.length:=by have:=(aF.mp hk).1;lia
  have e3:ls[n]? =some ls[n]:=by simp[nl]
  generalize ls[n]=an at e3;obtain⟨ds,xs,d1,d2,d3⟩:=g4.get e3;rw[hd] at d1;cases d1;have anl:an≠l:=λz=>n1<|z▸bC e3
  have zg:(ks.zip<|ls.map V.ref)[n]? =some (k,V.ref an):=by rw[aAT];exact⟨hk,by rw[bE,e3];rfl⟩
  refine⟨F1,l,ad,k,.ref an,n,o2,ks.zip<|ls.map V.ref,rfl,rfl,S1.sub,g3,ha,hu,td2,zg,λo' nc' td'=>?_⟩;have S2:=S1.popG n hs nc' td';refine⟨an,xs,ps,rk,rfl,by rw[aW anl];exact d2,d3.mono S2.sub,M,λD ys qs hD pm pw hr=>?_⟩;obtain⟨S3,fp,no⟩:=S2.layO hD
  exact⟨_,F1,S3.setO j fp bH (hr F1 d3) no,s1,hE D qs pm pw⟩)
def InD.snocL{a:BF}{xs:List V}:∀ {as:List BF}{dss:List (List D)},InD K F H as dss->H a=some (.lst xs)->RepL K F ds xs->InD K F H (as++[a]) (dss++[ds])
 |[],[],_,e,r=>⟨⟨xs,e,r⟩,trivial⟩
 |[],_::_,h,_,_=>h.elim
 |_::_,[],h,_,_=>h.elim
 |_::_,_::_,h,e,r=>⟨h.1,InD.snocL h.2 e r⟩
def StF.newW{a:BF}{xs:List V}(S:StF K H₀ F H σ sd)(hs:sd[i]? =some (odG P w K l ks ls dss))(fa:F a=none)(ha:H a=some (.lst xs))(rl:RepL K F ds xs)(na:a∉cS sd)(nc:∀v,o.data≠ .cell v)(td:TDo P w F l o (ks.zip (ls.map V.ref)++[(k,.ref a)])):StF K H₀ F (upd H l<|exO l o) σ (sd.set i (odG P w K l (ks++[k]) (ls++[a])<|dss++[ds])):=by
 obtain⟨g1,g2,⟨o',g3,nc',hl,_⟩,g4,g5⟩:=iO S hs;obtain⟨n1,n2⟩:=bY.mp g5;have ml:∀b∈l::ls,b∈cS sd:=λb hb=>aHb hs hb
 have al:a≠l:=λz=>na<|z▸ml l aO
 have als:=λz=>na (ml a<|aH _ z)
 have sp:∀b,b∈l::(ls++[a])->b∈l::ls\/b=a:=λb hb=>by
  rcases bL.mp hb with h|h
  ·exact .inl<|h▸aO
  ·rcases aV.mp h with h|h
   ·exact .inl<|aH _ h
   ·exact .inr<|aK.mp h
 refine S.reX hs g1 (λb ob hb q=>?_) (oI S.smp l) (zA (λb hb=>?_) bH nc (by rw[aP,aP,hl];rfl) ?_ ?_) ?_ λb hb=>?_
 ·rw[aW (show b≠l from λz=>hb<|z▸aO)];exact q
 ·rcases sp b hb with h|rfl
  ·exact g2 b h
  ·exact fa
 ·rw[aX,cA,gB,vD<|by rw[aC];exact hl];exact td
 ·refine InD.snocL (g4.mono2 (Same.refl _) λb hb ob q=>?_) ?_ rl
  ·rw[aW (show b≠l from λz=>n1<|z▸hb)];exact q
  ·rw[aW al];exact ha
 ·refine bY.mpr ⟨λh=>?_,bK.mpr ⟨n2,by simp,λb hb c hc e=>als<|aK.mp hc▸e▸hb⟩⟩
  rcases aV.mp h with h|h
  ·exact n1 h
  ·exact al (aK.mp h).symm
 ·rcases sp b hb with h|rfl
  ·exact .inl h
  ·exact .inr na
theorem aJm(i:Nat){c c':Int}(hu:X.A.units+1<AR)(hs:sd[i]? =some (odG X.prog X.w X.K l ks ls dss))(hx:PE X (.Name x p) (iQ i))(h:PEd X sd e (.own ds))(hk:([Sum.inl c,Sum.inl c']:List Key)∉ks)(hl:dss.length<=10000)(hE:∀a,E.nx<|sd.set i (odG X.prog X.w X.K l (ks++[[Sum.inl c,Sum.inl c']]) (ls++[a])<|dss++[ds]))(hb:PE X (.Tuple [.Constant (.int c) j1 q1, .Constant (.int c') j2 q2] x1 tp) (aSe (qC (tC<|.int c)<|qC (tC<|.int c') aHw)):=by exact aEy (cO pe_int<|cO pe_int pa_nil))(hsw:Ab e (some<|.Subscript (.Name x p) (.Tuple [.Constant (.int c) j1 q1, .Constant (.int c') j2 q2] x1 tp) p2) pos.line X.env=pure false:=by rfl):PSd1 X sd (.Assign [.Subscript (.Name x p) (.Tuple [.Constant (.int c) j1 q1, .Constant (.int c') j2 q2] x1 tp) p2] e pos) E:=.mk λσ F H S za s I=>by
 refine wpAny_Assign_Subscript (thn (h σ F H S za s I) λr s1 ⟨v,H1,I1,rv,F1,S1,sF1,q1⟩=>?_) hsw;obtain⟨a,xs,rfl,fa,ha,rl,na⟩:=q1;obtain rfl:r=Value.ref a:=rv;obtain⟨h1,_⟩:=iO S1 hs;refine thn (hx za s1 σ H1 (λv H2=>v=.ref l/\H2=H1) I1 ⟨.ref l,h1,rfl,rfl⟩) λu s2 ⟨y,H2,I2,ry,e1,e2⟩=>?_
 subst e1 e2;obtain rfl:u=Value.ref l:=ry;refine thn (hb za s2 σ H2 (λv H3=>∃ad,v=.ref ad/\H2 ad=none/\H3=upd H2 ad (.tup [.int c,.int c'])) I2 ⟨by show 2<=AJ;decide,λad had=>⟨ad,rfl,had,rfl⟩⟩) λiv s3 ⟨y,H3,I3,ry,ad,e1,fad,e3⟩=>?_
 subst e1 e3;obtain rfl:iv=Value.ref ad:=ry;obtain⟨S3,sF3⟩:=S1.lay (o:=.tup [.int c,.int c']) fad trivial;have ada:a≠ad:=λz=>by rw[z,fad] at ha;cases ha
 have fa3:upd F1 ad (.tup [.int c,.int c']) a=none:=by rw[aW ada];exact fa
 have ha3:upd H2 ad (.tup [.int c,.int c']) a=some (.lst xs):=by rw[aW ada];exact ha
 obtain⟨g1,g2,⟨o,g3,nc,hkl,z,hm,ts,kt,es,ep,t1,t2,t3,t4⟩,g4,g5⟩:=iO S3 hs;have had:upd F1 ad (.tup [.int c,.int c']) ad=some (.tup<|([Sum.inl c,Sum.inl c']).map kV):=bH;have ho:=(I3.hok l _ g3).1;have ktH:=kt.keeps λb ys e=>S3.sub _ _ e
 have dd:s3.heap.DictOfH (Ak<|fA X.prog X.w) l ts:=⟨o,es,ep,ho,t1,t2,t3,KT.all I3.hok ktH,t4⟩;have hz:ts.length<=AJ:=by rw[<-Paired.length kt];exact z
 have zl:(ks.zip<|ls.map V.ref).length=dss.length:=by rw[mD,aC,<-hkl,qH,hkl,g4.len]
 have vn:jG (ks.zip<|ls.map V.ref) [Sum.inl c,Sum.inl c']=none:=aAp hk λ_ z=>z
 have hl2:(tX (ks.zip<|ls.map V.ref) [Sum.inl c,Sum.inl c']<|.ref a).length<=AJ:=by rw[tH _ vn,aP,zl];have:=eY hl;show dss.length+1<=AJ;omega
 refine wpAny_setItem_heap (hsz:=hz) (Af hu) (nJ I3.hok<|S3.sub _ _ had) dd λh' dd' hsm=>?_
 obtain⟨q,es',ep',hq,u2,u3,u4,_,u5⟩:=dd';have I4:=qK (t':=s3.toks+(Ak<|fA X.prog X.w).draws [Sum.inl c,Sum.inl c']) I3 (by rw[g3];exact True.intro) hsm ⟨q,hq⟩<|pU hq;have kt':=kt.put [Sum.inl c,Sum.inl c'] had (show RelV (.ref a) (.ref a) from rfl);rw[tH _ vn] at kt' hl2;exact⟨σ,_,I4,_,_,S3.newW hs fa3 ha3 (rl.mono sF3) na (λv z=>by rw[u3] at z;cases z) ⟨hl2,hm,_,kt',es',ep',u2,u3,u4,u5⟩,sF1.trans sF3,hE a⟩
def rkK(r:Int×Int):List Key:=[Sum.inl r.1,Sum.inl r.2]
def aLT{a b:Int×Int}(h:rkK a=rkK b):a=b:=by
 injection h with h1 h2
 injection h2 with h2 _
 injection h1 with h1
 injection h2 with h2
 exact Prod.ext h1 h2
abbrev WtT:=List<|(Int×Int)×List Pr2
structure Wt where
 l:BF
 ls:List BF
 T:WtT
def wtK(T:WtT):List (List Key):=T.map λt=>rkK t.1
def wtD(T:WtT):List (List D):=T.map λt=>t.2.map p2D
def wtS(P:AD)(w:AL)(K:aB)(a:Wt):Slot:=odG P w K a.l (wtK a.T) a.ls<|wtD a.T
noncomputable def wtL(P:AD)(w:AL)(K:aB):Lent K:=⟨Wt,Wt.l,λa=>a.l::a.ls,λa=>Gg P w K a.l (wtK a.T) a.ls<|wtD a.T,λh=>h.1⟩
def aHX(P:AD)(w:AL)(K:aB)(a:Wt)(v:V)(F H:Hp)(b:BF)(o:HO)(h:(wtL P w K).G a v F H)(hb:b∈(wtL P w K).own a)(e:H b=some o):¬ nL o:=by
 obtain⟨_,⟨ob,g,_⟩,hI⟩:=h
 rcases bL.mp (hb) with rfl|hb
 ·rw[g] at e;cases e;exact λz=>z
 ·obtain⟨xs,g2⟩:=InD.of hI b hb;rw[g2] at e;cases e;exact λz=>z
noncomputable def kM:WtT->Int×Int->Pr2->WtT
 |[],r,x=>[(r,[x])]
 |t::T,r,x=>if t.1=r then(t.1,t.2++[x])::T else t::kM T r x
theorem yS{r:Int×Int}(x:Pr2):∀ {T:WtT},rkK r∉wtK T->kM T r x=T++[(r,[x])]
 |[],_=>rfl
 |t::T,h=>by
  have h1:t.1≠r:=λe=>h (by unfold wtK;rw[cA,e];exact aO)
  show(if t.1=r then _ else t::kM T r x)=_;rw[zr h1,yS x λz=>h<|aH _ z];rfl
theorem xZ{r:Int×Int}(x:Pr2):∀ {T:WtT}{n:Nat}{ds:List D},(wtK T).Nodup->(wtK T)[n]? =some (rkK r)->(wtD T)[n]? =some ds->wtK (kM T r x)=wtK T/\wtD (kM T r x)=(wtD T).set n (ds++[p2D x])
 |[],n,ds,_,h,_=>by simp[wtK] at h
 |t::T,0,ds,nd,h,hd=>by
  have e:=aLT (by simpa[wtK] using h);have e2:=by simpa[wtD] using hd
  have ea:kM (t::T) r x=(t.1,t.2++[x])::T:=zt e;rw[ea];refine⟨rfl,?_⟩;show((t.2++[x]).map p2D)::wtD T=((t.2.map p2D)::wtD T).set 0 _;rw[aX,e2];rfl
 |t::T,n+1,ds,nd,h,hd=>by
  have nd':=bY.mp (show(rkK t.1::wtK T).Nodup from nd);have h':(wtK T)[n]? =some (rkK r):=by simpa[wtK] using h
  have hd':(wtD T)[n]? =some ds:=by simpa[wtD] using hd
  have ne:t.1≠r:=λe=>nd'.1<|e▸bC h'
  have ea:kM (t::T) r x=t::kM T r x:=zr ne;obtain⟨k1,k2⟩:=xZ x nd'.2 h' hd';rw[ea];refine⟨by show rkK t.1::wtK (kM T r x)=rkK t.1::wtK T;rw[k1],?_⟩;show t.2.map p2D::wtD (kM T r x)=(t.2.map p2D::wtD T).set (n+1) _;rw[k2];rfl
def aNj{r:Int×Int}(x:Pr2)(nd:(wtK T).Nodup):(wtK<|kM T r x).Nodup:=by
 by_cases h:rkK r∈wtK T
 ·obtain⟨n,hn⟩:=eL h
  have ln:=by have:=(aF.mp hn).1;simpa[wtK] using this
  obtain⟨ds,hd⟩:∃ds,(wtD T)[n]? =some ds:=⟨_,by unfold wtD;rw[bE,fC ln];rfl⟩;rw[(xZ x nd hn hd).1];exact nd
 ·rw[yS x h];unfold wtK;rw[aX];refine bK.mpr ⟨nd,by simp,λa ha b hb e=>h ?_⟩;have q:=by simpa using hb
  rw[<-q,<-e];exact ha
def tot(T:WtT):Nat:=(T.map λt=>t.2.length+1).sum
theorem aFg(r:Int×Int)(x:Pr2):∀T:WtT,tot (kM T r x)<=tot T+2
 |[]=>by simp[tot,kM]
 |t::T=>by
  have ih:=aFg r x T;show tot (if t.1=r then(t.1,t.2++[x])::T else t::kM T r x)<=_
  split
  ·simp[tot];lia
  ·simp[tot] at ih ⊢;lia
theorem aNo(T:WtT):T.length<=tot T:=by
 induction T with
 |nil=>exact aQ _
 |cons t T ih=>simp[tot] at ih ⊢;lia
theorem aLW:∀ds∈wtD T,ds.length<=tot T:=by
 induction T with
 |nil=>exact λds h=>(lE h).elim
 |cons t T ih=>
  intro ds h
  rcases bL.mp (h) with rfl|h
  ·simp[tot];lia
  ·have:=ih ds h;simp[tot] at this ⊢;lia
noncomputable def nP(x:List Nat×List Nat):Pr2:=(x.1.map λ(i:Nat)=>(i:Int),x.2.map λ(i:Nat)=>(i:Int))
def aQK(x:List Nat×List Nat):p2D (nP x)=.tup [.tup<|bA x.1,.tup<|bA x.2]:=by unfold p2D nP cB bA;rw[aY,aY];rfl
def lgQ(p:Int×Int)(L:List SK)(b:Int)(r:Int×Int)(row nb:List Nat):Nat->WtT->WtT
 |0,T=>T
 |t+1,T=>if r.1+(L.getD t AS).2<=b then kM (lgQ p L b r row nb t T) (r.1+(L.getD t AS).2,r.2+1) (nP (row++[t],jI (jZ p (L.getD t AS).1) nb)) else lgQ p L b r row nb t T
theorem aHF{p:Int×Int}{b:Int}{r:Int×Int}{row nb:List Nat}(nd:(wtK T).Nodup):∀t,(wtK<|lgQ p L b r row nb t T).Nodup
 |0=>nd
 |t+1=>by
  unfold lgQ
  split
  ·exact aNj _<|aHF nd t
  ·exact aHF nd t
theorem aJB{p:Int×Int}{b:Int}{r:Int×Int}{row nb:List Nat}:∀t,tot (lgQ p L b r row nb t T)<=tot T+2*t
 |0=>aQ _
 |t+1=>by
  have ih:=aJB (p:=p) (L:=L) (b:=b) (r:=r) (row:=row) (nb:=nb) (T:=T) t;unfold lgQ
  split
  ·have:=aFg (r.1+(L.getD t AS).2,r.2+1) (nP (row++[t],jI (jZ p (L.getD t AS).1) nb))<|lgQ p L b r row nb t T;lia
  ·lia
def aQA(a:Wt)(ds:List D)(post:Wt->Prop):Prop:=∃p L b r row nb,p∈bX/\L.length<=100/\NOk p nb/\row.length<=400/\(wtK a.T).Nodup/\tot a.T+2*L.length<=9000/\ds=[.lst (L.map<|mvD p),.int b,.tup [.int r.1,.int r.2],.tup<|bA row,.tup<|bA nb]/\post=λa'=>a'.l=a.l/\a'.T=lgQ p L b r row nb L.length a.T
def unP(y:Pr2):List Nat×List Nat:=(y.1.map sC,y.2.map sC)
def aEz(x:List Nat×List Nat):unP (nP x)=x:=by
 have g:∀l:List Nat,(l.map λ(i:Nat)=>(i:Int)).map sC=l:=λl=>by rw[aY];exact(cH λi _=>eD i).trans<|kE l
 exact Prod.ext (g x.1)<|g x.2
structure FdS where
 T:WtT
 kn:List (List Nat)
 fd:List (Int×List Nat×List Nat)
def fdI(p:Int×Int)(L:List SK)(b:Int)(r:Int×Int)(S:FdS)(x:List Nat×List Nat):FdS:=if x.2∈S.kn then S else⟨lgQ p L b r x.1 x.2 L.length S.T,S.kn++[x.2],S.fd++[(r.1,x.1,x.2)]⟩
def fdP(p:Int×Int)(L:List SK)(b:Int)(r:Int×Int)(S:FdS)(xs:List Pr2):FdS:=xs.foldl (λS y=>fdI p L b r S<|unP y) S
def yN(p:Int×Int)(L:List SK)(b:Int)(r:Int×Int)(S:FdS)(xs:List Pr2)(y:Pr2):fdP p L b r S (xs++[y])=fdI p L b r (fdP p L b r S xs) (unP y):=by unfold fdP;rw[eC];rfl
structure aQG(S:FdS):Prop where
 nk:(wtK S.T).Nodup
 kn:S.kn=S.fd.map λe=>e.2.2
 nd:S.kn.Nodup
set_option tactic.hygienic true in
def aPQ{p:Int×Int}{b:Int}{r:Int×Int}(h:aQG S)(x:List Nat×List Nat):aQG (fdI p L b r S x):=by
 unfold fdI
 split
 ·exact h
 ·rename_i q;refine⟨aHF h.nk _,?_,bK.mpr ⟨h.nd,by simp,λa ha c hc e=>q ?_⟩⟩
  ·rw[aX,<-h.kn];rfl
  ·have hc:=by simpa using hc
   rw[<-hc,<-e];exact ha
def rlt(r s:Int×Int):Prop:=r.1<s.1\/(r.1=s.1/\r.2<s.2)
instance (r s:Int×Int):Decidable (rlt r s):=inferInstanceAs (Decidable<|_\/_)
def rkD(r:Int×Int):D:=.tup [.int r.1,.int r.2]
def aJQ(r s:Int×Int):dlt (rkD r) (rkD s)=decide (rlt r s):=by
 have e:dlt (rkD r) (rkD s)=(if deq (.int r.1) (.int s.1)=true then(if deq (.int r.2) (.int s.2)=true then false else decide (r.2<s.2)) else decide (r.1<s.1)):=rfl;have d:∀a b,deq (.int a) (.int b)=decide (a=b):=λa b=>rfl
 rw[e,d,d];unfold rlt
 by_cases h1:r.1=s.1
 ·by_cases h2:r.2=s.2
  ·simp[h1,h2]
  ·simp[h1,h2]
 ·simp[h1]
theorem wU(bt:Nat->Nat->Bool):∀k,Ae bt k<=k
 |0=>aQ _
 |k+1=>by
  show(if bt (k+1) (Ae bt k)=true then k+1 else Ae bt k)<=k+1
  split
  ·exact aQ _
  ·exact Nat.le_succ_of_le<|wU bt k
theorem yL(rs:List (Int×Int)):∀k,k<rs.length->∀j,j<=k->¬ rlt (rs.getD j (0,0)) (rs.getD (Ae (λi k=>decide (rlt (rs.getD i (0,0))<|rs.getD k (0,0))) k) (0,0))
 |0,_,j,hj=>by
  have:j=0:=by lia
  subst this;show ¬ rlt _ (rs.getD 0 (0,0));unfold rlt;lia
 |k+1,hk,j,hj=>by
  have ih:=yL rs k (by lia);generalize hb:Ae (λi k=>decide (rlt (rs.getD i (0,0))<|rs.getD k (0,0))) k=bk at ih
  have e:Ae (λi k=>decide (rlt (rs.getD i (0,0))<|rs.getD k (0,0))) (k+1)=if decide (rlt (rs.getD (k+1) (0,0))<|rs.getD bk (0,0))=true then k+1 else bk:=by rw[<-hb];rfl
  rw[e]
  by_cases q:rlt (rs.getD (k+1) (0,0)) (rs.getD bk (0,0))
  ·rw[zt<|decide_eq_true q]
   by_cases hjk:j=k+1
   ·subst hjk;unfold rlt;lia
   ·have:=ih j (by lia);unfold rlt at *;lia
  ·rw[zr<|by rw[decide_eq_false q];decide]
   by_cases hjk:j=k+1
   ·subst hjk;exact q
   ·exact ih j<|by lia
theorem rX:∀k,(∀i j,i<=k->j<=k->bt i j=bt' i j)->Ae bt k=Ae bt' k
 |0,_=>rfl
 |k+1,h=>by
  have ih:=rX k λi j hi hj=>h i j (by lia)<|by lia
  show(if bt (k+1) (Ae bt k)=true then k+1 else Ae bt k)=(if bt' (k+1) (Ae bt' k)=true then k+1 else Ae bt' k);have:=wU bt' k;rw[ih,h (k+1) (Ae bt' k) (aQ _)<|by lia]
theorem aPq(hu:X.A.units+4<AR){T:WtT}(hne:T≠[]):aLr X ((wtK T).map pM)/\∃t:(Int×Int)×List Pr2,T[lQ<|(wtK T).map pM]? =some t/\((wtK T).map pM)[lQ<|(wtK T).map pM]? =some (rkD t.1)/\(wtK T)[lQ<|(wtK T).map pM]? =some (rkK t.1)/\(wtD T)[lQ<|(wtK T).map pM]? =some (t.2.map p2D)/\∀s∈T,¬ rlt s.1 t.1:=by
 have l0:=jN.mpr hne
 have em:(wtK T).map pM=T.map λt=>rkD t.1:=by unfold wtK;rw[aY];rfl
 have ln:((wtK T).map pM).length=T.length:=by rw[em,aC]
 have mem:∀d∈(wtK T).map pM,∃r,d=rkD r:=λd hd=>by rw[em] at hd;obtain⟨t,_,rfl⟩:=aS.mp hd;exact⟨t.1,rfl⟩
 have gd:∀i,i<T.length->((wtK T).map pM).getD i .non=rkD ((T.map (·.1)).getD i (0,0)):=λi hi=>by rw[em];simp[bV,hi]
 have eb:lQ ((wtK T).map pM)=Ae (λi k=>decide (rlt ((T.map (·.1)).getD i (0,0)) ((T.map (·.1)).getD k (0,0)))) (T.length-1):=by unfold lQ;rw[ln];exact rX _ λi j hi hj=>by rw[gd i<|by lia,gd j<|by lia,aJQ]
 have bl:=wU (λi k=>decide (rlt ((T.map (·.1)).getD i (0,0)) ((T.map (·.1)).getD k (0,0))))<|T.length-1;have bm:=yL (T.map (·.1)) (T.length-1) (by rw[aC];lia);rw[<-eb] at bl bm;generalize lQ ((wtK T).map pM)=n at bl bm;have hn:n<T.length:=by lia
 have hT:=fC hn;refine⟨⟨by rw[ln];exact l0,λd hd d2 hd2=>?_,λd hd=>?_,λd hd=>?_⟩,T[n],hT,?_,?_,?_,λs hs=>?_⟩
 ·obtain⟨r,rfl⟩:=mem d hd;obtain⟨r2,rfl⟩:=mem d2 hd2;rfl
 ·obtain⟨r,rfl⟩:=mem d hd;rfl
 ·obtain⟨r,rfl⟩:=mem d hd;show X.A.units+1+1<AR;lia
 ·rw[em,bE,hT];rfl
 ·unfold wtK;rw[bE,hT];rfl
 ·unfold wtD;rw[bE,hT];rfl
 ·obtain⟨j,hj⟩:=eL hs;have lj:=(aF.mp hj).1;have:=bm j (by lia);have e1:(T.map (·.1)).getD j (0,0)=s.1:=by simp[bV,hj]
  have e2:(T.map (·.1)).getD n (0,0)=T[n].1:=by simp[bV,hn]
  rw[e1,e2] at this;exact this
noncomputable def llt:List Int->List Int->Bool
 |[],[]=>false
 |[],_::_=>true
 |_::_,[]=>false
 |x::a,y::b=>if x=y then llt a b else decide (x<y)
theorem aLo:∀a b:List Int,rG (a.map D.int) (b.map D.int)=llt a b
 |[],[]=>rfl
 |[],_::_=>rfl
 |_::_,[]=>rfl
 |x::a,y::b=>by
  have e:rG ((x::a).map D.int) ((y::b).map D.int)=if decide (x=y)=true then rG (a.map D.int) (b.map D.int) else decide (x<y):=rfl
  rw[e,aLo a b];show _=if x=y then llt a b else decide (x<y)
  by_cases h:x=y
  ·rw[zt<|decide_eq_true h,zt h]
  ·rw[zr (by rw[decide_eq_false h];decide),zr h]
theorem sV:∀a:List Int,llt a a=false
 |[]=>rfl
 |x::a=>by show(if x=x then llt a a else decide (x<x))=false;rw[zt rfl];exact sV a
theorem aBl:∀a b:List Int,a≠b->llt a b=true\/llt b a=true
 |[],[],h=>absurd rfl h
 |[],_::_,_=>.inl rfl
 |_::_,[],_=>.inr rfl
 |x::a,y::b,h=>by
  show(if x=y then llt a b else decide (x<y))=true\/(if y=x then llt b a else decide (y<x))=true
  by_cases e:x=y
  ·subst e;rw[zt rfl,zt rfl];exact aBl a b λz=>h (by rw[z])
  ·rw[zr e,zr λz=>e z.symm,decide_eq_true_iff,decide_eq_true_iff];lia
theorem zJ:∀a b c:List Int,llt a b=true->llt b c=true->llt a c=true
 |[],[],_,h,_=>by cases h
 |[],_::_,[],_,h=>by cases h
 |[],_::_,_::_,_,_=>rfl
 |_::_,[],_,h,_=>by cases h
 |_::_,_::_,[],_,h=>by cases h
 |x::a,y::b,z::c,h1,h2=>by
  have h1:(if x=y then llt a b else decide (x<y))=true:=h1;have h2:(if y=z then llt b c else decide (y<z))=true:=h2;show(if x=z then llt a c else decide (x<z))=true
  by_cases e1:x=y
  ·subst e1;rw[zt rfl] at h1
   by_cases e2:x=z
   ·subst e2;rw[zt rfl] at h2 ⊢;exact zJ a b c h1 h2
   ·rw[zr e2] at h2 ⊢;exact h2
  ·rw[zr e1] at h1;have h1:=of_decide_eq_true h1
   by_cases e2:y=z
   ·subst e2;rw[zr e1];exact decide_eq_true h1
   ·rw[zr e2] at h2;have h2:=of_decide_eq_true h2;rw[zr<|by lia];exact decide_eq_true<|by lia
def plt(x y:Pr2):Bool:=if x.1=y.1 then llt x.2 y.2 else llt x.1 y.1
def aOH(a b:List Int):deq (cB a) (cB b)=decide (a=b):=aCV a b
def aRv(x y:Pr2):dlt (p2D x) (p2D y)=plt x y:=by
 have e:dlt (p2D x) (p2D y)=if deq (cB x.1) (cB y.1)=true then(if deq (cB x.2) (cB y.2)=true then false else rG (x.2.map D.int) (y.2.map D.int)) else rG (x.1.map D.int) (y.1.map D.int):=rfl
 rw[e,aOH,aOH,aLo,aLo];unfold plt
 by_cases h:x.1=y.1
 ·rw[zt<|decide_eq_true h,zt h]
  by_cases h2:x.2=y.2
  ·rw[zt<|decide_eq_true h2,h2,sV]
  ·rw[zr<|by rw[decide_eq_false h2];decide]
 ·rw[zr (by rw[decide_eq_false h];decide),zr h]
def aLZ(x:Pr2):plt x x=false:=by unfold plt;rw[zt rfl];exact sV _
def aBc{x y:Pr2}(h:x≠y):plt x y=true\/plt y x=true:=by
 unfold plt
 by_cases e:x.1=y.1
 ·rw[zt e,zt e.symm];exact aBl _ _ λz=>h<|Prod.ext e z
 ·rw[zr e,zr λz=>e z.symm];exact aBl _ _ e
def aKs{x y z:Pr2}(h1:plt x y=true)(h2:plt y z=true):plt x z=true:=by
 unfold plt at *
 by_cases e1:x.1=y.1
 ·rw[zt e1] at h1
  by_cases e2:y.1=z.1
  ·rw[zt e2] at h2;rw[zt<|e1.trans e2];exact zJ _ _ _ h1 h2
  ·rw[zr e2] at h2;rw[e1,zr e2];exact h2
 ·rw[zr e1] at h1
  by_cases e2:y.1=z.1
  ·rw[<-e2,zr e1];exact h1
  ·rw[zr e2] at h2
   by_cases e3:x.1=z.1
   ·have:=zJ _ _ _ h1 h2;rw[e3,sV] at this;cases this
   ·rw[zr e3];exact zJ _ _ _ h1 h2
def rkP(ps:List Pr2)(x:Pr2):Nat:=(ps.filter λy=>plt y x).length
def yW{x y:Pr2}(hx:x∈ps)(h:plt x y=true):rkP ps x<rkP ps y:=by
 unfold rkP
 have e:ps.filter (λz=>plt z x)=(ps.filter λz=>plt z y).filter λz=>plt z x:=by
  rw[List.filter_filter];refine List.filter_congr λz _=>?_
  cases q:plt z x with
  |false=>rfl
  |true=>rw[aKs q h];rfl
 rw[e];refine List.length_filter_lt_length_iff_exists.mpr ⟨x,gS.mpr ⟨hx,h⟩,?_⟩;rw[aLZ];decide
theorem aPo(nd:ps.Nodup)(hl:ps.length<=10000)(hu:A.units+8<AR):SrtP A ps (rkP ps):=by
 have key:∀x∈ps,∀y∈ps,x≠y->rkP ps x≠rkP ps y:=λx hx y hy ne=>by
  rcases aBc ne with h|h
  ·exact bR<|yW hx h
  ·exact kP<|yW hy h
 refine⟨hl,λx hx y hy=>?_,?_,hu⟩
 ·rw[aRv];cases h:plt x y with
  |true=>exact(decide_eq_true<|yW hx h).symm
  |false=>
   refine(decide_eq_false λq=>?_).symm
   by_cases e:x=y
   ·rw[e] at q;lia
   ·rcases aBc e with z|z
    ·rw[h] at z;cases z
    ·have:=yW hy z;lia
 ·unfold List.Nodup;rw[oN];exact List.Pairwise.imp_of_mem (λ{a b} ha hb h=>key a ha b hb h) nd
def aKP(x:Pr2):List Pr2->List Pr2
 |[]=>[x]
 |y::l=>if plt x y then x::y::l else y::aKP x l
def hX:List Pr2->List Pr2
 |[]=>[]
 |x::l=>aKP x<|hX l
theorem vF(x:Pr2):∀l,(aKP x l).Perm (x::l)
 |[]=>.refl _
 |y::l=>by
  show(if plt x y then x::y::l else y::aKP x l).Perm _
  split
  ·exact .refl _
  ·exact((vF x l).cons y).trans<|.swap x y l
theorem iJ:∀l,(hX l).Perm l
 |[]=>.refl _
 |x::l=>(vF x<|hX l).trans<|(iJ l).cons x
theorem aFC{x:Pr2}:∀ {l:List Pr2},x∉l->l.Pairwise (λa b=>plt a b=true)->(aKP x l).Pairwise (λa b=>plt a b=true)
 |[],_,_=>by simp[aKP]
 |y::l,h,p=>by
  obtain⟨p1,p2⟩:=nF.mp p;show(if plt x y then x::y::l else y::aKP x l).Pairwise _
  by_cases q:plt x y=true
  ·rw[zt q];refine nF.mpr ⟨λz hz=>?_,p⟩
   rcases bL.mp hz with rfl|hz
   ·exact q
   ·exact aKs q<|p1 z hz
  ·rw[zr q];refine nF.mpr ⟨λz hz=>?_,aFC (λz=>h<|aH _ z) p2⟩
   rcases bL.mp ((vF x l).mem_iff.mp hz) with rfl|hz
   ·rcases aBc (y:=y) (λe=>h<|e▸aO) with w|w
    ·exact absurd w q
    ·exact w
   ·exact p1 z hz
theorem aBA:∀ {l:List Pr2},l.Nodup->(hX l).Pairwise (λa b=>plt a b=true)
 |[],_=>List.Pairwise.nil
 |x::l,h=>by obtain⟨h1,h2⟩:=bY.mp h;exact aFC (λz=>h1<|(iJ l).mem_iff.mp z)<|aBA h2
theorem aNi(nd:ps.Nodup)(hp:qs.Perm ps)(hs:(qs.map<|rkP ps).Pairwise (·<·)):qs=hX ps:=by refine List.Perm.eq_of_pairwise (le:=λx y=>rkP ps x<rkP ps y) (λx y _ _ h1 h2=>by lia) (by rw[oN] at hs;exact hs) ?_ (hp.trans (iJ ps).symm);exact List.Pairwise.imp_of_mem (λ{a b} ha _ h=>yW ((iJ ps).mem_iff.mp ha) h)<|aBA nd
def fJ(T:WtT):Nat:=lQ<|(wtK T).map pM
def fdT(p:Int×Int)(L:List SK)(b:Int)(S:FdS):FdS:=match S.T[fJ S.T]? with
 |none=>S
 |some t=>fdP p L b t.1 {S with T:=S.T.eraseIdx (fJ S.T)} (hX t.2)
def jH(p:Int×Int)(L:List SK)(b:Int):Nat->FdS->FdS
 |0,S=>S
 |k+1,S=>if S.T=[] then S else jH p L b k (fdT p L b S)
def inR(row:List Nat):List Int:=row.map λ(i:Nat)=>(i:Int)
def aMA{a b:List Nat}(h:inR a=inR b):a=b:=by
 have:(inR a).map sC=(inR b).map sC:=by rw[h]
 have g:∀l,(inR l).map sC=l:=λl=>by unfold inR;rw[aY];exact(cH λi _=>eD i).trans<|kE l
 rwa[g,g] at this
def rwP(y:Pr2):List Nat:=(unP y).1
def itP(p:Int×Int)(L:List SK)(row:List Nat):Pr2:=nP (row,nrQ p L row)
def sQ(p:Int×Int)(L:List SK)(row:List Nat):rwP (itP p L row)=row:=by unfold rwP itP;rw[aEz]
def aOp(p:Int×Int)(L:List SK)(row:List Nat):unP (itP p L row)=(row,nrQ p L row):=aEz _
noncomputable def rkR(L:List SK)(row:List Nat):Int×Int:=(S45.prQ (prK L) row,(row.length:Int))
def klt(L:List SK)(a c:List Nat):Prop:=rlt (rkR L a) (rkR L c)\/(rkR L a=rkR L c/\llt (inR a) (inR c)=true)
def kle(L:List SK)(a c:List Nat):Prop:=a=c\/klt L a c
theorem aPM{a b c:Int×Int}(h:rlt a b)(h2:rlt b c):rlt a c:=by unfold rlt at *;lia
theorem aLM{a b:Int×Int}(h:a≠b)(h2:¬ rlt b a):rlt a b:=by
 obtain⟨a1,a2⟩:=a;obtain⟨b1,b2⟩:=b;unfold rlt at *;have:¬ (a1=b1/\a2=b2):=λz=>h (by rw[z.1,z.2])
 lia
def aKu{a b c:List Nat}(h:klt L a b)(h2:klt L b c):klt L a c:=by
 rcases h with h|⟨e,h⟩<;>rcases h2 with h2|⟨e2,h2⟩
 ·exact .inl<|aPM h h2
 ·exact .inl<|e2▸h
 ·exact .inl<|e▸h2
 ·exact .inr ⟨e.trans e2,zJ _ _ _ h h2⟩
def aPR{a b c:List Nat}(h:kle L a b)(h2:kle L b c):kle L a c:=by
 rcases h with rfl|h
 ·exact h2
 ·rcases h2 with rfl|h2
  ·exact .inr h
  ·exact .inr<|aKu h h2
theorem aCY{x:Int}:∀ {a b:List Int},a.length=b.length->llt a b=true->llt (a++[x]) (b++[x])=true
 |[],[],_,h=>by cases h
 |[],_::_,h,_=>by cases h
 |_::_,[],h,_=>by cases h
 |u::a,v::b,hl,h=>by
  have h:(if u=v then llt a b else decide (u<v))=true:=h;show(if u=v then llt (a++[x]) (b++[x]) else decide (u<v))=true
  by_cases e:u=v
  ·rw[zt e] at h ⊢;exact aCY (by simpa using hl) h
  ·rw[zr e] at h ⊢;exact h
def qW(L:List SK)(a:List Nat)(k:Nat):rkR L (a++[k])=((rkR L a).1+prK L k,(rkR L a).2+1):=by unfold rkR;rw[S45.pr_snoc,aP];rfl
theorem aIw{a c:List Nat}(k:Nat)(h:kle L a c):kle L (a++[k]) (c++[k]):=by
 rcases h with rfl|h|⟨e,h⟩
 ·exact .inl rfl
 ·refine .inr<|.inl ?_;rw[qW,qW];unfold rlt at *;lia
 ·refine .inr (.inr ⟨by rw[qW,qW,e],?_⟩)
  have el:a.length=c.length:=by have:=congrArg Prod.snd e;have:(a.length)=(c.length:Int):=this;lia
  show llt ((a++[k]).map λ(i:Nat)=>(i)) ((c++[k]).map λ(i:Nat)=>(i))=true;rw[aX,aX];exact aCY (by rw[aC,aC];exact el) h
def wrR(T:WtT):List (List Nat):=T.flatMap λt=>t.2.map rwP
def wrR_mem:row∈wrR T↔∃t∈T,∃y∈t.2,rwP y=row:=by
 unfold wrR;rw[dZ]
 constructor
 ·rintro⟨t,ht,h⟩;obtain⟨y,hy,e⟩:=aS.mp h;exact⟨t,ht,y,hy,e⟩
 ·rintro⟨t,ht,y,hy,e⟩;exact⟨t,ht,aS.mpr ⟨y,hy,e⟩⟩
theorem aAc(r:Int×Int)(x:Pr2):∀T:WtT,(wrR<|kM T r x).Perm (rwP x::wrR T)
 |[]=>.refl _
 |t::T=>by
  show(wrR (if t.1=r then(t.1,t.2++[x])::T else t::kM T r x)).Perm _
  split
  ·show((t.2++[x]).map rwP++wrR T).Perm (rwP x::(t.2.map rwP++wrR T));rw[aX,dP];exact pJ
  ·exact((aAc r x T).append_left _).trans pJ
theorem aCy{r:Int×Int}{x:Pr2}:∀ {T:WtT}{t':(Int×Int)×List Pr2},(∀t∈T,t.2≠[])->t'∈kM T r x->t'.2≠[]/\∀y∈t'.2,(y=x/\t'.1=r)\/∃t∈T,t.1=t'.1/\y∈t.2
 |[],t',_,h=>by
  have:=by simpa[kM] using h
  subst this;exact⟨by simp,λy hy=>.inl ⟨by simpa using hy,rfl⟩⟩
 |t::T,t',hn,h=>by
  have h:t'∈(if t.1=r then(t.1,t.2++[x])::T else t::kM T r x):=h
  by_cases e:t.1=r
  ·rw[zt e] at h
   rcases bL.mp h with rfl|h
   ·refine⟨by simp,λy hy=>?_⟩
    rcases aV.mp hy with hy|hy
    ·exact .inr ⟨t,aO,rfl,hy⟩
    ·exact .inl ⟨by simpa using hy,e⟩
   ·exact⟨hn _<|aH _ h,λy hy=>.inr ⟨t',aH _ h,rfl,hy⟩⟩
  ·rw[zr e] at h
   rcases bL.mp h with rfl|h
   ·exact⟨hn _ aO,λy hy=>.inr ⟨t',aO,rfl,hy⟩⟩
   ·obtain⟨h1,h2⟩:=aCy (λz hz=>hn z<|aH _ hz) h;exact⟨h1,λy hy=>(h2 y hy).imp id λ⟨z,hz,q⟩=>⟨z,aH _ hz,q⟩⟩
variable {p:Int×Int}{L:List SK}{b:Int}{r:Int×Int}{row nb:List Nat}{T:WtT}
noncomputable def chs(L:List SK)(b:Int)(r:Int×Int)(row:List Nat)(n:Nat):List (List Nat):=((bT n).filter λk=>decide<|r.1+prK L k<=b).map λk=>row++[k]
def chs_mem{c:List Nat}:c∈chs L b r row n↔∃k,k<n/\r.1+prK L k<=b/\c=row++[k]:=by
 unfold chs;rw[aS]
 constructor
 ·rintro⟨k,hk,rfl⟩;obtain⟨h1,h2⟩:=gS.mp hk;exact⟨k,cN.mp h1,of_decide_eq_true h2,rfl⟩
 ·rintro⟨k,h1,h2,rfl⟩;exact⟨k,gS.mpr ⟨cN.mpr h1,decide_eq_true h2⟩,rfl⟩
def aQd(n:Nat):(chs L b r row n).Nodup:=by unfold chs List.Nodup;rw[oN];refine List.Pairwise.imp (λ{a c} h e=>h ?_) (List.Pairwise.filter _<|List.nodup_range);simpa using List.append_cancel_left e
theorem aFf:∀n:Nat,(wrR<|lgQ p L b r row nb n T).Perm (chs L b r row n++wrR T)
 |0=>.refl _
 |n+1=>by
  have ih:=aFf n
  have ec:chs L b r row (n+1)=chs L b r row n++(if r.1+prK L n<=b then[row++[n]] else[]):=by
   unfold chs;rw[zO];congr 1
   by_cases h:r.1+prK L n<=b
   ·simp[h]
   ·simp[h]
  rw[ec];show(wrR (if r.1+(L.getD n AS).2<=b then kM _ _ _ else _)).Perm _
  by_cases h:r.1+prK L n<=b
  ·rw[zt h,zt (show r.1+(L.getD n AS).2<=b from h)];refine(aAc _ _ _).trans ?_
   have e:rwP (nP (row++[n],jI (jZ p (L.getD n AS).1) nb))=row++[n]:=by unfold rwP;rw[aEz]
   rw[e,dP];exact(ih.cons _).trans pJ.symm
  ·rw[zr h,zr (show ¬ r.1+(L.getD n AS).2<=b from h),bG];exact ih
theorem aBU:∀ (n:Nat) {t':(Int×Int)×List Pr2},(∀t∈T,t.2≠[])->t'∈lgQ p L b r row nb n T->t'.2≠[]/\∀y∈t'.2,(∃k,k<n/\r.1+prK L k<=b/\t'.1=(r.1+prK L k,r.2+1)/\y=nP (row++[k],jI (jZ p (L.getD k AS).1) nb))\/∃t∈T,t.1=t'.1/\y∈t.2
 |0,t',hn,h=>⟨hn t' h,λy hy=>.inr ⟨t',h,rfl,hy⟩⟩
 |n+1,t',hn,h=>by
  have h:t'∈(if r.1+(L.getD n AS).2<=b then kM (lgQ p L b r row nb n T) (r.1+(L.getD n AS).2,r.2+1) (nP (row++[n],jI (jZ p (L.getD n AS).1) nb)) else lgQ p L b r row nb n T):=h;have old:∀t∈lgQ p L b r row nb n T,t.2≠[]:=λt ht=>(aBU n hn ht).1
  by_cases q:r.1+(L.getD n AS).2<=b
  ·rw[zt q] at h;obtain⟨h1,h2⟩:=aCy old h;refine⟨h1,λy hy=>?_⟩
   rcases h2 y hy with⟨e1,e2⟩|⟨t,ht,e,hy2⟩
   ·exact .inl ⟨n,by omega,q,e2,e1⟩
   ·rcases(aBU n hn ht).2 y hy2 with⟨k,k1,k2,k3,k4⟩|⟨s,s1,s2,s3⟩
    ·exact .inl ⟨k,by lia,k2,e▸k3,k4⟩
    ·exact .inr ⟨s,s1,s2.trans e,s3⟩
  ·rw[zr q] at h;obtain⟨h1,h2⟩:=aBU n hn h;exact⟨h1,λy hy=>(h2 y hy).imp (λ⟨k,k1,k2⟩=>⟨k,by lia,k2⟩) id⟩
theorem aJI:∀ {T:WtT},(∀t∈T,t.2≠[])->tot T<=2*(wrR T).length
 |[],_=>aQ _
 |t::T,h=>by
  have ih:=aJI λz hz=>h z<|aH _ hz
  have h1:=jN.mpr<|h t aO;have e1:tot (t::T)=(t.2.length+1)+tot T:=by simp[tot]
  have e2:(wrR (t::T)).length=t.2.length+(wrR T).length:=by show(t.2.map rwP++wrR T).length=_;rw[aP,aC]
  lia
def Cov(p:Int×Int)(L:List SK)(S:FdS)(rest:List Pr2)(row:List Nat):Prop:=row∈wrR S.T\/row∈rest.map rwP\/∃e∈S.fd,e.2.2=nrQ p L row/\kle L e.2.1 row
structure Wk(p:Int×Int)(L:List SK)(b:Int)(dn:List (List Nat))(r:Int×Int)(rest:List Pr2)(S:FdS):Prop where
 ok:aQG S
 ne:∀t∈S.T,t.2≠[]
 wt:∀t∈S.T,∀y∈t.2,∃row,y=itP p L row/\RowOk L row/\t.1=rkR L row/\t.1.1<=b
 rs:∀y∈rest,∃row,y=itP p L row/\RowOk L row/\r=rkR L row/\r.1<=b
 up:rest.Pairwise λx y=>plt x y=true
 gt:rest≠[]->∀t∈S.T,rlt r t.1
 nd:(dn++rest.map rwP++wrR S.T).Nodup
 fd:∀e∈S.fd,e.2.1∈dn/\RowOk L e.2.1/\e.1=S45.prQ (prK L) e.2.1/\e.1<=b/\e.2.2=nrQ p L e.2.1
 par:∀row,row∈dn++rest.map rwP++wrR S.T->row=[]\/∃q k,row=q++[k]/\q∈S.fd.map λe=>e.2.1
 du:∀row∈dn,RowOk L row/\S45.prQ (prK L) row<=b
 srt:(S.fd.map λe=>e.2.1).Pairwise (klt L)
 lt1:∀e∈S.fd,∀y∈rest,klt L e.2.1<|rwP y
 lt2:∀e∈S.fd,∀row∈wrR S.T,klt L e.2.1 row
 cl:∀e∈S.fd,∀k,k<L.length->e.1+prK L k<=b->Cov p L S rest (e.2.1++[k])
 st:0<=b->Cov p L S rest []
variable {dn:List (List Nat)}{rest:List Pr2}{S:FdS}{U:List (List Nat)}
noncomputable def aLa(n:Nat)(fd:List (List Nat)):List (List Nat):=[]::fd.flatMap λq=>(bT n).map λk=>q++[k]
theorem aHZ(n:Nat)(fd:List (List Nat)):(aLa n fd).length=1+fd.length*n:=by
 unfold aLa;rw[bJ,List.length_flatMap];have:(fd.map λq=>((bT n).map λk=>q++[k]).length)=fd.map λ_=>n:=cH λq _=>by rw[aC,fZ]
 rw[this,List.map_const',List.sum_replicate_nat];lia
def Wk.okR(W:Wk p L b dn r rest S):∀row∈dn++rest.map rwP++wrR S.T,RowOk L row/\S45.prQ (prK L) row<=b:=λrow h=>by
 rcases aV.mp h with h|h
 ·rcases aV.mp h with h|h
  ·exact W.du row h
  ·obtain⟨y,hy,e⟩:=aS.mp h;obtain⟨q,rfl,q2,q3,q4⟩:=W.rs y hy;rw[sQ] at e;subst e;exact⟨q2,by rw[q3] at q4;exact q4⟩
 ·obtain⟨t,ht,y,hy,e⟩:=wrR_mem.mp h;obtain⟨q,rfl,q2,q3,q4⟩:=W.wt t ht y hy;rw[sQ] at e;subst e;exact⟨q2,by rw[q3] at q4;exact q4⟩
def Wk.few2(W:Wk p L b dn r rest S):dn.length+rest.length+(wrR S.T).length<=1+S.fd.length*L.length:=by
 have:=W.nd.length_le_of_subset (l₂:=aLa L.length<|S.fd.map λe=>e.2.1) λrow h=>by
  rcases W.par row h with rfl|⟨q,k,rfl,hq⟩
  ·exact aO ..
  ·refine aH _<|dZ.mpr ⟨q,hq,aS.mpr ⟨k,cN.mpr ?_,rfl⟩⟩;exact(W.okR _ h).1 k<|by simp
 rw[aHZ,aP,aP,aC,aC] at this;exact this
theorem Wk.tot2(W:Wk p L b dn r rest S):DL.tot S.T<=2*(1+S.fd.length*L.length):=by have:=aJI W.ne;have:=W.few2;lia
theorem Wk.step(hpr:∀k,k<L.length->1<=prK L k)(W:Wk p L b dn r (y::rest) S):Wk p L b (dn++[rwP y]) r rest (fdI p L b r S<|unP y):=by
 obtain⟨row,ey,ro,er,rb⟩:=W.rs y aO;subst ey;have up:=nF.mp W.up;have rp:=by rw[er] at rb;exact rb
 rw[aOp];have ew:(itP p L row::rest).map rwP=row::rest.map rwP:=by rw[cA,sQ]
 have nd:=W.nd;have par:=W.par;rw[ew] at nd par;have e1:dn++row::rest.map rwP=(dn++[row])++rest.map rwP:=by simp
 rw[e1] at nd par;rw[sQ]
 have cv:∀c,Cov p L S (itP p L row::rest) c->c=row\/Cov p L S rest c:=λc h=>by
  rcases h with h|h|h
  ·exact .inr<|.inl h
  ·rw[ew] at h
   rcases bL.mp h with h|h
   ·exact .inl h
   ·exact .inr (.inr<|.inl h)
  ·exact .inr (.inr<|.inr h)
 have du:∀c∈dn++[row],RowOk L c/\S45.prQ (prK L) c<=b:=λc h=>by
  rcases aV.mp h with h|h
  ·exact W.du c h
  ·rw[aK.mp h];exact⟨ro,rp⟩
 have rs:=λz hz=>W.rs z<|aH _ hz
 have gt:=W.gt (by simp);unfold fdI
 by_cases hk:nrQ p L row∈S.kn
 ·rw[zt hk];rw[W.ok.kn] at hk;obtain⟨e,he,en⟩:=aS.mp hk
  have ke:=by have:=W.lt1 e he _ aO;rw[sQ] at this;exact this
  have cv2:∀c,Cov p L S (itP p L row::rest) c->Cov p L S rest c:=λc h=>by
   rcases cv c h with rfl|h
   ·exact .inr<|.inr ⟨e,he,en,.inr ke⟩
   ·exact h
  exact⟨W.ok,W.ne,W.wt,rs,up.2,λ_=>gt,nd,λe he=>⟨bN _ (W.fd e he).1,(W.fd e he).2⟩,par,du,W.srt,λe he z hz=>W.lt1 e he z<|aH _ hz,W.lt2,λe he k hk hle=>cv2 _<|W.cl e he k hk hle,λh=>cv2 _<|W.st h⟩
 ·have ok:=aPQ (p:=p) (L:=L) (b:=b) (r:=r) W.ok (row,nrQ p L row);unfold fdI at ok;rw[zr hk] at ok ⊢;have pm:=aFf (p:=p) (L:=L) (b:=b) (r:=r) (row:=row) (nb:=nrQ p L row) (T:=S.T) L.length;have lm:=λt' h=>aBU (p:=p) (L:=L) (b:=b) (r:=r) (row:=row) (nb:=nrQ p L row) L.length (t':=t') W.ne h
  have rno:row∉S.fd.map λe=>e.2.1:=λh=>by obtain⟨e,he,ee⟩:=aS.mp h;have:=(W.fd e he).1;rw[ee] at this;have n2:=(bK.mp (bK.mp nd).1).1;exact(bK.mp n2).2.2 row this row (by simp) rfl
  have mem':∀c,c∈wrR (lgQ p L b r row (nrQ p L row) L.length S.T)↔c∈chs L b r row L.length\/c∈wrR S.T:=λc=>by rw[pm.mem_iff,aV]
  have ch_lt:∀c∈chs L b r row L.length,klt L row c:=λc h=>by obtain⟨k,k1,k2,rfl⟩:=chs_mem.mp h;refine .inl ?_;rw[qW];have:=hpr k k1;unfold rlt;lia
  have T_lt:∀c∈wrR S.T,klt L row c:=λc h=>by obtain⟨t,ht,y,hy,e⟩:=wrR_mem.mp h;obtain⟨q,rfl,q2,q3,q4⟩:=W.wt t ht y hy;rw[sQ] at e;subst e;refine .inl ?_;rw[<-er,<-q3];exact gt t ht
  have rest_lt:∀z∈rest,klt L row (rwP z):=λz hz=>by
   obtain⟨q,rfl,q2,q3,q4⟩:=rs z hz;rw[sQ];refine .inr ⟨er.symm.trans q3,?_⟩;have:=up.1 _ hz;unfold plt at this
   by_cases e:(itP p L row).1=(itP p L q).1
   ·exfalso;have e2:=aMA e;subst e2;rw[zt rfl,sV] at this;cases this
   ·rw[zr e] at this;exact this
  have cvn:∀c,Cov p L S (itP p L row::rest) c->Cov p L ⟨lgQ p L b r row (nrQ p L row) L.length S.T,S.kn++[nrQ p L row],S.fd++[(r.1,row,nrQ p L row)]⟩ rest c:=λc h=>by
   rcases cv c h with rfl|h|h|⟨e,he,q⟩
   ·exact .inr<|.inr ⟨(r.1,c,nrQ p L c),aJ _<|cG _,rfl,jb⟩
   ·exact .inl ((mem' c).mpr<|.inr h)
   ·exact .inr<|.inl h
   ·exact .inr<|.inr ⟨e,bN _ he,q⟩
  have efd:(S.fd++[(r.1,row,nrQ p L row)]).map (λe=>e.2.1)=S.fd.map (λe=>e.2.1)++[row]:=by rw[aX];rfl
  refine⟨ok,λt h=>(lm t h).1,λt ht y hy=>?_,rs,up.2,λ_ t ht=>?_,?_,λe he=>?_,λc hc=>?_,du,?_,λe he z hz=>?_,λe he c hc=>?_,λe he k hk hle=>?_,λh=>cvn _<|W.st h⟩
  ·rcases(lm t ht).2 y hy with⟨k,k1,k2,k3,k4⟩|⟨s,s1,s2,s3⟩
   ·refine⟨row++[k],by rw[k4];unfold itP;rw[aBz],λi hi=>?_,by rw[k3,qW,er],by rw[k3];exact k2⟩
    rcases aV.mp hi with hi|hi
    ·exact ro i hi
    ·rw[aK.mp hi];exact k1
   ·rw[<-s2];exact W.wt s s1 y s3
  ·obtain⟨h1,h2⟩:=lm t ht;obtain⟨y,hy⟩:=List.exists_mem_of_ne_nil _ h1
   rcases h2 y hy with⟨k,k1,k2,k3,k4⟩|⟨s,s1,s2,s3⟩
   ·rw[k3];have:=hpr k k1;unfold rlt;simp only;lia
   ·rw[<-s2];exact gt s s1
  ·have pm2:((dn++[row]++rest.map rwP)++wrR (lgQ p L b r row (nrQ p L row) L.length S.T)).Perm (chs L b r row L.length++((dn++[row]++rest.map rwP)++wrR S.T)):=(pm.append_left _).trans (by
    rw[<-dP,<-dP (chs L b r row L.length)]
    exact iT.append_right _)
   refine pm2.nodup_iff.mpr<|bK.mpr ⟨aQd _,nd,λc hc d hd e=>?_⟩;subst e;obtain⟨k,k1,k2,rfl⟩:=chs_mem.mp hc
   rcases par _ hd with h|⟨q,j,h1,h2⟩
   ·simp at h
   ·have:=(List.append_inj' h1 rfl).1;subst this;exact rno h2
  ·rcases aV.mp he with he|he
   ·exact⟨bN _ (W.fd e he).1,(W.fd e he).2⟩
   ·rw[aK.mp he];exact⟨aJ _<|cG _,ro,by rw[er];rfl,rb,rfl⟩
  ·rw[efd]
   have h:c∈dn++[row]++rest.map rwP++wrR S.T\/c∈chs L b r row L.length:=by
    rcases aV.mp hc with h|h
    ·exact .inl<|bN _ h
    ·rcases(mem' c).mp h with h|h
     ·exact .inr h
     ·exact .inl<|aJ _ h
   rcases h with h|h
   ·exact(par c h).imp id λ⟨q,k,h1,h2⟩=>⟨q,k,h1,bN _ h2⟩
   ·obtain⟨k,_,_,rfl⟩:=chs_mem.mp h;exact .inr ⟨row,k,rfl,aJ _<|cG _⟩
  ·rw[efd];refine rL.mpr ⟨W.srt,kG _ _,λa ha c hc=>?_⟩;rw[aK.mp hc];obtain⟨e,he,rfl⟩:=aS.mp ha;have:=W.lt1 e he _ aO;rw[sQ] at this;exact this
  ·rcases aV.mp he with he|he
   ·exact W.lt1 e he z<|aH _ hz
   ·rw[aK.mp he];exact rest_lt z hz
  ·rcases aV.mp he with he|he
   ·rcases(mem' c).mp hc with h|h
    ·have:=W.lt1 e he _ aO;rw[sQ] at this;exact aKu this<|ch_lt c h
    ·exact W.lt2 e he c h
   ·rw[aK.mp he]
    rcases(mem' c).mp hc with h|h
    ·exact ch_lt c h
    ·exact T_lt c h
  ·rcases aV.mp he with he|he
   ·exact cvn _<|W.cl e he k hk hle
   ·rw[aK.mp he] at hle ⊢;exact .inl<|(mem' _).mpr (.inl<|chs_mem.mpr ⟨k,hk,hle,rfl⟩)
def Wk.pop(W:Wk p L b dn r [] S)(hn:S.T[n]? =some t)(hm:∀s∈S.T,¬ rlt s.1 t.1):t.2.Nodup/\Wk p L b dn t.1 (hX t.2) {S with T:=S.T.eraseIdx n}:=by
 have tm:=bC hn;obtain⟨nl,en⟩:=aF.mp hn
 have pT:S.T.Perm (t::S.T.eraseIdx n):=by
  have e1:S.T=S.T.take n++t::S.T.drop (n+1):=by rw[<-en,<-dG nl,dN]
  rw[dL];exact(e1▸List.Perm.refl S.T:S.T.Perm (S.T.take n++t::S.T.drop (n+1))).trans pJ
 have pw:(wrR S.T).Perm (t.2.map rwP++wrR (S.T.eraseIdx n)):=pT.flatMap_right _;have ps:((hX t.2).map rwP).Perm (t.2.map rwP):=(iJ t.2).map _;have nd:=W.nd;rw[gB,bG] at nd
 have pall:(dn++(hX t.2).map rwP++wrR (S.T.eraseIdx n)).Perm (dn++wrR S.T):=by rw[dP];exact((ps.append_right _).trans pw.symm).append_left _
 have ndt:t.2.Nodup:=by have h1:=(bK.mp<|pw.nodup_iff.mp (bK.mp nd).2.1).1;exact List.Pairwise.of_map _ (λa c h e=>h<|by rw[e]) h1
 have er:∀s∈S.T.eraseIdx n,s∈S.T:=λs hs=>jT hs
 have sub:∀c∈wrR (S.T.eraseIdx n),c∈wrR S.T:=λc hc=>pw.symm.mem_iff.mp<|aJ _ hc
 have sub2:=λy hy=>pw.symm.mem_iff.mp (bN _<|aS.mpr ⟨y,(iJ t.2).mem_iff.mp hy,rfl⟩)
 have cv:∀c,Cov p L S [] c->Cov p L {S with T:=S.T.eraseIdx n} (hX t.2) c:=λc h=>by
  rcases h with h|h|h
  ·rcases aV.mp (pw.mem_iff.mp h) with h|h
   ·exact .inr (.inl<|ps.symm.mem_iff.mp h)
   ·exact .inl h
  ·cases h
  ·exact .inr<|.inr h
 have ek:wtK (S.T.eraseIdx n)=(wtK S.T).eraseIdx n:=by unfold wtK;rw[dL,dL,aX,fR,gZ]
 refine⟨ndt,⟨by rw[ek];exact W.ok.nk.sublist<|qZ _ _,W.ok.kn,W.ok.nd⟩,λs hs=>W.ne s<|er s hs,λs hs=>W.wt s<|er s hs,λy hy=>W.wt t tm y<|(iJ t.2).mem_iff.mp hy,aBA ndt,λ_ s hs=>?_,pall.nodup_iff.mpr nd,W.fd,λc hc=>?_,W.du,W.srt,λe he y hy=>W.lt2 e he _<|sub2 y hy,λe he c hc=>W.lt2 e he c<|sub c hc,λe he k hk hle=>cv _<|W.cl e he k hk hle,λh=>cv _<|W.st h⟩
 ·refine aLM (λe=>?_) (hm s<|er s hs);have nk:=W.ok.nk;have pk:(wtK S.T).Perm (rkK t.1::wtK (S.T.eraseIdx n)):=pT.map _;have:=(bY.mp<|pk.nodup_iff.mp nk).1;refine this ?_;rw[e];exact aS.mpr ⟨s,hs,rfl⟩
 ·refine W.par c ?_;rw[gB,bG];exact pall.mem_iff.mp hc
theorem aIR(hne:T≠[]):∃t:(Int×Int)×List Pr2,T[fJ T]? =some t/\∀s∈T,¬ rlt s.1 t.1:=by
 have l0:=jN.mpr hne
 have em:(wtK T).map pM=T.map λt=>rkD t.1:=by unfold wtK;rw[aY];rfl
 have ln:((wtK T).map pM).length=T.length:=by rw[em,aC]
 have gd:∀i,i<T.length->((wtK T).map pM).getD i .non=rkD ((T.map (·.1)).getD i (0,0)):=λi hi=>by rw[em];simp[bV,hi]
 have eb:fJ T=Ae (λi k=>decide (rlt ((T.map (·.1)).getD i (0,0)) ((T.map (·.1)).getD k (0,0)))) (T.length-1):=by unfold fJ lQ;rw[ln];exact rX _ λi j hi hj=>by rw[gd i<|by lia,gd j<|by lia,aJQ]
 have bl:=wU (λi k=>decide (rlt ((T.map (·.1)).getD i (0,0)) ((T.map (·.1)).getD k (0,0))))<|T.length-1;have bm:=yL (T.map (·.1)) (T.length-1) (by rw[aC];lia);rw[<-eb] at bl bm;generalize fJ T=n at bl bm;have hn:n<T.length:=by lia
 refine⟨T[n],fC hn,λs hs=>?_⟩;obtain⟨j,hj⟩:=eL hs;have lj:=(aF.mp hj).1;have:=bm j (by lia);have e1:(T.map (·.1)).getD j (0,0)=s.1:=by simp[bV,hj]
 have e2:(T.map (·.1)).getD n (0,0)=T[n].1:=by simp[bV,hn]
 rw[e1,e2] at this;exact this
def fd0(p:Int×Int)(b:Int):FdS:=⟨if 0<=b then[((0,0),[nP ([],st0 p)])] else[],[],[]⟩
def bkF(p:Int×Int)(L:List SK)(b:Int):List (Int×List Nat×List Nat):=(jH p L b 4002<|fd0 p b).fd
theorem wk0(p:Int×Int)(L:List SK)(b:Int):Wk p L b [] (0,0) [] (fd0 p b):=by
 have e:nP ([],st0 p)=itP p L []:=rfl
 by_cases h:0<=b
 ·have e0:fd0 p b=⟨[((0,0),[itP p L []])],[],[]⟩:=by unfold fd0;rw[zt h,e]
  have ew:wrR [((0,0),[itP p L []])]=[[]]:=by rfl
  rw[e0];refine⟨⟨by simp[wtK],rfl,cQ⟩,λt ht=>?_,λt ht y hy=>?_,λy hy=>(nomatch hy),List.Pairwise.nil,λh=>absurd rfl h,?_,λe he=>(nomatch he),λrow hr=>?_,λrow hr=>(nomatch hr),List.Pairwise.nil,λe he=>(nomatch he),λe he=>(nomatch he),λe he=>(nomatch he),λ_=>.inl ?_⟩
  ·rw[aK.mp ht];simp
  ·rw[aK.mp ht] at hy ⊢;exact⟨[],aK.mp hy,λi hi=>(nomatch hi),rfl,h⟩
  ·rw[ew];simp
  ·exact .inl<|aK.mp hr
  ·exact cG _
 ·have e0:fd0 p b=⟨[],[],[]⟩:=by unfold fd0;rw[zr h]
  rw[e0];exact⟨⟨cQ,rfl,cQ⟩,λt ht=>(nomatch ht),λt ht=>(nomatch ht),λy hy=>(nomatch hy),List.Pairwise.nil,λh=>absurd rfl h,cQ,λe he=>(nomatch he),λrow hr=>(nomatch hr),λrow hr=>(nomatch hr),List.Pairwise.nil,λe he=>(nomatch he),λe he=>(nomatch he),λe he=>(nomatch he),λz=>absurd z h⟩
theorem Wk.take(hpr:∀k,k<L.length->1<=prK L k)(W:Wk p L b dn r rest S):∀j,j<=rest.length->Wk p L b (dn++(rest.take j).map rwP) r (rest.drop j) (fdP p L b r S<|rest.take j)
 |0,_=>by rw[List.take_zero,gB,bG];exact W
 |j+1,hj=>by
  have ih:=Wk.take hpr W j (by lia);have lj:j<rest.length:=by omega
  rw[dG lj] at ih;have:=ih.step hpr;rw[<-yN] at this
  have et:rest.take (j+1)=rest.take j++[rest[j]]:=by rw[gW,fC lj];rfl
  rw[et,aX,<-dP];exact this
def Wk.turn(hpr:∀k,k<L.length->1<=prK L k)(W:Wk p L b dn r [] S)(hne:S.T≠[]):∃t:(Int×Int)×List Pr2,S.T[fJ S.T]? =some t/\(∀s∈S.T,¬ rlt s.1 t.1)/\t.2.Nodup/\t.2≠[]/\Wk p L b dn t.1 (hX t.2) {S with T:=S.T.eraseIdx (fJ S.T)}/\fdT p L b S=fdP p L b t.1 {S with T:=S.T.eraseIdx (fJ S.T)} (hX t.2)/\Wk p L b (dn++(hX t.2).map rwP) t.1 [] (fdT p L b S):=by
 obtain⟨t,ht,hm⟩:=aIR hne;obtain⟨n1,W1⟩:=W.pop ht hm
 have e:fdT p L b S=fdP p L b t.1 {S with T:=S.T.eraseIdx (fJ S.T)} (hX t.2):=by unfold fdT;rw[ht]
 refine⟨t,ht,hm,n1,W.ne t<|bC ht,W1,e,?_⟩;have:=W1.take hpr (hX t.2).length<|aQ _;rw[fQ,aNv] at this;rw[e];exact this
theorem aDa(hpr:∀k,k<L.length->1<=prK L k):∀ (m:Nat) {dn:List (List Nat)}{r:Int×Int}{S:FdS},Wk p L b dn r [] S->1+M*L.length<dn.length+m->∃dn' r',Wk p L b dn' r' [] (jH p L b m S)/\((jH p L b m S).T=[]\/M<(jH p L b m S).fd.length)
 |0,dn,r,S,W,h=>by
  refine⟨dn,r,W,.inr ?_⟩;show M<S.fd.length;refine Nat.lt_of_not_le λq=>?_
  have:=W.few2;have:=aHt L.length q;lia
 |m+1,dn,r,S,W,h=>by
  show ∃dn' r',Wk p L b dn' r' [] (if S.T=[] then S else jH p L b m (fdT p L b S))/\((if S.T=[] then S else jH p L b m (fdT p L b S)).T=[]\/M<(if S.T=[] then S else jH p L b m (fdT p L b S)).fd.length)
  by_cases q:S.T=[]
  ·rw[zt q];exact⟨dn,r,W,.inl q⟩
  ·rw[zr q];obtain⟨t,_,_,_,ne,_,_,W2⟩:=W.turn hpr q;refine aDa hpr m W2 ?_
   have:0<(hX t.2).length:=by rw[(iJ t.2).length_eq];exact jN.mpr ne
   rw[aP,aC];lia
theorem aBD(b:Int)(r:Int×Int):∀ (xs:List Pr2) (S:FdS),S.fd<+:(fdP p L b r S xs).fd
 |[],S=>lF _
 |y::xs,S=>by
  show S.fd<+:(fdP p L b r (fdI p L b r S<|unP y) xs).fd;refine List.IsPrefix.trans ?_<|aBD b r xs _;unfold fdI
  split
  ·exact lF _
  ·exact List.prefix_append ..
def aMw(S:FdS):S.fd<+:(fdT p L b S).fd:=by
 unfold fdT
 split
 ·exact lF _
 ·exact aBD b _ _ {S with T:=S.T.eraseIdx (fJ S.T)}
theorem aFi:∀ (m:Nat) (S:FdS),S.fd<+:(jH p L b m S).fd
 |0,S=>lF _
 |m+1,S=>by
  show S.fd<+:(if S.T=[] then S else jH p L b m (fdT p L b S)).fd
  split
  ·exact lF _
  ·exact(aMw S).trans<|aFi m _
structure BkFOk(p:Int×Int)(L:List SK)(b:Int)(B:List (Int×List Nat×List Nat)):Prop where
 len:B.length<=500
 ent:∀e∈B,RowOk L e.2.1/\e.1=S45.prQ (prK L) e.2.1/\e.1<=b/\e.2.2=nrQ p L e.2.1/\e.2.1.length<=300
 nd:(B.map λe=>e.2.2).Nodup
 srt:(B.map λe=>e.2.1).Pairwise (klt L)
 cl:∀e∈B,∀k,k<L.length->e.1+prK L k<=b->∃e'∈B,e'.2.2=nrQ p L (e.2.1++[k])/\kle L e'.2.1 (e.2.1++[k])
 st:0<=b->∃e∈B,e.2.2=nrQ p L []/\kle L e.2.1 []
structure Fit(p:Int×Int)(L:List SK)(b:Int):Prop where
 l8:L.length<=8
 b3:b<=300
 le:(bkF p L b).length<=500
theorem aEv:∀ (row:List Nat),(∀k∈row,1<=pr k)->(row.length:Int)<=S45.prQ pr row
 |[],_=>zP _
 |k::row,h=>by
  have ih:=aEv row λj hj=>h j<|aH _ hj
  have h1:=h k<|aO ..;show((row.length+1))<=(pr k::row.map pr).sum;rw[List.sum_cons];unfold S45.prQ at ih;lia
theorem aLI(hpr:∀k,k<L.length->1<=prK L k)(F:Fit p L b):∃dn r,Wk p L b dn r [] (jH p L b 4002<|fd0 p b)/\(jH p L b 4002<|fd0 p b).T=[]:=by obtain⟨dn,r,W,e⟩:=aDa (M:=500) hpr 4002 (wk0 p L b) (by have:=F.l8;lia);exact⟨dn,r,W,e.resolve_right<|by have:=F.le;unfold bkF at this;lia⟩
theorem aJJ(hpr:∀k,k<L.length->1<=prK L k)(F:Fit p L b):BkFOk p L b (bkF p L b):=by
 obtain⟨dn,r,W,e⟩:=aLI hpr F
 have cv:∀c,Cov p L (jH p L b 4002<|fd0 p b) [] c->∃e∈(jH p L b 4002<|fd0 p b).fd,e.2.2=nrQ p L c/\kle L e.2.1 c:=λc h=>by
  rcases h with h|h|h
  ·rw[e] at h;cases h
  ·cases h
  ·exact h
 refine⟨F.le,λe he=>?_,by have:=W.ok.nd;rw[W.ok.kn] at this;exact this,W.srt,λe he k hk hle=>cv _<|W.cl e he k hk hle,λh=>cv _<|W.st h⟩;obtain⟨h1,h2,h3,h4,h5⟩:=W.fd e he;refine⟨h2,h3,h4,h5,?_⟩;have:=aEv e.2.1 λk hk=>hpr k<|h2 k hk
 have:=F.b3;lia
theorem BkFOk.all(hpr:∀k,k<L.length->1<=prK L k)(O:BkFOk p L b B):∀row,RowOk L row->S45.prQ (prK L) row<=b->∃e∈B,e.2.2=nrQ p L row/\kle L e.2.1 row:=by
 have g:∀ (n:Nat) (row:List Nat),row.length=n->RowOk L row->S45.prQ (prK L) row<=b->∃e∈B,e.2.2=nrQ p L row/\kle L e.2.1 row:=λn=>by
  induction n with
  |zero=>intro row hl _ hb;have:=iH hl;subst this;exact O.st hb
  |succ n ih=>
   intro row hl ho hb;have hne:row≠[]:=λz=>by rw[z] at hl;cases hl
   have ed:=mC hne;generalize row.dropLast=q at ed;generalize row.getLast hne=k at ed;subst ed;have kn:=ho k (by simp);have h1:=hpr k kn;rw[S45.pr_snoc] at hb;obtain⟨e,he,e1,e2⟩:=ih q (by simpa using hl) (λi hi=>ho i<|bN _ hi) (by lia);obtain⟨_,h3,_,h5,_⟩:=O.ent e he
   have le:S45.prQ (prK L) e.2.1<=S45.prQ (prK L) q:=by
    rcases e2 with z|(z|⟨z,_⟩)
    ·rw[z];exact zP _
    ·have:(rkR L e.2.1).1<=(rkR L q).1:=by unfold rlt at z;lia
     exact this
    ·exact Int.le_of_eq<|congrArg Prod.fst z
   obtain⟨e',he',e3,e4⟩:=O.cl e he k kn (by lia);refine⟨e',he',?_,aPR e4<|aIw k e2⟩;rw[e3,aBz,aBz,<-h5,e1]
 exact λrow=>g row.length row rfl
def fdD(e:Int×List Nat×List Nat):D:=.tup [.int e.1,.tup<|bA e.2.1,.tup<|bA e.2.2]
def aKp:List D->R->Prop:=λds r=>∃p L b,p∈bX/\StkOk p L/\Fit p L b/\ds=[.lst (L.map<|mvD p),.int b,.tup (bA<|st0 p)]/\r=.own ((bkF p L b).map fdD)
noncomputable def aDn(ds:List D):List Nat:=ds.map λd=>match d with | .int i=>i.toNat|_=>0
def aFH(l:List Nat):aDn (bA l)=l:=by unfold aDn bA;rw[aY];exact(cH λi _=>eD i).trans<|kE l
def unE:D->Int×List Nat×List Nat
 |.tup [.int a,.tup r,.tup n]=>(a,aDn r,aDn n)
 |_=>(0,[],[])
def aLb(e:Int×List Nat×List Nat):unE (fdD e)=e:=by show(e.1,aDn<|bA e.2.1,aDn<|bA e.2.2)=e;rw[aFH,aFH]
def bkQ(p:Int×Int)(L:List SK)(b:Int):List Bk:=(bkF p L b).map λe=>(e.1,e.2.1,lI p e.2.2)
def aLk:List D->R->Prop:=λds r=>∃p L b,p∈bX/\StkOk p L/\(L.map λs=>sqD s.1).Nodup/\Fit p L b/\ds=[cP p,.lst<|L.map skD,.int b]/\r=.own ((bkQ p L b).map enD)
section
open PySem.W PySem.Calls Att
end
section
open PySem.SeqAt
open PySem.AutoSeq1 (wpAny_loadPart')
open PySem.MeetsSeq PySem.MeetsSeq2 PySem.MeetsSeq3
end
structure aRO(p:Int×Int)(L:List SK)(b:Int)(B:List Bk):Prop where
 len:B.length<=500
 ent:∀e∈B,RowOk L e.2.1/\e.1=S45.prQ (prK L) e.2.1/\e.1<=b/\e.2.2=S45.tabQ (sI p L) (bW p) e.2.1/\e.2.1.length<=300
 nd:(B.map λe=>e.2.2).Nodup
 srt:(B.map λe=>e.2.1).Pairwise (klt L)
 cl:∀e∈B,∀k,k<L.length->e.1+prK L k<=b->∃e'∈B,e'.2.2=sI p L k e.2.2/\kle L e'.2.1 (e.2.1++[k])
 st:0<=b->∃e∈B,e.2.2=bW p/\kle L e.2.1 []
 all:∀row,RowOk L row->S45.prQ (prK L) row<=b->∃e∈B,e.2.2=S45.tabQ (sI p L) (bW p) row/\kle L e.2.1 row
def aEU(hp:p∈bX)(S:StkOk p L)(F:Fit p L b):aRO p L b (bkQ p L b):=by
 have O:=aJJ S.pr F;have nr:∀ {row:List Nat},RowOk L row->NOk p (nrQ p L row)/\lI p (nrQ p L row)=S45.tabQ (sI p L) (bW p) row:=λh=>aEp hp (λs hs=>(S.st s hs).1) h
 have mem:∀ {e:Int×List Nat×List Nat},e∈bkF p L b->(e.1,e.2.1,lI p e.2.2)∈bkQ p L b:=λh=>aS.mpr ⟨_,h,rfl⟩
 refine⟨by unfold bkQ;rw[aC];exact O.len,λx hx=>?_,?_,?_,λx hx k hk hle=>?_,λh=>?_,λrow ho hr=>?_⟩
 ·obtain⟨e,he,rfl⟩:=aS.mp hx;obtain⟨h1,h2,h3,h4,h5⟩:=O.ent e he;exact⟨h1,h2,h3,by rw[h4];exact(nr h1).2,h5⟩
 ·unfold bkQ;rw[aY];have:(bkF p L b).map ((λe=>e.2.2) ∘ λe=>(e.1,e.2.1,lI p e.2.2))=((bkF p L b).map λe=>e.2.2).map (lI p):=by rw[aY];rfl
  rw[this];have q:=O.nd;unfold List.Nodup at q ⊢;rw[oN];refine List.Pairwise.imp_of_mem (λ{a c} ha hc h z=>h ?_) q;obtain⟨e,he,rfl⟩:=aS.mp ha;obtain⟨e',he',rfl⟩:=aS.mp hc;have n1:=(nr (O.ent e he).1).1;have n2:=(nr (O.ent e' he').1).1;rw[<-(O.ent e he).2.2.2.1] at n1;rw[<-(O.ent e' he').2.2.2.1] at n2;exact aJp hp n1 n2 z
 ·unfold bkQ;rw[aY];exact O.srt
 ·obtain⟨e,he,rfl⟩:=aS.mp hx;obtain⟨e',he',h1,h2⟩:=O.cl e he k hk hle;obtain⟨o1,_,_,o4,_⟩:=O.ent e he;refine⟨_,mem he',?_,h2⟩
  have ho:RowOk L (e.2.1++[k]):=λi hi=>by
   rcases aV.mp hi with hi|hi
   ·exact o1 i hi
   ·rw[aK.mp hi];exact hk
  rw[h1,(nr ho).2,S45.tab_snoc,o4,(nr o1).2]
 ·obtain⟨e,he,h1,h2⟩:=O.st h;refine⟨_,mem he,?_,h2⟩;rw[h1];exact aFr p
 ·obtain⟨e,he,h1,h2⟩:=O.all S.pr row ho hr;refine⟨_,mem he,?_,h2⟩;rw[h1];exact(nr ho).2
def aML(hp:p∈bX)(S:StkOk p L)(h:RowOk L row):(S45.tabQ (sI p L) (bW p) row).length=(bW p).length:=by obtain⟨q1,q2⟩:=aEp hp (λs hs=>(S.st s hs).1) h;rw[<-q2];unfold lI;rw[aC];exact q1.1
def aOd(q:SQ):pl (sqD q)=true/\dep (sqD q)=1:=by
 show pl (mO _ _ _ _)=true/\dep (mO _ _ _ _)=1;unfold mO
 split
 ·exact⟨rfl,rfl⟩
 ·split<;>exact⟨rfl,rfl⟩
def aOc(s:SK):pl (skD s)=true/\dep (skD s)<=2:=by
 refine⟨?_,?_⟩
 ·show(pl (sqD s.1)&&(true&&true))=true;rw[(aOd s.1).1];rfl
 ·show max (dep<|sqD s.1) (max 0 0)+1<=2;rw[(aOd s.1).2];decide
open PySem.W (KasT kas_sort)
def doQ(p:Int×Int)(w:List (Option (List<|List Int)))(T:List (List Int)):Bool:=(zC w (bW p) T).isNone
def ftQ(p:Int×Int)(w:List (Option (List<|List Int)))(B:List Bk):Option Bk:=B.find? λe=>doQ p w e.2.2
def oeD:Option Bk->D
 |none=>.non
 |some e=>enD e
def aHI:List D->R->Prop:=λds r=>∃p L b B w,p∈bX/\StkOk p L/\aRO p L b B/\aBV p w/\ds=[cP p,.lst<|B.map enD,.lst<|w.map wsD]/\r=.val (oeD<|ftQ p w B)
def aMP(hp:p∈bX)(S:StkOk p L)(h:RowOk L row):tF p (S45.tabQ (sI p L) (bW p) row):=⟨aML hp S h,λws hw=>kC hp<|aJe hp S h ws hw⟩
def FI(K:aB)(mg:Str->Option BD)(n:Str)(st:BJ):Prop:=∃f fd,mg n=some (.ref f)/\Fun K n n st f fd
def FI.mk{n:Str}{st:BJ}{od an:Option BF}{oc kV dc pm cd ct:BD}{f:BF}(X:K.In h)(G:h.Ns AQ mg)(a:eQ K AQ n=some (some<|.ref f))(l:K.lookup f=some ⟨oc,od,.func<|cD n n (eP st) (cF st) (aN st) .none kV dc pm an cd ct,sl⟩)(c:eI K cd n=true)(k:cK K (.ref f)=true):FI K mg n st:=⟨f,_,dW X G a,aCb l c k⟩
def aPJ(p:Int×Int)(L:List SK)(row:List Nat):tabQ p L row=S45.tabQ (sI p L) (bW p) row:=by
 have g:∀ (row:List Nat) (A:List (List Int)),A.map (λws=>fH p L row ws)=row.foldl (λt k=>sI p L k t) A:=λrow=>by
  induction row with
  |nil=>exact λA=>(cH λ_ _=>rfl).trans<|kE A
  |cons k row ih=>intro A;show A.map (λws=>fH p L row<|onQ p (L.getD k AS).1 ws)=row.foldl (λt k=>sI p L k t) (sI p L k A);rw[<-ih];unfold sI;rw[aY];rfl
 exact g row<|bW p
def JSh(p:Int×Int)(L:List SK)(ks:List Key)(ds:List D):Prop:=ks.Nodup/\ks.length=ds.length/\∀ (n:Nat) (k:Key),ks[n]? =some k->∃b:Nat,b<=900/\k=Sum.inl (b:Int)/\ds[n]? =some (D.lst<|(bkQ p L (b:Int)).map enD)/\Fit p L (b:Int)
def JSh.nil:JSh p L [] []:=⟨cQ,rfl,λn k h=>by simp at h⟩
theorem JSh.len{ks:List Key}(h:JSh p L ks ds):ds.length<=10000:=by
 have:=h.1.length_le_of_subset (l₂:=(bT 901).map λ(b)=>(.inl<|b)) λk hk=>by obtain⟨n,hn⟩:=eL hk;obtain⟨b,hb,e,_⟩:=h.2.2 n k hn;exact aS.mpr ⟨b,cN.mpr<|by lia,e.symm⟩
 rw[aC,fZ] at this;have:=h.2.1;lia
theorem JSh.put{ks:List Key}(h:JSh p L ks ds){b:Nat}(hb:b<=900)(ft:Fit p L (b:Int))(hk:(.inl (b:Int):Key)∉ks):JSh p L (ks++[.inl (b:Int)]) (ds++[.lst<|(bkQ p L (b:Int)).map enD]):=by
 refine⟨bK.mpr ⟨h.1,bY.mpr ⟨by simp,cQ⟩,λa ha c hc e=>hk ?_⟩,by rw[aP,aP,h.2.1];rfl,λn k hn=>?_⟩
 ·rw[<-aK.mp hc,<-e];exact ha
 ·by_cases hl:n<ks.length
  ·rw[dS hl] at hn;obtain⟨b',q1,q2,q3,q4⟩:=h.2.2 n k hn;exact⟨b',q1,q2,by rw[dS<|by rw[<-h.2.1];exact hl];exact q3,q4⟩
  ·have e:n=ks.length:=by have:=(aF.mp hn).1;simp at this;lia
   subst e;rw[mM] at hn;refine⟨b,hb,(bZ.inj hn).symm,?_,ft⟩;rw[h.2.1,mM]
theorem JSh.at_{ks:List Key}(h:JSh p L ks ds){b:Nat}(hk:(.inl (b:Int):Key)∈ks):∃n:Nat,ks[n]? =some (Sum.inl (b:Int))/\ds[n]? =some (D.lst<|(bkQ p L (b:Int)).map enD):=by
 obtain⟨n,hn⟩:=eL hk;obtain⟨b',_,e,q,_⟩:=h.2.2 n _ hn
 have:b=b':=by have:=Sum.inl.inj e;lia
 subst this;exact⟨n,hn,q⟩
def shFs(p:Int×Int)(L:List SK):List (Str×D):=[("size",cP p),("stock",.lst<|L.map skD)]
abbrev shZ(K:aB)(C:BF)(p:Int×Int)(L:List SK):Lent K:=shL K C (shFs p L)<|JSh p L
structure aRM(p:Int×Int)(L:List SK)(b:Nat):Prop where
 hp:p∈bX
 st:StkOk p L
 nd:(L.map λs=>sqD s.1).Nodup
 fit:Fit p L (b:Int)
 le:b<=900
def aRW{α:Type}(p:Int×Int)(L:List SK):α->List D->D->Prop:=λ_ ds d=>∃b:Nat,aRM p L b/\ds=[.int (b:Int)]/\d=.lst ((bkQ p L (b:Int)).map enD)
def pfD:Option Bk->D
 |none=>.non
 |some e=>.tup<|bA e.2.1
def pcQ(p:Int×Int)(L:List SK)(row:List Nat)(pl mn:Nat)(bs:List Nat):Option Bk:=ftQ p (waQ p L row pl mn bs) (bkQ p L<|vC (vS L<|(row.drop pl).take mn)-1)
structure aOb(p:Int×Int)(L:List SK)(row:List Nat)(pl mn:Nat)(o:Option (List Nat)):Prop where
 rw:∀t∈row,t<L.length
 rl:row.length<=100
 m1:1<=mn
 le:pl+mn<=row.length
 lk:zY p o
 bk:∃b:Nat,vC (vS L<|(row.drop pl).take mn)-1=(b:Int)/\aRM p L b
def CPf{α:Type}(p:Int×Int)(L:List SK):α->List D->D->Prop:=λ_ ds d=>∃row pl mn o,aOb p L row pl mn o/\ds=[.tup<|bA row,.int (pl:Int),.int (mn:Int),lkD o]/\d=pfD (pcQ p L row pl mn<|bxQ p.2.toNat o)
def aLm:List D->R->Prop:=λds r=>∃p L row pl mn o,aOb p L row pl mn o/\ds=[cP p,.lst<|L.map skD,.tup<|bA row,.int (pl:Int),.int (mn:Int),lkD o]/\r=.val (pfD (pcQ p L row pl mn<|bxQ p.2.toNat o))
def aFD{a:BF×BF}(F H:Hp)(h:(shL K C fs J).G a (.ref<|(shL K C fs J).ad a) F H):aLu K C "book_up_to" ((shL K C fs J).ad a) F:=by obtain⟨_,⟨x,dx,od,mA,e,h1,h2,ne,ns,_,_,hb⟩,_⟩:=h;cases e;exact⟨dx,od,mA,h1,h2,ne,ns,hb⟩
def qA(a:BF×BF)(v:V)(F H:Hp)(b:BF)(o:HO)(h:(shL K C fs J).G a v F H)(hb:b∈(shL K C fs J).own a)(e:H b=some o):¬ nL o:=by obtain⟨_,_,ks,ds,_,xs,q,_⟩:=h;rw[aK.mp hb] at e;have e':=q.symm.trans e;cases e';exact id
variable (Z:Lent K)
def aNG(n:Nat)(C:Z.α->List D->Prop):Sp:=λvs H _ E=>vs.length=n/\∃ (v:V) (us:List V) (F:Hp) (a:Z.α) (ds:List D),vs=v::us/\Same F H/\(∀b,b∉Z.own a->H b=F b)/\Smp H/\eF K F H (Z.sl a) (some v)/\(Z.own a).Nodup/\RepL K F ds us/\C a ds/\∀x H',Same F H'->Smp H'->E (.ref x) (some x) H'
def spXM(n:Nat)(C:Z.α->List D->Prop):Sp:=λvs H _ E=>vs.length=n/\Smp H/\∃ (v:V) (us:List V) (F:Hp) (a:Z.α) (ds:List D),vs=v::us/\Same F H/\eF K F H (Z.sl a) (some v)/\(Z.own a).Nodup/\RepL K F ds us/\C a ds/\∀x H',(∀b o,b∉Z.own a->H b=some o->H' b=some o)->Smp H'->E (.ref x) (some x) H'
def FnOk.framedX{Z:Lent K}{mg:Str->Option BD}{base:BH}{k:Nat}{f:BF}{fd:AN}{ps:List Str}{C:Z.α->List D->Prop}{cls:BD}(G:FnOk P w K mg base (CX1 P w cls) k f fd ps (aNG Z n C)):FnOk P w K mg base (CX1 P w cls) k f fd ps (spXM Z n C):=by
 have res:∀ {F H:Hp}{a:Z.α}{v:V},Same F H->eF K F H (Z.sl a) (some v)->Same F (lJ (Z.own a) F H)/\Same (lJ (Z.own a) F H) H/\eF K F (lJ (Z.own a) F H) (Z.sl a) (some v):=λ{F H a v} sF so=>by
  obtain⟨v',ev,ow,gg⟩:=so;refine⟨λb o e=>?_,λb o e=>?_,v',ev,λb hb=>⟨(ow b hb).1,?_⟩,λF' H' s k=>gg F' H' s λb hb ob e=>k b hb ob<|by rw[lW hb];exact e⟩
  ·by_cases h:b∈Z.own a
   ·rw[(ow b h).1] at e;cases e
   ·rw[iB h];exact e
  ·by_cases h:b∈Z.own a
   ·rw[lW h] at e;exact e
   ·rw[iB h] at e;exact sF b o e
  ·rw[lW hb];exact(ow b hb).2
 refine⟨λvs H Q E h=>?_,λA outer s H args us vs Q E hr e0 hb rv h=>?_⟩
 ·obtain⟨hl,sm,v,us,F,a,ds,e,sF,so,nd,rl,c,_⟩:=h;obtain⟨q1,q2,q3⟩:=res sF so;exact G.len vs (lJ (Z.own a) F H) (λ_ _=>True) (λ_ _ _=>True) ⟨hl,v,us,F,a,ds,e,q1,λb hb=>iB hb,sm.sub q2,q3,nd,rl,c,λ_ _ _ _=>trivial⟩
 ·obtain⟨hl,sm,v,us',F,a,ds,ev,sF,so,nd,rl,c,q⟩:=h;obtain⟨q1,sU,q3⟩:=res sF so;obtain⟨_,_,ow,_⟩:=id so;have nU:∀b,b∉Z.own a->F b=none->lJ (Z.own a) F H b=none:=λb hbl n=>by rw[iB hbl];exact n
  have e1:Env0 P w K mg base A outer s (lJ (Z.own a) F H):=⟨e0.frames,e0.mod,λb o e=>⟨(e0.bs b o e).1,sU.free (e0.bs b o e).2⟩,e0.bsz,e0.funs,λb hb=>sU.free<|e0.frf b hb,λb o e=>(e0.hok b o<|sU b o e).smp (sm b o<|sU b o e),e0.bare⟩;refine Aq (G.run A outer s (lJ (Z.own a) F H) args us vs (λ_ _=>False) (λ_ _ H'=>Same F H'/\Smp H') hr e1 hb rv ⟨hl,v,us',F,a,ds,ev,q1,λb hb=>iB hb,sm.sub sU,q3,nd,rl,c,λx H' z1 z2=>⟨z1,z2⟩⟩) λrr s' hrr=>?_
  cases rr with
  |error e=>
   obtain⟨x,T,F3,rfl,os,bare,un,hk,ex,s3,sm3⟩:=hrr
   have keepF:∀b o,b∉Z.own a->H b=some o->F b=none->F3 b=none:=λb o hbl e n=>by obtain⟨ob,g⟩:=pP<|e0.hok b o e;exact un.free b ob g (nU b hbl n)<|by simp
   have keepO:∀b o,b∉Z.own a->H b=some o->F b=none->∀ob,s.heap.get? b=some ob->s'.heap.get? b=some ob:=λb o hbl e n ob g=>un.keep b ob g (nU b hbl n) (λhb=>by have:=e0.frf b hb;rw[e] at this;cases this)<|by simp
   have sH:∀b o,b∉Z.own a->H b=some o->gD (Z.own a) F3 H b=some o:=λb o hbl e=>by
    cases g:F b with
    |none=>rw[gL hbl<|keepF b o hbl e g];exact e
    |some o'=>have:=sF b o' g;rw[e] at this;cases this;exact fY _ _<|s3 _ _ g
   have nl:∀ {b:BF}{o:HO},H b=some o->¬ Wr b o->b∉Z.own a:=λe no z=>by obtain⟨_,ob,g,wr⟩:=ow _ z;rw[e] at g;cases g;exact no wr
   have nn:∀ {b:BF},H b=none->b∉Z.own a:=λe z=>by obtain⟨_,ob,g,_⟩:=ow _ z;rw[e] at g;cases g
   have hN:∀ {b:BF},s.heap.get? b=none->H b=none:=λ{b} e=>by
    cases g:H b with
    |none=>rfl
    |some u=>obtain⟨ob,q2⟩:=pP<|e0.hok b u g;rw[e] at q2;cases q2
   have smM:Smp (gD (Z.own a) F3 H):=λb o e=>by
    by_cases hbl:b∈Z.own a
    ·unfold gD at e;rw[zt hbl] at e;exact sm3 _ o e
    ·cases g:F3 b with
     |some o'=>have:=fY (as:=Z.own a) (H:=H) b o' g;rw[e] at this;cases this;exact sm3 b o g
     |none=>rw[gL hbl g] at e;exact sm b o e
   refine⟨x,T,gD (Z.own a) F3 H,rfl,os,bare,⟨λb o g n hb hx=>un.keep b o g (sU.free n) hb hx,λb o g n hb hx=>un.slot b o g (sU.free n) hb hx,λb o g n hx=>?_,un.there,λb xs e=>sH _ _ (nl e λz=>z) e,λb o u e=>sH _ _ (nl e λz=>z) e,λb ps e=>⟨#[],by rw[sH _ _ (nl e λz=>z) e];simp⟩⟩,λb o e=>?_,⟨?_,ex.new,?_,ex.newT,ex.obj⟩,q x _ sH smM⟩
   ·rw[gL (nn n)<|un.free b o g (sU.free n) hx];exact n
   ·have z:=smM b o e
    by_cases hbl:b∈Z.own a
    ·have e':=by unfold gD at e;rw[zt hbl] at e;exact e
     exact(hk b o e').smp z
    ·cases g:F3 b with
     |some o'=>have:=fY (as:=Z.own a) (H:=H) b o' g;rw[e] at this;cases this;exact(hk b o g).smp z
     |none=>
      rw[gL hbl g] at e
      have n:F b=none:=by
       cases g2:F b with
       |none=>rfl
       |some o2=>rw[s3 _ _ g2] at g;cases g
      have st:=(e0.hok b o e).smp (F:=λ_=>none) z
      have:ObjOk P w (fun _=>none) s'.heap b o:=st.stay (fun b2 u hb2 gg=>by
       rcases hb2 with rfl|hb2
       ·exact keepO _ o hbl e n u gg
       ·cases hb2) (λb2 hb2=>nomatch hb2) λb2 xs hb2=>nomatch hb2
      exact this.smp z
   ·rw[gL (nn<|hN ex.new) ex.free];exact hN ex.new
   ·rw[gL (nn<|hN ex.newT) ex.freeT];exact hN ex.newT
  |ok flw=>
   cases flw with
   |ret u=>obtain⟨_,_,_,_,_,_,_,z⟩:=hrr;exact z.elim
   |_=>exact hrr
variable {Z:Lent K}{mg:Str->Option BD}{base:BH}{qual:Str}{st:BJ}{f:BF}{fd:AN}{N ps:List Str}{k:Nat}{C:Z.α->List D->Prop}{cls:BD}
def aHE(F:Fun K x qual st f fd)(S:iD N ps (aN st))(body:∀ (cdv:BD) (A:BG) (outer:List Env) (s:BE) (H:Hp) (E:XK) (B:Hp) (hB:∀b o,H b=some o→nL o→B b=some o),Room k (A.deeper (Ad qual (aN st) s.heap.objs.size f cdv))→(∀x H',Same B H'→Smp H'→E (.ref x) (some x) H')→∀a ds,ds.length+1=ps.length→C a ds→PSd (reB (gO (CX1 P w cls) P w K mg base N qual (aN st) f cdv A outer s H E) B hB) (lG Z N.length a ds) (cF st) {nx:=λ_=>False,rt:=λ_=>False})
  (hw:∀ (a:Z.α) (v:V) (F H:Hp) (b:BF) (o:HO),Z.G a v F H->b∈Z.own a->H b=some o->¬ nL o):FnOk P w K mg base (CX1 P w cls) (k+1) f fd ps (aNG Z ps.length C):=by
 obtain⟨oc,od,kV,doc,pm,an,cdv,ct,osl,rfl,lk,hcd⟩:=F.ex;refine aHN lk hcd S (λvs H Q E h=>h.1) λA outer s H vs Q E hr h=>?_
 obtain⟨hl,v,us,F0,a,ds,rfl,sF,hH,sm,so,nd,rl,c,q⟩:=h;have hds:ds.length+1=ps.length:=by rw[<-rl.len];exact hl
 have hB:∀b o,H b=some o->nL o->F0 b=some o:=λb o e no=>by
  by_cases hbl:b∈Z.own a
  ·obtain⟨_,_,_,gg⟩:=so;exact absurd no<|hw a _ F0 H b o (gg F0 H (Same.refl _) λ_ _ _ e=>e) hbl e
  ·rw[<-hH b hbl];exact e
 refine⟨_,pss_w,aBe (hb:=hB) ?_⟩;have hlen:N.length-(us.length+1)=N.length-(ds.length+1):=by rw[rl.len]
 have S0:StF K F0 F0 H (L2.start N (v::us)) (lG Z N.length a ds):=by
  refine⟨Same.refl _,sF,sm,?_,?_⟩
  ·show SlotsOk K F0 _ (_::_) (some v::(us.map some++bP (N.length-(us.length+1)) none));rw[hlen];exact⟨_,_,rfl,so,jO (m:=0) rl⟩
  ·unfold lG;rw[mJ,jP,bG];exact nd
 exact(body cdv A outer s _ E F0 hB hr q a ds hds c (L2.start N (v::us)) F0 _ S0).imp (λ_ _ ⟨_,_,_,_,z⟩=>z.elim) (λ_ _ ⟨_,_,z⟩=>z.elim) (λ_ _ ⟨_,_,_,_,z⟩=>z.elim) λ_ _ ⟨_,_,_,_,z⟩=>z.elim
def oX{B:Hp}{E:XK}{hB:∀b o,H b=some o->nL o->B b=some o}(hE:∀x H',Same B H'->Smp H'->E (.ref x) (some x) H'):Takes (reB (gO (CX1 P w cls) P w K mg base N qual scope f cdv A outer s H E) B hB) cls sd:=λza σ F H' s' a T I S x _=>xO I rfl ⟨rfl,rfl⟩ x<|hE a H' (λb o e=>S.sub _ _<|S.base _ _ e) S.smp
structure gM(P:AD)(w:AL)(K:aB)(Z:Lent K)(mg:Str->Option BD)(base:BH)(x:Str)(k n:Nat)(C:Z.α->List D->Prop)(cls:BD):Prop where
 ex:∃ (f:BF) (fd:AN) (ps:List Str),mg x=some (.ref f)/\cK K (.ref f)=true/\Binds K fd ps []/\FnOk P w K mg base (CX1 P w cls) k f fd ps (aNG Z n C)
variable {b:Expr}{es:List Expr}{p apos:Pos}{Cl:BF}{m g:Str}{za:List (BF×BI)}{s':BE}{ev:BD}
def tP{as:List BF}(hex:X.ex=[])(I:Inv X za σ H s)(S:StF X.K X.B₀ F H σ sd2)(na:∀b∈as,F b=none/\b∉cS sd2)(h:CX1 X.prog X.w cls X.stack H s (λ_ _ H'=>(∀b o,b∉as->H b=some o->H' b=some o)/\Smp H') ev s')(ht:Takes X cls sd2):X.xe ev s':=by
 obtain⟨a,T,H',rfl,os,bare,un,hok,x,sH,smH⟩:=h;have I2:=I.call' os un hok bare (λb z=>absurd z<|by simp)
 have fr:∀b,s.heap.get? b=none->X.s₀.heap.get? b=none:=λb q=>by
  cases g:X.s₀.heap.get? b with
  |none=>rfl
  |some o=>obtain⟨o1,q1⟩:=I.base.there b o g (λhb=>by rw[hex] at hb;cases hb);rw[q] at q1;cases q1
 have nw:∀b,s.heap.get? b=none->∀p∈X.pn++za,p.1≠b:=λb q p hp z=>by have:=(I.pin p hp).1;rw[z,q] at this;cases this
 exact ht za σ F H' s' a T I2 ⟨S.base,λb o e=>sH b o (λz=>by rw[(na b z).1] at e;cases e)<|S.sub _ _ e,smH,S.slots.mono (Same.refl _) λl hl=>⟨(S.slots.owns hl).1,λob e=>sH _ _ (λz=>(na l z).2 hl) e⟩,S.nd⟩ ⟨x.free,fr a x.new,x.freeT,fr T x.newT,x.obj⟩ λp hp=>⟨nw a x.new p hp,nw T x.newT p hp⟩
def aFA{Z:Lent X.K}{a:Z.α}(hs:sd[i]? =some (Z.sl a))(S:StF X.K X.B₀ F H σ sd):∀b∈Z.own a,F b=none/\b∉cS (sd.set i .un):=λb hb=>by obtain⟨o,_,v,_,ow,_⟩:=S.slots.get hs;exact⟨(ow b hb).1,gR S.nd hs<|hb⟩
theorem aAw{Z:Lent X.K}{C:Z.α->List D->Prop}{a:Z.α}(i:Nat)(hs:sd[i]? =some (Z.sl a))(hxi:PE X (.Name x p2) (iQ i))(G:gM X.prog X.w X.K Z X.mg X.base g k n C cls)(hr:Room k X.A)(hg:Gl X g)(ha:PAd X sd es (ds.map R.val))(hc:C a ds)(hn:ds.length+1=n)(ht:Takes X cls (sd.set i .un))(hex:X.ex=[]:=by rfl)(hdb:(g==("__debug__":Str))=false:=by decide) (he:AB (.Name x p2::es) X.env=(false,eval (.Name x p2) X.env)::AB es X.env:=by rfl) (hpl:(AV pos<|AB es X.env).any (·.1)=false:=by rfl):PEx X sd (.Call (.Name g p) (.Name x p2::es) [] pos):=⟨fun σ F H S za s I=>by
 obtain⟨fa,fd,ps,hm,hkp,bd,G⟩:=G.ex;obtain⟨o0,h1,v,h2,_⟩:=S.slots.get hs;refine AO<|lY I hg hm ?_ hdb;refine dQ I.ok.mod.kin hkp (thn ((cO hxi pN he) pos za s σ H (λvs H'=>∃us F1,vs=v::us/\StF X.K X.B₀ F1 H' σ sd/\RepL X.K F1 ds us) I ⟨v,by rw[h1,h2],(ha σ F H S).imp λus H1 ⟨F1,S1,s1,q1⟩=>⟨us,F1,rfl,S1,q1.vals⟩⟩) λus s1 ⟨vs,H1,I1,r,us',F1,ev,S1,rl⟩=>⟨I1.kIn,?_⟩) he hpl;subst ev;obtain⟨o1,g1,so⟩:=S1.slots.get hs
 have eo:=by rw[h1,h2] at g1;exact(bZ.inj g1).symm
 subst eo
 refine qO (Ex:=fun _ _ H'=>(∀b o,b∉Z.own a→H1 b=some o→H' b=some o)∧Smp H') (FnOk.framedX G) hr bd .nil I1 r (by
  rw[bG]
  exact⟨by rw[bJ,rl.len];exact hn,S1.smp,v,us',F1,a,ds,rfl,S1.sub,so,gQ S1.nd hs,rl,hc,λx H' z1 z2=>⟨z1,z2⟩⟩) λe s' hcx=>?_
 exact tP hex I1 (S1.le (gK sd i)) (aFA hs S1) hcx ht⟩
theorem aGG{pl:Sem Bool}{Z:Lent X.K}{C:Z.α->List D->Prop}{a:Z.α}(i:Nat)(hs:sd[i]? =some (Z.sl a))(hxi:PE X (.Name x p2) (iQ i))(hi:∀F H,Z.G a (.ref<|Z.ad a) F H->aLu X.K Cl m (Z.ad a) F)(c:Cls X.K Cl)(hm:aND X.K Cl m f)(G:FnOk X.prog X.w X.K X.mg X.base (CX1 X.prog X.w cls) k f fd ps (aNG Z n C))(hr:Room k X.A)(bd:Binds X.K fd ps [])(ha:PAd X sd (e::es) (ds.map R.val))(hc:C a ds)(hn:ds.length+1=n)(ht:Takes X cls (sd.set i .un))(hex:X.ex=[]:=by rfl)(hst:AB (e::es) X.env=(false,eval e X.env)::AB es X.env:=by rfl) (hpl:(AV pos<|AB es X.env).any (·.1)=false:=by rfl)(ht2:eval (.Call (.Attribute (.Name x p2) m apos) (e::es) [] pos) X.env=(do
   let ov <-eval (.Name x p2) X.env
   standAt apos.atName
   let (f,first) <-holding [ov] (getMethod ov m pl)
   callWith pos f first (AV pos (AB (e::es) X.env)) (backToKw pos (keywordEach [] X.env))):=by rfl):
  PEx X sd (.Call (.Attribute (.Name x p2) m apos) (e::es) [] pos):=⟨fun σ F H S za s I=>by
 obtain⟨o0,h1,v,h2,_,gg⟩:=S.slots.get hs;have g0:=gg F H (Same.refl _) λ_ _ _ e=>e
 have ev:=Z.hv g0;subst h2 ev;obtain⟨dx,od,mA,e1,e2,ne,ns,hmA⟩:=hi F H g0;refine aBQ (thn (hxi za s σ H (λv' H'=>v'=.ref (Z.ad a)/\H'=H) I ⟨.ref<|Z.ad a,h1,rfl,rfl⟩) λu s1 ⟨v',H',I1,r1,ev,eH⟩=>?_) ht2;subst ev eH;cases(r1);have g1:=(I1.hok _ _<|S.sub _ _ e1).1;have g2:=(I1.hok dx _<|S.sub _ _ e2).1;refine aCn I1.kIn ⟨g1,ns _ g2,ne⟩ (c.get m) hm.at_ hm.fn hmA ?_;refine dQ I.ok.mod.kin hm.kp (thn ((pN) pos za s1 σ H' _ I1<|ha σ F H' S) λus s2 ⟨vs,H2,I2,r,F1,S1,s1',q1⟩=>⟨I2.kIn,?_⟩) hst hpl;obtain⟨o1,q2,so⟩:=S1.slots.get hs
 have eo:=by rw[h1] at q2;exact(bZ.inj q2).symm
 subst eo
 refine qO (vs:= .ref (Z.ad a)::vs) (Ex:=fun _ _ H'=>(∀b o,b∉Z.own a→H2 b=some o→H' b=some o)∧Smp H') (FnOk.framedX G) hr bd .nil I2 (.cons rfl r) (by
  rw[bG]
  exact⟨by rw[bJ,q1.vals.len];exact hn,S1.smp,.ref (Z.ad a),vs,F1,a,ds,rfl,S1.sub,so,gQ S1.nd hs,q1.vals,hc,λx H' z1 z2=>⟨z1,z2⟩⟩) λe s' hcx=>?_
 exact tP hex I2 (S1.le (gK sd i)) (aFA hs S1) hcx ht⟩
theorem vE{Z:Lent X.K}{C:Z.α->List D->Prop}(js:List Nat)(h0:PSo X sd e0 Z)(G:gM X.prog X.w X.K Z X.mg X.base g k n C cls)(hr:Room k X.A)(hg:Gl X g)(ha:PA X es (aEj js))(hj:js.map (λj=>sd[j]?)=ds.map λd=>some<|Slot.val d)(hc:∀a,C a ds)(hn:ds.length+1=n)(ht:Takes X cls sd)(hex:X.ex=[]:=by rfl)(hdb:(g==("__debug__":Str))=false:=by decide) (he:AB (e0::es) X.env=(false,eval e0 X.env)::AB es X.env:=by rfl) (hpl:(AV pos<|AB es X.env).any (·.1)=false:=by rfl):PEx X sd (.Call (.Name g p) (e0::es) [] pos):=⟨fun σ F H S za s I=>by
 obtain⟨fa,fd,ps,hm,hkp,bd,G⟩:=G.ex;refine AO<|lY I hg hm ?_ hdb
 refine dQ I.ok.mod.kin hkp (thn ((cO eO ha he) pos za s σ H (fun vs H'=>∃v us F1 a,vs=v::us∧StF X.K X.B₀ F1 H' σ sd∧RepL X.K F1 ds us∧eF X.K F1 H' (Z.sl a) (some v)∧(Z.own a).Nodup∧∀l∈Z.own a,l∉cS sd) I ((h0.run σ F H S).imp fun v H1 ⟨F1,a,S1,s1,so,nd,no⟩=>by
  obtain⟨us,rl,q⟩:=qP S1 hj
  exact q H1 _ ⟨v,us,F1,a,rfl,S1,rl,so,nd,no⟩)) λus s1 ⟨vs,H1,I1,r,v,us',F1,a,ev,S1,rl,so,nd,no⟩=>⟨I1.kIn,?_⟩) he hpl
 subst ev
 refine qO (Ex:=fun _ _ H'=>(∀b o,b∉Z.own a→H1 b=some o→H' b=some o)∧Smp H') (FnOk.framedX G) hr bd .nil I1 r (by
  rw[bG]
  exact⟨by rw[bJ,rl.len];exact hn,S1.smp,v,us',F1,a,ds,rfl,S1.sub,so,nd,rl,hc a,λx H' z1 z2=>⟨z1,z2⟩⟩) λe s' hcx=>?_
 obtain⟨_,_,ow,_⟩:=so
 exact tP hex I1 S1 (λb hb=>⟨(ow b hb).1,no b hb⟩) hcx ht⟩
def aOU(h:PEx X sd a):PEx X sd (.Compare a [.Is] [b] pos):=⟨λσ F H S=>(aFL aER eO eO<|fN _).to<|(h.run σ F H S).imp λ_ _ z=>z.elim⟩
theorem aMW(hg:Gl X g)(hm:X.mg g=some (.ref f))(hkp:cK X.K (.ref f)=true)(h1:PEd X sd e r0)(h:PEx X sd e2)(hdb:(g==("__debug__":Str))=false:=by decide) (he:AB (e::e2::es) X.env=(false,eval e X.env)::AB (e2::es) X.env:=by rfl) (he2:AB (e2::es) X.env=(false,eval e2 X.env)::AB es X.env:=by rfl) (hpl:(AV pos<|AB (e2::es) X.env).any (·.1)=false:=by rfl):PEx X sd (.Call (.Name g p) (e::e2::es) [] pos):=⟨fun σ F H S za s I=>by
 refine AO<|lY I hg hm ?_ hdb
 exact dQ I.ok.mod.kin hkp (thn ((cO eO (cO eO pN he2) he) pos za s σ H (λ_ _=>False) I ((h1 σ F H S).imp λv H1 ⟨F1,S1,s1,q1⟩=>(h.run σ F1 H1 S1).imp λ_ _ z=>z.elim)) λus s1 ⟨vs,H1,I1,r,z⟩=>z.elim) he hpl⟩
def Gr(p:Int×Int)(L:List SK)(b:Int):Prop:=b<=300/\500<(bkF p L b).length
def aKA:List D->Prop:=λds=>∃p L b,p∈bX/\StkOk p L/\Gr p L b/\ds=[.lst (L.map<|mvD p),.int b,.tup (bA<|st0 p)]
def aBo:List D->Prop:=λds=>∃p L b,p∈bX/\StkOk p L/\(L.map λs=>sqD s.1).Nodup/\Gr p L b/\ds=[cP p,.lst<|L.map skD,.int b]
variable {tg iter o:Expr}{r ra rb:R}{d:D}{rest:List BJ}
structure aKO(dv:Array BD)(K:aB)(x qual:Str)(st:BJ)(f:BF)(fd:AN):Prop where
 ex:∃ (oc:BD) (od:Option BF) (T:BF) (kV doc pm:BD) (an:Option BF) (cdv ct:BD) (osl:Array (Option BD)) (tc:BD) (td:Option BF) (n:Nat) (tsl:Array (Option BD)),
  fd=cD x qual (eP st) (cF st) (aN st) (.ref T) kV doc pm an cdv ct/\K.lookup f=some ⟨oc,od,.func fd,osl⟩/\eI K cdv qual=true/\K.lookup T=some ⟨tc,td,.seq dv n,tsl⟩
 kp:cK K (.ref f)=true
structure CalleeE(xs:List BD)(P:AD)(w:AL)(K:aB)(mg:Str->Option BD)(base:BH)(x:Str)(k n:Nat)(C:List D->R->Prop):Prop where
 ex:∃ (f:BF) (fd:AN) (ps:List Str),mg x=some (.ref f)/\cK K (.ref f)=true/\Binds K fd ps []/\Binds K fd ps xs/\FnOk P w K mg base CX0 k f fd ps (spC K n C)
def CalleeE.full{xs:List BD}{C:List D->R->Prop}(G:CalleeE xs P w K mg base x k n C):bF P w K mg base x k n C:=by obtain⟨f,fd,ps,a,b,c,_,d⟩:=G.ex;exact⟨f,fd,ps,a,b,c,d⟩
def qM{xs:List BD}{C:List D->R->Prop}(F:aKO dv K x qual st f fd)(S:iD N ps (aN st))(hm:mg x=some (.ref f)) (hb:∀ (s:BE) (T:BF) (o:BI) (nn:Nat) (kV doc pm:BD) (an:Option BF) (cdv ct:BD) (us:List BD),s.heap.get? T=some o->o.data=.seq dv nn->us.length=ps.length->BindsTo s (cD x qual (eP st) (cF st) (aN st) (.ref T) kV doc pm an cdv ct) ⟨us,[]⟩ (ps.zip us))(hb2:∀ (s:BE) (T:BF) (o:BI) (nn:Nat) (kV doc pm:BD) (an:Option BF) (cdv ct:BD) (us:List BD),s.heap.get? T=some o->o.data=.seq dv nn->us.length+xs.length=ps.length->BindsTo s (cD x qual (eP st) (cF st) (aN st) (.ref T) kV doc pm an cdv ct) ⟨us,[]⟩ (ps.zip<|us++xs))(body:∀ (cdv:BD) (A:BG) (outer:List Env) (s:BE) (H:Hp) (E:XK),Room k (A.deeper (Ad qual (aN st) s.heap.objs.size f cdv))→∀ds r,ds.length=ps.length→C ds r→PSd (gO CX0 P w K mg base N qual (aN st) f cdv A outer s H E).nox (init N.length ds) (cF st) {nx:=λ_=>r=.val .non,rt:=λr'=>r'=r}):CalleeE xs P w K mg base x (k+1) ps.length C:=by
 obtain⟨oc,od,T,kV,doc,pm,an,cdv,ct,osl,tc,td,n,tsl,rfl,lk,hcd,lT⟩:=F.ex;refine⟨f,cD x qual (eP st) (cF st) (aN st) (.ref T) kV doc pm an cdv ct,ps,hm,F.kp,λs us KX hl=>?_,λs us KX hl=>?_,?_⟩
 ·rw[bG] at hl ⊢;exact hb s T _ n kV doc pm an cdv ct us (KX T _ lT) rfl hl
 ·exact hb2 s T _ n kV doc pm an cdv ct us (KX T _ lT) rfl (by rw[<-hl,aP])
 ·refine aHN lk hcd S (λvs H Q E h=>h.1) λA outer s H vs Q E hr h=>?_
  obtain⟨hl,sm,ds,r,rl,c,q⟩:=h;have hds:ds.length=ps.length:=by rw[<-rl.len];exact hl
  refine⟨_,pss_w.nox,?_⟩;have hlen:N.length-vs.length=N.length-ds.length:=by rw[rl.len]
  have S0:StF K H H H (L2.start N vs) (init N.length ds):=by
   refine⟨Same.refl _,Same.refl _,sm,?_,?_⟩
   ·unfold L2.start init;rw[hlen];exact jO (m:=0) rl
   ·unfold init;rw[jP];exact cQ
  refine(body cdv A outer s H E hr ds r hds c (L2.start N vs) H H S0).imp ?_ ?_ (λ_ _ ⟨_,_,_,_,z⟩=>z) λ_ _ ⟨_,_,_,_,z⟩=>z
  ·rintro σ' H' ⟨sd',F',S',s',e⟩;subst e;exact q .non H' ⟨F',S'.base,S'.sub,S'.smp,by simp only[ResOk,Rep]⟩
  ·rintro v H' ⟨r',ro,e⟩;subst e;exact q v H' ro
theorem aCx{xs:List BD}{C:List D->R->Prop}(G:CalleeE xs X.prog X.w X.K X.mg X.base x k n C)(hr:Room k X.A)(hg:Gl X x)(ha:PAd X sd (e::es) (ds.map R.val))(hx:Vals vx xs)(hd:∀F,RepL X.K F dx vx)(hc:C (ds++dx) r)(hb:match r with | .bor _=>False|_=>True)(hn:ds.length+dx.length=n)(hdb:(x==("__debug__":Str))=false:=by decide) (he:AB (e::es) X.env=(false,eval e X.env)::AB es X.env:=by rfl) (hpl:(AV pos<|AB es X.env).any (·.1)=false:=by rfl):PEd X sd (.Call (.Name x p) (e::es) [] pos) r:=.mk λσ F H S=>by
 obtain⟨f,fd,ps,hm,hk,_,bd,G⟩:=G.ex;refine(qQ (FnOk.framed G) hr hg hm hk bd hx tR pN hdb he hpl).to<|(ha σ F H S).imp λvs H1 ⟨F1,S1,s1,q1⟩=>?_;have rl:=q1.vals.app<|hd F1;refine⟨by rw[rl.len,aP];exact hn,S1.smp,F1,_,r,S1.sub,rl,hc,λv F2 F3 H' s2 s3 s4 sH sm kp res=>?_⟩
 have no:∀l,l∈cS sd->F2 l=none/\F3 l=none:=λl hl=>by obtain⟨n1,xs,q,_⟩:=S1.slots.owns hl;have n3:=kp l _ q n1;exact⟨s3.free n3,n3⟩
 refine⟨F2,⟨λb o e=>s2 _ _<|S1.base _ _ e,s3.trans s4,sm,S1.slots.mono s2 λl hl=>⟨(no l hl).1,λys e=>sH _ _ e⟩,S1.nd⟩,s1.trans s2,?_⟩;cases r with
 |val d=>exact res
 |own ds'=>obtain⟨l,xs,e,n,q,rl',_⟩:=res;exact⟨l,xs,e,n,s4 _ _ q,rl',λhl=>by rw[(no l hl).2] at q;cases q⟩
 |pr d ls=>obtain⟨t,l,xs,y,e,f,g,n,q,rl',_⟩:=res;exact⟨t,l,xs,y,e,f,g,n,s4 _ _ q,rl',λhl=>by rw[(no l hl).2] at q;cases q⟩
 |ox G=>obtain⟨ls,nd,h,g⟩:=res;refine⟨ls,nd,λl hl=>?_,λF' H'' sF k=>g F' H'' sF λl hl ob q=>k l hl ob<|s4 _ _ q⟩;obtain⟨n,⟨ob,q,w⟩,_⟩:=h l hl;exact⟨n,⟨ob,s4 _ _ q,w⟩,λhm=>by rw[(no l hm).2] at q;cases q⟩
 |bor ds'=>exact hb.elim
def aAZ{T:BF}{oc kV doc pm cdv ct tc:BD}{od an td:Option BF}(l:K.lookup f=some ⟨oc,od,.func<|cD x qual (eP st) (cF st) (aN st) (.ref T) kV doc pm an cdv ct,osl⟩) (c:eI K cdv qual=true) (k:cK K (.ref f)=true) (t:K.lookup T=some ⟨tc,td,.seq dv n,tsl⟩):aKO dv K x qual st f (cD x qual (eP st) (cF st) (aN st) (.ref T) kV doc pm an cdv ct):=⟨⟨_,_,_,_,_,_,_,_,_,_,_,_,_,_,rfl,l,c,t⟩,k⟩
theorem aDC{m:Int}(hg:Gl X "range")(hm:X.mg "range"=none)(h:PEd X sd a (.val<|.int m))(hn: -(2^62)<=m/\m<2^62)(hs:AB [a] X.env=[(false,eval a X.env)]:=by rfl):PId X sd PT0 tg (.Call (.Name "range" p) [a] [] pos) (iW 0 m.toNat):=.mk λσ F H S=>
 (aAe hg hm pN hs).to ((aA h aE trivial hs σ F H S).imp fun vs H1 ⟨F1,S1,s1,q1⟩=>by
  cases q1 with
  |cons q1 q2=>
   cases q2;subst q1
   exact⟨m,rfl,by lia,hn.2,F1,S1,s1,uQ⟩)
theorem aIF{np hpos:Pos}{CE:BF}(hg:Gl X xE)(hm:X.mg xE=some (.ref CE))(hmt:kH X.K cls (.ref CE)=some true)(hb:∀ (ξ:BD->BE->Prop) (pn:List (BF×BI)) (F:Hp),Takes {X with H₀:=F,B₀:=F,hB:=λ_ _ e _=>e,xe:=ξ,pn:=pn} cls sd->PSd {X with H₀:=F,B₀:=F,hB:=λ_ _ e _=>e,xe:=ξ,pn:=pn} sd body {nx:=λ_=>False,rt:=λ_=>False})(hh:∀ (a:BF) (pn:List (BF×BI)),PSd {X with A:=X.A.mark (some<|.ref a),calm:=false,pn:=pn,xe:=λ_ _=>False} sd (b₀::suite) {nx:=E.nx,rt:=λ_=>False})(hB₀:X.B₀=X.H₀:=by rfl) (hex:X.ex=[]:=by rfl) (hst:X.stack=X.env::X.outer/\X.env.frame=some X.env.locals:=by exact⟨rfl,rfl⟩) (hdb:(xE==("__debug__":Str))=false:=by decide):PSd1 X sd (.Try body [.ExceptHandler (some<|.Name xE np) none (b₀::suite) hpos] [] [] pos) E:=.mk λσ F H S za s I=>by
 rw[hB₀] at S;obtain⟨ξ,hξ⟩:∃ξ:BD->BE->Prop,ξ=λe s'=>∃a T σ' F' H',e=.ref a/\Inv X za σ' H' s'/\StF X.K F F' H' σ' sd/\Exc X.s₀.heap s'.heap H' a T cls/\∀p∈X.pn++za,p.1≠a/\p.1≠T:=⟨_,rfl⟩
 have I':Inv {X with H₀:=F,B₀:=F,hB:=λ_ _ e _=>e,xe:=ξ,pn:=X.pn++za} [] σ H s:=aKg I S rfl;have S':StF X.K F F H σ sd:=⟨Same.refl _,S.sub,S.smp,S.slots,S.nd⟩
 have tk:Takes {X with H₀:=F,B₀:=F,hB:=λ_ _ e _=>e,xe:=ξ,pn:=X.pn++za} cls sd:=λpins' σ' F' H' s' a T I2 S2 x2 hp=>by rw[hξ];exact⟨a,T,σ',F',H',rfl,aJX I S rfl I2,S2,x2,λp hp'=>hp p<|bN _ hp'⟩
 refine wpAny_Try_except<|AU (hb ξ (X.pn++za) F tk σ F H S' [] s I') (λf s1 q=>?_) λe s1 hx=>?_
 ·cases f with
  |next=>obtain⟨_,_,_,_,_,_,_,z⟩:=q;exact z.elim
  |brk=>obtain⟨_,_,_,_,_,_,_,z⟩:=q;exact z.elim
  |cont=>obtain⟨_,_,_,_,_,_,_,z⟩:=q;exact z.elim
  |ret u=>obtain⟨_,_,_,_,_,_,_,z⟩:=q;exact z.elim
 ·rw[hξ] at hx;obtain⟨a,T,σ1,F1,H1,rfl,I1,S1,x1,hp⟩:=hx;have hd:aKR X za σ1 H1 s1 a T cls .none:=⟨I1,⟨x1.free,x1.new,λp h=>(hp p h).1⟩,⟨x1.freeT,x1.newT,λp h=>(hp p h).2⟩,x1.obj⟩;refine aAG hst I.ok.frames hex hd λh2 T2 hd2=>?_
  refine mU hst hd2 λh3 hd3=>?_
  have LT:PySem.W.Looks (AG X.prog X.w) h3 (typeOf<|.ref a) cls:=by obtain⟨oe,vs,oT,ts,a0,he,hc,_⟩:=hd3.obj;exact hc.1▸(PySem.W.Looks.ld he).andThen .now
  refine wpAny_handleBy_cons (codeAny_handlers_test<|Calls.Name_function_global hd3.inv.ok.kind hg (Calls.loadGlobal_global (by rw[hd3.inv.ok.glob];exact hd3.inv.mod.glob.keeps hd3.inv.bk) hm<|(aJv hd3.inv.kIn LT hmt).at ?_) hdb) (by intro q;cases q);refine codeAny_handlers_suite<|mU hst hd3 λh4 hd4=>?_;have I6:=hd4.inv
  have I7:Inv {X with A:=X.A.mark (some<|.ref a),calm:=false,pn:=X.pn++za,xe:=λ_ _=>False} [] σ1 H1 {s1 with heap:=h4}:=
   ⟨⟨I6.ok.mod,I6.ok.kind,I6.ok.glob,I6.ok.blt,I6.ok.above,I6.ok.inj,I6.ok.has,I6.ok.cab,λz=>(by cases z),I6.ok.frames,I6.ok.stk,I6.ok.exf,I6.ok.bs,I6.ok.bsz,I6.ok.noex,I6.ok.exfs,I6.ok.funs,I6.ok.frf⟩,I6.os,I6.bare,I6.base,I6.loc,I6.cell,I6.free,I6.freeC,λp hp=>by rw[bG] at hp;exact I6.pin p hp,I6.hok,I6.len⟩
  have S1':StF X.K X.B₀ F1 H1 σ1 sd:=hB₀▸⟨λb o e=>S1.base _ _<|S.base _ _ e,S1.sub,S1.smp,S1.slots,S1.nd⟩;refine AU (hh a (X.pn++za) σ1 F1 H1 S1' [] _ I7) (λf s8 q=>?_) λ_ _ z=>False.elim z
  cases f with
  |next=>obtain⟨σ8,H8,I8,sd8,F8,S8,s8',qn⟩:=q;exact⟨σ8,H8,⟨I.ok,I8.os,I8.bare,I8.base,I8.loc,I8.cell,I8.free,I8.freeC,λp hp=>I8.pin p (by rw[bG];exact hp),I8.hok,I8.len⟩,sd8,F8,S8,λb o e=>s8' _ _<|S1.base _ _ e,qn⟩
  |brk=>obtain⟨_,_,_,_,_,_,_,z⟩:=q;exact z.elim
  |cont=>obtain⟨_,_,_,_,_,_,_,z⟩:=q;exact z.elim
  |ret u=>obtain⟨_,_,_,_,_,_,_,z⟩:=q;exact z.elim
def yT{C:List D->Prop}(F:aKO dv K x qual st f fd)(S:iD N ps (aN st))(hm:mg x=some (.ref f)) (hb:∀ (s:BE) (T:BF) (o:BI) (nn:Nat) (kV doc pm:BD) (an:Option BF) (cdv ct:BD) (us:List BD),s.heap.get? T=some o->o.data=.seq dv nn->us.length=ps.length->BindsTo s (cD x qual (eP st) (cF st) (aN st) (.ref T) kV doc pm an cdv ct) ⟨us,[]⟩ (ps.zip us))(body:∀ (cdv:BD) (A:BG) (outer:List Env) (s:BE) (H:Hp) (E:XK),Room k (A.deeper (Ad qual (aN st) s.heap.objs.size f cdv))→(∀a H',Same H H'→Smp H'→E (.ref a) (some a) H')→∀ds,ds.length=ps.length→C ds→PSd (gO (CX1 P w cls) P w K mg base N qual (aN st) f cdv A outer s H E) (init N.length ds) (cF st) {nx:=λ_=>False,rt:=λ_=>False}):fS P w K mg base x (k+1) ps.length C cls [] []:=by
 obtain⟨oc,od,T,kV,doc,pm,an,cdv,ct,osl,tc,td,n,tsl,rfl,lk,hcd,lT⟩:=F.ex;refine⟨f,cD x qual (eP st) (cF st) (aN st) (.ref T) kV doc pm an cdv ct,ps,hm,F.kp,λs us KX hl=>?_,.nil,aSt lk hcd S<|body cdv⟩;rw[bG] at hl ⊢;exact hb s T _ n kV doc pm an cdv ct us (KX T _ lT) rfl hl
theorem aCD(ds:List D):DL.cutD ds none (some (-1))=ds.take (ds.length-1):=by
 unfold DL.cutD;rw[HT.sIx_none]
 have e:HT.sIx ds.length ds.length (some (-1))=ds.length-1:=by show(if(-1)<0 then(-1+(ds.length:Int)).toNat else min (-1).toNat ds.length)=_;rw[zt<|by decide];lia
 rw[e];simp
theorem lU{β:Type}{f:Nat->Option β}{y:β}:∀ {n:Nat},i<n->(∀j,j<i->f j=none)->f i=some y->(bT n).findSome? f=some y
 |n+1,h,h1,h2=>by
  rw[zO,List.findSome?_append]
  by_cases q:i<n
  ·rw[lU q h1 h2];rfl
  ·have:i=n:=by lia
   subst this;rw[aAQ.mpr λj hj=>h1 j<|cN.mp hj];simp[h2]
def qJ{β:Type}{f:Nat->Option β}(h:∀j,j<n->f j=none):(bT n).findSome? f=none:=aAQ.mpr λj hj=>h j<|cN.mp hj
def ocD:Option Ch->D
 |none=>.non
 |some c=>chD c
def pwQ(L:List SK)(row:List Nat)(pl mn:Nat):Int:=vC (vS L<|(row.drop pl).take mn)-1
def fzP(p:Int×Int)(L:List SK)(row:List Nat)(bs:List Nat)(m pl:Nat):Option (Option Ch):=if 500<(bkF p L (pwQ L row pl<|m+1)).length then some none else(pcQ p L row pl (m+1) bs).map λe=>some (pl,m+1,e.2.1)
def fzM(p:Int×Int)(L:List SK)(row:List Nat)(bs:List Nat)(m:Nat):Option (Option Ch):=(bT<|row.length-m).findSome?<|fzP p L row bs m
def fzQ(p:Int×Int)(L:List SK)(bs:List Nat)(w:Nat)(row:List Nat):Option (Option Ch):=(bT w).findSome?<|fzM p L row bs
structure aSo(p:Int×Int)(L:List SK)(b:Nat):Prop where
 hp:p∈bX
 st:StkOk p L
 nd:(L.map λs=>sqD s.1).Nodup
 gr:Gr p L (b:Int)
structure McZ(p:Int×Int)(L:List SK)(row:List Nat)(o:Option (List Nat)):Prop where
 hp:p∈bX
 st:StkOk p L
 nd:(L.map λs=>sqD s.1).Nodup
 rw:RowOk L row
 rl:row.length<=30
 lk:zY p o
structure PcX(p:Int×Int)(L:List SK)(row:List Nat)(pl mn:Nat)(o:Option (List Nat)):Prop where
 rw:∀t∈row,t<L.length
 rl:row.length<=100
 m1:1<=mn
 le:pl+mn<=row.length
 lk:zY p o
 bk:∃b:Nat,vC (vS L<|(row.drop pl).take mn)-1=(b:Int)/\aSo p L b
theorem aEl{p:Int×Int}(S:StkOk p L):∀ {row:List Nat},RowOk L row->(row.length:Int)<=S45.prQ (prK L) row/\S45.prQ (prK L) row<=9*row.length
 |[],_=>⟨zP _,zP _⟩
 |k::r,h=>by
  obtain⟨h1,h2⟩:=aEl S λi hi=>h i<|aH _ hi
  obtain⟨_,h3,h4⟩:=S.st _<|getD_mem (d:=(AS)) (h k<|aO ..);have e:S45.prQ (prK L) (k::r)=(L.getD k AS).2+S45.prQ (prK L) r:=by rfl
  rw[bJ];lia
theorem McZ.bd{p:Int×Int}{o:Option (List Nat)}(I:McZ p L row o){pl mn:Nat}(m1:1<=mn)(hw:pl+mn<=row.length):∃b:Nat,pwQ L row pl mn=(b:Int)/\b<=300:=by
 have hl:((row.drop pl).take mn).length=mn:=by rw[cE,dY];lia
 have ok:RowOk L ((row.drop pl).take mn):=λt ht=>I.rw t (dR<|dA ht)
 obtain⟨h1,h2⟩:=aEl I.st ok;have:=I.rl;unfold pwQ;rw[aEr];exact⟨(S45.prQ (prK L) ((row.drop pl).take mn)-1).toNat,by lia,by lia⟩
theorem McZ.pc{p:Int×Int}{o:Option (List Nat)}(I:McZ p L row o){pl mn:Nat}(m1:1<=mn)(hw:pl+mn<=row.length)(g:¬ 500<(bkF p L<|pwQ L row pl mn).length):aOb p L row pl mn o:=by obtain⟨b,eb,hb⟩:=I.bd m1 hw;rw[eb] at g;exact⟨I.rw,by have:=I.rl;lia,m1,hw,I.lk,b,eb,I.hp,I.st,I.nd,⟨I.st.le,by lia,by lia⟩,by lia⟩
theorem McZ.px{p:Int×Int}{o:Option (List Nat)}(I:McZ p L row o){pl mn:Nat}(m1:1<=mn)(hw:pl+mn<=row.length)(g:500<(bkF p L<|pwQ L row pl mn).length):PcX p L row pl mn o:=by obtain⟨b,eb,hb⟩:=I.bd m1 hw;rw[eb] at g;exact⟨I.rw,by have:=I.rl;lia,m1,hw,I.lk,b,eb,I.hp,I.st,I.nd,by lia,g⟩
structure aQi(K:aB)(mg:Str->Option BD)(CN:BF):Prop where
 ex:nQ K CN aSx "ValueError.__new__"=true
 nw:mg "TooGreat"=some (.ref CN)/\kH K (.ref CN) (.ref CN)=some true
def aSy{α:Type}(p:Int×Int)(L:List SK):α->List D->Prop:=λ_ ds=>∃b:Nat,aSo p L b/\ds=[.int (b:Int)]
def XPf{α:Type}(p:Int×Int)(L:List SK):α->List D->Prop:=λ_ ds=>∃row pl mn o,PcX p L row pl mn o/\ds=[.tup<|bA row,.int (pl:Int),.int (mn:Int),lkD o]
def aLh:List D->Prop:=λds=>∃p L row pl mn o,PcX p L row pl mn o/\ds=[cP p,.lst<|L.map skD,.tup<|bA row,.int (pl:Int),.int (mn:Int),lkD o]
def aHy{α:Type}(p:Int×Int)(L:List SK):α->List D->D->Prop:=λ_ ds d=>∃row o w x,McZ p L row o/\w<=100/\fzQ p L (bxQ p.2.toNat o) w row=kZ some x/\ds=[.tup<|bA row,lkD o,.int (w:Int)]/\d=ocD x
def aHL{α:Type}(p:Int×Int)(L:List SK):α->List D->Prop:=λ_ ds=>∃row o w,McZ p L row o/\w<=100/\fzQ p L (bxQ p.2.toNat o) w row=some none/\ds=[.tup<|bA row,lkD o,.int (w:Int)]
def aLc:List D->R->Prop:=λds r=>∃p L row o w x,McZ p L row o/\w<=100/\fzQ p L (bxQ p.2.toNat o) w row=kZ some x/\ds=[cP p,.lst<|L.map skD,.tup<|bA row,lkD o,.int (w:Int)]/\r=.val (.bl x.isNone)
def aLf:List D->Prop:=λds=>∃p L row o w,McZ p L row o/\w<=100/\fzQ p L (bxQ p.2.toNat o) w row=some none/\ds=[cP p,.lst<|L.map skD,.tup<|bA row,lkD o,.int (w:Int)]
def aJH:List D->R->Prop:=λds r=>∃p L row pl mn o d g,((aOb p L row pl mn o/\d=pfD (pcQ p L row pl mn<|bxQ p.2.toNat o)/\g=false)\/(PcX p L row pl mn o/\d=.non/\g=true))/\ds=[cP p,.lst<|L.map skD,.tup<|bA row,.int (pl:Int),.int (mn:Int),lkD o]/\r=.val (.tup [d,.bl g])
def zzD:Option (Option Ch)->D
 |none=>.non
 |some none=>.str "great"
 |some (some c)=>chD c
def aET:List D->R->Prop:=λds r=>∃p L row o,∃w:Nat,McZ p L row o/\w<=100/\ds=[cP p,.lst<|L.map skD,.tup<|bA row,lkD o,.int (w:Int)]/\r=.val (zzD<|fzQ p L (bxQ p.2.toNat o) w row)
noncomputable def tzD:Option (Option Ch)->D
 |none=>.bl true
 |some none=>.str "great"
 |some (some _)=>.bl false
def excG(cls:BD):V->Hp->Prop:=λv H=>∃a oe,v=.ref a/\H a=some (exO a oe)/\oe.cls=cls
def aNS(cls:BD):D:=.any<|excG cls
variable {a:BF}
def aMM(I:Inv X za σ H s)(hn:H a=none)(he:s.heap.get? a=some oe)(h0:X.s₀.heap.get? a=none)(hl:X.env.locals≠a)(hc:∀v,oe.data≠ .cell v)(hp:∀p∈X.pn++za,p.1≠a):Inv X za σ (upd H a<|exO a oe) s:=by
 have nn:∀ {b o},H b=some o->b≠a:=λe z=>by rw[z,hn] at e;cases e
 refine⟨I.ok,I.os,I.bare,⟨I.base.keep,I.base.slot,λb o e n hx=>?_,I.base.there,λb xs e=>?_,λb u xs e=>?_,λb ps e=>?_⟩,I.loc,I.cell,?_,λx c e=>?_,λp hp'=>?_,λb u e=>?_,I.len⟩
 ·rw[aW λz=>by rw[z,h0] at e;cases e];exact I.base.free b o e n hx
 ·have q:=I.base.tups b xs e;rw[aW<|nn q];exact q
 ·have q:=I.base.frzs b u xs e;rw[aW<|nn q];exact q
 ·obtain⟨m,q⟩:=I.base.tbls b ps e;exact⟨m,by rw[aW<|nn q];exact q⟩
 ·rw[aW hl];exact I.free
 ·have ne:c≠a:=λz=>by obtain⟨v,o,g,d⟩:=I.cell x c e;rw[z,he] at g;cases g;exact hc v d
  rw[aW ne];exact I.freeC x c e
 ·obtain⟨g,n,r⟩:=I.pin p hp';exact⟨g,by rw[aW<|hp p hp'];exact n,r⟩
 ·by_cases hb:b=a
  ·subst hb;rw[bH] at e;cases e;exact pU he
  ·rw[aW hb] at e;exact(I.hok b u e).stay (λc v _ q=>q) (λc q=>by rw[aW<|nn q];exact q) λc xs q=>by rw[aW<|nn q];exact q
theorem aHY{xE n:Str}{np hpos:Pos}{CE:BF}(j:Nat)(hN:X.N.Nodup)(hj:X.N[j]? =some n)(hloc:X.env.scope.names.lookup n=some .local)(hg:Gl X xE)(hm:X.mg xE=some (.ref CE))(hmt:kH X.K cls (.ref CE)=some true)(hb:∀ (ξ:BD->BE->Prop) (pn:List (BF×BI)) (F:Hp),Takes {X with H₀:=F,B₀:=F,hB:=λ_ _ e _=>e,xe:=ξ,pn:=pn} cls sd->PSd {X with H₀:=F,B₀:=F,hB:=λ_ _ e _=>e,xe:=ξ,pn:=pn} sd body {nx:=λ_=>False,rt:=λ_=>False})(hh:∀ (a:BF) (pn:List (BF×BI)),PSd {X with A:=X.A.mark (some<|.ref a),calm:=false,pn:=pn,xe:=λ_ _=>False} (sd.set j (.val<|aNS cls)) (b₀::suite) {nx:=λsd'=>E.nx<|sd'.set j .un,rt:=λ_=>False})(hB₀:X.B₀=X.H₀:=by rfl) (hex:X.ex=[]:=by rfl) (hst:X.stack=X.env::X.outer/\X.env.frame=some X.env.locals:=by exact⟨rfl,rfl⟩) (hdb:(xE==("__debug__":Str))=false:=by decide):PSd1 X sd (.Try body [.ExceptHandler (some<|.Name xE np) (some n) (b₀::suite) hpos] [] [] pos) E:=.mk λσ F H S za s I=>by
 rw[hB₀] at S;obtain⟨ξ,hξ⟩:∃ξ:BD->BE->Prop,ξ=λe s'=>∃a T σ' F' H',e=.ref a/\Inv X za σ' H' s'/\StF X.K F F' H' σ' sd/\Exc X.s₀.heap s'.heap H' a T cls/\∀p∈X.pn++za,p.1≠a/\p.1≠T:=⟨_,rfl⟩
 have I':Inv {X with H₀:=F,B₀:=F,hB:=λ_ _ e _=>e,xe:=ξ,pn:=X.pn++za} [] σ H s:=aKg I S rfl;have S':StF X.K F F H σ sd:=⟨Same.refl _,S.sub,S.smp,S.slots,S.nd⟩
 have tk:Takes {X with H₀:=F,B₀:=F,hB:=λ_ _ e _=>e,xe:=ξ,pn:=X.pn++za} cls sd:=λpins' σ' F' H' s' a T I2 S2 x2 hp=>by rw[hξ];exact⟨a,T,σ',F',H',rfl,aJX I S rfl I2,S2,x2,λp hp'=>hp p<|bN _ hp'⟩
 refine wpAny_Try_except<|AU (hb ξ (X.pn++za) F tk σ F H S' [] s I') (λf s1 q=>?_) λe s1 hx=>?_
 ·cases f with
  |next=>obtain⟨_,_,_,_,_,_,_,z⟩:=q;exact z.elim
  |brk=>obtain⟨_,_,_,_,_,_,_,z⟩:=q;exact z.elim
  |cont=>obtain⟨_,_,_,_,_,_,_,z⟩:=q;exact z.elim
  |ret u=>obtain⟨_,_,_,_,_,_,_,z⟩:=q;exact z.elim
 ·rw[hξ] at hx;obtain⟨a,T,σ1,F1,H1,rfl,I1,S1,x1,hp⟩:=hx;have hd:aKR X za σ1 H1 s1 a T cls .none:=⟨I1,⟨x1.free,x1.new,λp h=>(hp p h).1⟩,⟨x1.freeT,x1.newT,λp h=>(hp p h).2⟩,x1.obj⟩;refine aAG hst I.ok.frames hex hd λh2 T2 hd2=>?_
  refine mU hst hd2 λh3 hd3=>?_
  have LT:PySem.W.Looks (AG X.prog X.w) h3 (typeOf<|.ref a) cls:=by obtain⟨oe,vs,oT,ts,a0,he,hc,_⟩:=hd3.obj;exact hc.1▸(PySem.W.Looks.ld he).andThen .now
  refine wpAny_handleBy_cons (codeAny_handlers_test<|Calls.Name_function_global hd3.inv.ok.kind hg (Calls.loadGlobal_global (by rw[hd3.inv.ok.glob];exact hd3.inv.mod.glob.keeps hd3.inv.bk) hm<|(aJv hd3.inv.kIn LT hmt).at ?_) hdb) (by intro q;cases q);refine codeAny_handlers_suite_as<|mU hst hd3 λh4 hd4=>?_;obtain⟨oe,vs,oT,ts,a0,he,hc,hdt,_⟩:=hd4.obj
  have hl:X.env.locals≠a:=λz=>by obtain⟨m,⟨o,es,ep,ho,r,_⟩,_⟩:=hd4.inv.loc;rw[z] at ho;have:=bZ.inj<|he.symm.trans ho;rw[<-this,hdt] at r;cases r
  have I5:=aMM hd4.inv hd4.fa.1 he hd4.fa.2.1 hl (λv z=>by rw[hdt] at z;cases z) hd4.fa.2.2;have S1':StF X.K X.B₀ F1 H1 σ1 sd:=hB₀▸⟨λb o e=>S1.base _ _<|S.base _ _ e,S1.sub,S1.smp,S1.slots,S1.nd⟩;obtain⟨S5,s5⟩:=S1'.lay (o:=exO a oe) hd4.fa.1 trivial;refine sW (v:=.ref a) I5 hN hj (.inl hloc) rfl (λs6 I6=>?_)<|.inr hloc
  have I7:Inv {X with A:=X.A.mark (some<|.ref a),calm:=false,pn:=X.pn++za,xe:=λ_ _=>False} [] (σ1.set j (some<|.ref a)) (upd H1 a<|exO a oe) s6:=
   ⟨⟨I6.ok.mod,I6.ok.kind,I6.ok.glob,I6.ok.blt,I6.ok.above,I6.ok.inj,I6.ok.has,I6.ok.cab,λz=>(by cases z),I6.ok.frames,I6.ok.stk,I6.ok.exf,I6.ok.bs,I6.ok.bsz,I6.ok.noex,I6.ok.exfs,I6.ok.funs,I6.ok.frf⟩,I6.os,I6.bare,I6.base,I6.loc,I6.cell,I6.free,I6.freeC,λp hp=>by rw[bG] at hp;exact I6.pin p hp,I6.hok,I6.len⟩
  have S7:StF X.K X.B₀ (upd F1 a<|exO a oe) (upd H1 a<|exO a oe) (σ1.set j (some<|.ref a)) (sd.set j (.val<|aNS cls)):=S5.set j (⟨⟨a,rfl⟩,λH' k=>⟨a,oe,rfl,k _ _ bH,hc.1⟩⟩)
  refine AU (hh a _ (σ1.set j (some<|.ref a)) _ _ S7 [] s6 I7) (λf s8 q=>?_) λ_ _ z=>False.elim z
  cases f with
  |next=>
   obtain⟨σ8,H8,I8,sd8,F8,S8,s8',qn⟩:=q;have I9:Inv X za σ8 H8 s8:=⟨I.ok,I8.os,I8.bare,I8.base,I8.loc,I8.cell,I8.free,I8.freeC,λp hp=>I8.pin p (by rw[bG];exact hp),I8.hok,I8.len⟩;obtain⟨m,hn,hl⟩:=id I9.loc;refine wpAny_nameGoes_keeps hloc hn (by rw[I9.ok.kind];rfl) λh9 v hn9 hs9=>?_
   exact⟨σ8.set j none,H8,aIg I9 hN hj hloc hn hl hn9 hs9,sd8.set j .un,F8,⟨S8.base,S8.sub,S8.smp,S8.slots.set (z:=.un) trivial j,(jB (z:=.un) j S8.nd (λl hl=>by cases hl) cQ).1⟩,λb o e=>s8' _ _ (s5 _ _<|S1.base _ _ e),qn⟩
  |brk=>obtain⟨_,_,_,_,_,_,_,z⟩:=q;exact z.elim
  |cont=>obtain⟨_,_,_,_,_,_,_,z⟩:=q;exact z.elim
  |ret u=>obtain⟨_,_,_,_,_,_,_,z⟩:=q;exact z.elim
def yP{C:BF}{k:Bool}(xc:aOa X.K C)(ru:∀u',RelV cv u'->u'=u)(hk:cU X.K (.ref C) u=some k):lA X (.builtin "isinstance") (λxs H Q=>(∃ad oe,xs=[.ref ad,cv]/\H ad=some (exO ad oe)/\oe.cls=.ref C)/\Q (.bl k) H):=by
 intro za s σ H xs us Q I r h;obtain⟨⟨ad,oe,rfl,g,hc⟩,q⟩:=h;obtain⟨u1,u2,rfl,r1,r2⟩:=aLl r;cases(r1);have e:=ru u2 r2;subst e;exact eJ (aIN xc) I.kIn ⟨oe,(I.hok ad _ g).1,hc⟩ hk (by intro q;cases q) λtk=>⟨.bl k,H,I.tok tk,rfl,q⟩
def aFm{j:Nat}(S:StF K H₀ F H σ sd)(hs:sd[j]? =some (.val<|aNS cls)):∃ad oe,σ[j]? =some (some<|.ref ad)/\H ad=some (exO ad oe)/\oe.cls=cls:=by obtain⟨o,h1,v,h2,h3⟩:=S.slots.get hs;obtain⟨ad,oe,rfl,g,c⟩:=h3.2 H S.sub;subst h2;exact⟨ad,oe,h1,g,c⟩
def pZ(j:Nat){C CE:BF}{k:Bool}(xc:aOa X.K C)(hg:Gl X "isinstance")(hm:X.mg "isinstance"=none)(hgx:Gl X x)(hmx:X.mg x=some (.ref CE))(hk:cU X.K (.ref C) (.ref CE)=some k)(hj:sd[j]? =some (.val (aNS<|.ref C)))(hy:PE X (.Name y p1) (iQ j))(hdb:(x==("__debug__":Str))=false:=by decide)(he:AB (.Name y p1::[.Name x p2]) X.env=(false,eval (.Name y p1) X.env)::AB [.Name x p2] X.env:=by rfl) (hpl:(AV pos<|AB [.Name x p2] X.env).any (·.1)=false:=by rfl) (hs2:AB [.Name x p2] X.env=(false,eval (.Name x p2) X.env)::AB [] X.env:=by rfl):PEd X sd (.Call (.Name "isinstance" p) [.Name y p1, .Name x p2] [] pos) (.val<|.bl k):=.mk λσ F H S=>by
 obtain⟨ad,oe,h1,g,c⟩:=aFm S hj
 exact(oK (yP (cv:=.ref CE) xc (λu' r=>r) hk) hg hm boot_isinstance (cO hy (cO (wV hgx hmx (v:=.ref CE) rfl hdb) pa_nil hs2) he) (by decide) (by decide) he hpl).to
  ⟨.ref ad,h1,⟨ad,oe,rfl,g,c⟩,F,S,Same.refl _,by simp only[ResOk,Rep]⟩
def aGq(j:Nat){C:BF}{k:Bool}{n:String}(xc:aOa X.K C)(hg:Gl X "isinstance")(hm:X.mg "isinstance"=none)(hgx:Gl X x)(hmx:X.mg x=none)(hv:Ah x=some (.type n))(hk:cU X.K (.ref C) (.type n)=some k)(hj:sd[j]? =some (.val (aNS<|.ref C)))(hy:PE X (.Name y p1) (iQ j))(hn:x≠"__name__":=by decide)(hdb:(x==("__debug__":Str))=false:=by decide)(he:AB (.Name y p1::[.Name x p2]) X.env=(false,eval (.Name y p1) X.env)::AB [.Name x p2] X.env:=by rfl) (hpl:(AV pos<|AB [.Name x p2] X.env).any (·.1)=false:=by rfl) (hs2:AB [.Name x p2] X.env=(false,eval (.Name x p2) X.env)::AB [] X.env:=by rfl):PEd X sd (.Call (.Name "isinstance" p) [.Name y p1, .Name x p2] [] pos) (.val<|.bl k):=.mk λσ F H S=>by
 obtain⟨ad,oe,h1,g,c⟩:=aFm S hj
 exact(oK (yP (cv:=.ty n) xc (λu' r=>r) hk) hg hm boot_isinstance (cO hy (cO (aEY hgx hmx hv hn hdb) pa_nil hs2) he) (by decide) (by decide) he hpl).to
  ⟨.ref ad,h1,⟨ad,oe,rfl,g,c⟩,F,S,Same.refl _,by simp only[ResOk,Rep]⟩
def aMr:Ah "ValueError"=some (.type "ValueError"):=by boot_by_name
variable {ls:List D}
theorem aFY{Z:Lent X.K}{a:Z.α}{x1}(i j:Nat)(hij:i≠j)(hs:sd[i]? =some (Z.sl a))(hj:sd[j]? =some (.own l ls))(hx:PE X (.Name x p) (iQ j))(h:PEd X sd e (.val d))(hE:E.rt (rtR Z a<|.pr d ls))(hst:AB [e, .Name x p] X.env=(false,eval e X.env)::AB [.Name x p] X.env:=by rfl) (hst2:AB [.Name x p] X.env=(false,eval (.Name x p) X.env)::AB [] X.env:=by rfl):PSd1 X sd (.Return (some<|.Tuple [e, .Name x p] x1 p2) pos) E:=.mk λσ F H S=>
 (rN (aEy (cO eO (cO hx pa_nil hst2) hst))).to ((h σ F H S).imp fun v H1 ⟨F1,S1,s1,q1⟩=>by
  obtain⟨o',h1,h2,n,xs,q,rl⟩:=S1.slots.get hj;obtain⟨o,g1,v0,g2,ow,gg⟩:=S1.slots.get hs;have ev:=Z.hv<|gg F1 H1 (Same.refl _) λ_ _ _ e=>e;subst ev;refine⟨.ref l,by rw[h1,h2],cZ<|eY (show 2<=10000 by decide),λp hp=>?_⟩;obtain⟨S2,s2⟩:=S1.lay (o:=.tup [v,.ref l]) hp trivial;have ne:=cC q hp;have nl:=λz=>gR S1.nd hs (show l∈iM (Z.sl a) from z)<|dZ.mpr ⟨.own l ls,bC (by rw[gU hij];exact hj),by simp[iM]⟩
  have nz:∀b∈Z.own a,b≠p:=λb hb=>by obtain⟨_,ob,e,_⟩:=ow b hb;exact cC e hp
  refine⟨rtR Z a<|.pr d ls,⟨_,S2.base,S2.sub,S2.smp,Z.own a++[l],?_,λb hb=>?_,λF' H' sF k=>?_⟩,hE⟩
  ·exact bK.mpr ⟨gQ S1.nd hs,by simp,λb hb c hc e=>nl<|by rw[<-aK.mp hc,<-e];exact hb⟩
  ·refine⟨?_,?_,by simp[cS]⟩
   ·rcases aV.mp hb with hb|hb
    ·rw[aW<|nz b hb];exact(ow b hb).1
    ·rw[aK.mp hb,aW ne];exact n
   ·rcases aV.mp hb with hb|hb
    ·rw[aW<|nz b hb];exact(ow b hb).2
    ·rw[aK.mp hb,aW ne];exact⟨_,q,trivial⟩
  ·exact⟨p,l,xs,v,rfl,rfl,sF _ _ bH,Rep.mono sF (Rep.mono s2 q1),k l (by simp) _ (by rw[aW ne];exact q),(rl.mono s2).mono sF,λF2 H2 s3 k2=>gg F2 H2 ((s2.trans sF).trans s3) λb hb ob e=>k2 b hb ob (k b (bN _ hb) ob (by rw[aW (nz b hb)];exact e))⟩)
structure aBm(P:AD)(w:AL)(K:aB)(Z:Lent K)(mg:Str->Option BD)(base:BH)(x:Str)(k n:Nat)(C:Z.α->List D->R->Prop):Prop where
 ex:∃ (f:BF) (fd:AN) (ps:List Str),mg x=some (.ref f)/\cK K (.ref f)=true/\Binds K fd ps []/\FnOk P w K mg base CX0 k f fd ps (aQr Z n C)
theorem aGL{Z:Lent X.K}{C:Z.α->List D->R->Prop}(js:List Nat)(h0:PSo X sd e0 Z)(G:aBm X.prog X.w X.K Z X.mg X.base g k n C)(hr:Room k X.A)(hg:Gl X g)(ha:PA X es (aEj js))(hj:js.map (λj=>sd[j]?)=ds.map λd=>some<|Slot.val d)(hc:∀a,C a ds r)(hv:VP r)(hn:ds.length+1=n)(hdb:(g==("__debug__":Str))=false:=by decide) (he:AB (e0::es) X.env=(false,eval e0 X.env)::AB es X.env:=by rfl) (hpl:(AV pos<|AB es X.env).any (·.1)=false:=by rfl):PEd X sd (.Call (.Name g p) (e0::es) [] pos) r:=.mk λσ F H S=>by
 obtain⟨fa,fd,ps,hm,hkp,bd,G⟩:=G.ex;refine(qQ (FnOk.framedR G) hr hg hm hkp bd .nil tR (cO eO ha he) hdb he hpl).to<|(h0.run σ F H S).imp λv H1 ⟨F1,a,S1,s1,so,nd,no⟩=>?_;obtain⟨us,rl,q⟩:=qP S1 hj;refine q H1 _ ?_;show aSc Z n C (v::us++[]) H1 _ _;rw[bG];refine⟨by rw[bJ,rl.len];exact hn,S1.smp,v,us,F1,a,ds,r,rfl,S1.sub,so,nd,rl,hc a,hv,λv' F' H' s2 s3 sm so' rp kp kf=>⟨F',?_,s1.trans s2,rp sd λb hb=>.inr ?_⟩⟩
 ·exact ⟨fun b o e=>s2 _ _ (S1.base _ _ e),s3,sm,S1.slots.mono s2 fun b hb=>by
   obtain⟨n1,ob,e,_⟩:=S1.slots.owns hb
   exact⟨(kf b ob (λz=>no b z hb) e n1).1,λxs e'=>kp b xs (λz=>no b z hb) e'⟩,S1.nd⟩
 ·obtain⟨n1,ob,e,_⟩:=S1.slots.owns hb;exact⟨⟨ob,e⟩,n1⟩
def fnD(f:BF):D:=.any λv _=>v=.ref f
variable {j:Nat}
def aCq(hg:Gl X x)(hm:X.mg x=some (.ref f))(hd:(x==("__debug__":Str))=false:=by decide):PEd X sd (.Name x p) (.val<|fnD f):=.mk λσ F H S=>
 (wV hg hm (v:= .ref f) rfl hd).to ⟨F,S,Same.refl _,by
  simp only[ResOk,fnD,Rep]
  exact⟨⟨f,rfl⟩,λ_ _=>trivial⟩⟩
def aFc(S:StF K H₀ F H σ sd)(hs:sd[j]? =some (.val<|fnD f)):σ[j]? =some (some<|.ref f):=by obtain⟨o,h1,v,h2,h3⟩:=S.slots.get hs;have:=h3.2 F<|Same.refl _;rw[h1,h2,this]
def aKD{E:BD->BE->Prop}(I:Inv X za σ H s)(hs:σ[j]? =some (some<|.ref f))(hN:X.N[j]? =some x)(hv:Vis X.env.scope x)(h:Q (.ref f) s)(hd:(x==("__debug__":Str))=false:=by decide)(hcd:(x==("__classdict__":Str))=false:=by decide):AK (AG X.prog X.w) X.A (eval (.Name x p) X.env) Q E s:=by
 obtain⟨m,hn,hl⟩:=I.loc;obtain⟨u,r,l⟩:=hl j x _ hN hs hv;cases(r)
 rcases l with⟨hk,hm⟩|⟨hk,c,hc,hcell⟩
 ·exact wpAny_Name (wpAny_loadName_local I.ok.kind hk hn hm h) hd
 ·rcases hk with hk|hk
  ·exact wpAny_Name (wpAny_loadName_cell I.ok.kind hk hc hcell h) hd
  ·exact wpAny_Name (wpAny_loadName_free I.ok.kind hk hc hcell h hcd) hd
theorem aCR{C:List D->R->Prop}(j:Nat)(hj:sd[j]? =some (.val<|fnD f))(hN:X.N[j]? =some y)(hv:Vis X.env.scope y)(hf:X.mg g=some (.ref f))(G:bF X.prog X.w X.K X.mg X.base g k n C)(hr:Room k X.A)(ha:PAd X sd (e::es) (ds.map R.val))(hc:C ds r)(hb:match r with | .val _=>True | .pr _ _=>True|_=>False)(hn:ds.length=n)(hdb:(y==("__debug__":Str))=false:=by decide) (hcd:(y==("__classdict__":Str))=false:=by decide) (he:AB (e::es) X.env=(false,eval e X.env)::AB es X.env:=by rfl) (hpl:(AV pos<|AB es X.env).any (·.1)=false:=by rfl):PEd X sd (.Call (.Name y p) (e::es) [] pos) r:=.mk λσ F H S za s I=>by
 obtain⟨f',fd,ps,hm,hk,bd,G⟩:=G.ex;rw[hf] at hm;cases hm;refine AO<|aKD I (aFc S hj) hN hv ?_ hdb hcd;refine dQ I.ok.mod.kin hk (thn (ha σ F H S pos za s I) λus s1 ⟨vs,H1,I1,r1,F1,S1,s1',q1⟩=>⟨I1.kIn,?_⟩) he hpl;refine aEE (FnOk.framed G) hr bd .nil tR I1 r1 ?_;have rl:=q1.vals;refine⟨by rw[bG,rl.len];exact hn,S1.smp,F1,ds,r,S1.sub,by rw[bG];exact rl,hc,λv F2 F3 H' s2 s3 s4 sH sm kp res=>?_⟩
 have no:∀l,l∈cS sd->F2 l=none/\F3 l=none:=λl hl=>by obtain⟨n1,xs,q,_⟩:=S1.slots.owns hl;have n3:=kp l _ q n1;exact⟨s3.free n3,n3⟩
 refine⟨F2,⟨λb o e=>s2 _ _<|S1.base _ _ e,s3.trans s4,sm,S1.slots.mono s2 λl hl=>⟨(no l hl).1,λys e=>sH _ _ e⟩,S1.nd⟩,s1'.trans s2,?_⟩;cases r with
 |val d=>exact res
 |pr d ls=>obtain⟨t,l,xs,y,e,f,g,n,q,rl',_⟩:=res;exact⟨t,l,xs,y,e,f,g,n,s4 _ _ q,rl',λhl=>by rw[(no l hl).2] at q;cases q⟩
 |own _=>exact hb.elim
 |ox _=>exact hb.elim
 |bor _=>exact hb.elim
theorem aCo{C:List D->Prop}(j:Nat)(hj:sd[j]? =some (.val<|fnD f))(hN:X.N[j]? =some y)(hv:Vis X.env.scope y)(hf:X.mg g=some (.ref f))(G:fS X.prog X.w X.K X.mg X.base g k n C cls [] [])(hr:Room k X.A)(ha:PAd X sd (e::es) (ds.map R.val))(hc:C ds)(hn:ds.length=n)(ht:Takes X cls sd)(hex:X.ex=[]:=by rfl)(hdb:(y==("__debug__":Str))=false:=by decide) (hcd:(y==("__classdict__":Str))=false:=by decide) (he:AB (e::es) X.env=(false,eval e X.env)::AB es X.env:=by rfl) (hpl:(AV pos<|AB es X.env).any (·.1)=false:=by rfl):PEx X sd (.Call (.Name y p) (e::es) [] pos):=⟨fun σ F H S za s I=>by
 obtain⟨f',fd,ps,hm,hk,bd,hd,G⟩:=G.ex;rw[hf] at hm;cases hm;refine AO<|aKD I (aFc S hj) hN hv ?_ hdb hcd;refine dQ I.ok.mod.kin hk (thn (ha σ F H S pos za s I) λus s1 ⟨vs,H1,I1,r,F1,S1,s1',q⟩=>⟨I1.kIn,?_⟩) he hpl;have rl:=q.vals.mono S1.sub
 refine qO (Ex:=fun _ _ H'=>Same H1 H'∧Smp H') G hr bd hd I1 r (by
  rw[bG]
  exact⟨by rw[rl.len];exact hn,S1.smp,ds,rl,hc,λa H' q1 q2=>⟨q1,q2⟩⟩) λe s' hcx=>?_
 obtain⟨a,T,H',rfl,os,bare,un,hok,x,sH,smH⟩:=hcx
 exact tP (as:=[]) hex I1 S1 (λb hb=>nomatch hb) ⟨a,T,H',rfl,os,bare,un,hok,x,λb o _ e=>sH b o e,smH⟩ ht⟩
def aCe(pr:Nat->Int)(a b:List Nat):S45.prQ pr (a++b)=S45.prQ pr a+S45.prQ pr b:=by unfold S45.prQ;rw[aX,List.sum_append]
def aGH{p:Int×Int}(hp:p∈bX)(S:StkOk p L){a b:List Nat}(ha:RowOk L a)(hb:RowOk L b)(o:Option (List Nat)):zU p L b o=zU p L a o↔aEo p L a b (bxQ p.2.toNat o)=true:=by
 unfold zU aEo;rw[List.map_inj_left,fG];refine forall_congr' λf=>imp_congr_right λhf=>?_
 rw[decide_eq_true_eq];cases o with
 |some l=>exact⟨λh=>h.symm,λh=>h.symm⟩
 |none=>
  have G:=kC hp hf;have l1:=(kB S a f ha G).1;have l2:=(kB S b f hb G).1
  have e:∀x,x.length=p.2.toNat->wdQ (bxQ p.2.toNat none) x=x:=λx hx=>by unfold wdQ bxQ;rw[<-hx];exact pI (by simp) λi h1 h2=>by simp[bV,h2]
  rw[e _ l1,e _ l2];exact⟨λh=>h.symm,λh=>h.symm⟩
def aLB{p:Int×Int}{pl mn:Nat}{o:Option (List Nat)}(I:aOb p L row pl mn o){e:Bk}(h:pcQ p L row pl mn bs=some e):aEo p L row (row.take pl++e.2.1++row.drop (pl+mn)) bs=true:=by obtain⟨b,eb,Ib⟩:=I.bk;unfold pcQ at h;rw[eb] at h;obtain⟨q1,_,_,q4,_⟩:=(aEU Ib.hp Ib.st Ib.fit).ent e<|aAV h;have:=List.find?_some h;rw[<-aMg Ib.hp Ib.st I.rw q1,aPJ,<-q4];exact this
variable {p:Int×Int}{o:Option (List Nat)}{w:Nat}
set_option tactic.hygienic true in
theorem aKW(I:McZ p L row o){c:Ch}(h:fzQ p L (bxQ p.2.toNat o) w row=some (some c)):hoQ p L row c o=true/\RowOk L c.2.2/\c.2.2.length<=300/\S45.prQ (prK L) (wcQ row c)<S45.prQ (prK L) row/\1<=c.2.1/\c.2.1<=w:=by
 obtain⟨m,hm,h⟩:=vP h;obtain⟨pl,hpl,h⟩:=vP h;have hm:=cN.mp hm;have hpl:=cN.mp hpl;unfold fzP at h
 split at h
 ·cases h
 rename_i g;obtain⟨e,he,ec⟩:=eV.mp h;cases ec;have P:=I.pc (by lia) (by lia) g;have sm:=aLB P he;obtain⟨b,eb,Ib⟩:=P.bk;unfold pcQ at he;rw[eb] at he;obtain⟨q1,q2,q3,_,q5⟩:=(aEU Ib.hp Ib.st Ib.fit).ent e<|aAV he;refine⟨?_,q1,q5,?_,by show 1<=m+1;lia,hm⟩
 ·unfold hoQ aSg aNT;simp only[bU,decide_eq_true_eq];refine⟨⟨by lia,by lia⟩,by rw[aEr L e.2.1];lia,?_⟩;exact(aGH I.hp I.st I.rw (I.rw.wc q1) o).mpr sm
 ·rw[aEr] at eb;unfold wcQ;rw[aCe,aCe]
  have e1:row=row.take pl++((row.drop pl).take (m+1)++row.drop (pl+(m+1))):=by rw[<-rK,dN,dN]
  have e2:=congrArg (S45.prQ<|prK L) e1;rw[aCe,aCe] at e2;show S45.prQ (prK L) (row.take pl)+S45.prQ (prK L) e.2.1+S45.prQ (prK L) (row.drop<|pl+(m+1))<_;lia
def aQR(p:Int×Int)(L:List SK)(o:Option (List Nat))(row:List Nat)(cs:List Ch):Prop:=∀t c,cs[t]? =some c->hoQ p L ((cs.take t).foldl wcQ row) c o=true/\RowOk L c.2.2/\c.2.2.length<=300/\RowOk L ((cs.take t).foldl wcQ row)/\((cs.take t).foldl wcQ row).length<=120
def aOs:List D->R->Prop:=λds r=>∃p L o row cs,p∈bX/\StkOk p L/\zY p o/\aQR p L o row cs/\cs.length<=120/\ds=[cP p,.lst<|L.map skD,.tup<|bA row,.lst<|cs.map chD,lkD o]/\r=.val (.tup (bA<|cs.foldl wcQ row))
abbrev Mz:=List Nat×List Ch×Bool
def mzN(p:Int×Int)(L:List SK)(bs:List Nat)(w:Nat):Nat->List Nat->List Ch->Mz
 |0,r,cs=>(r,cs,false)
 |n+1,r,cs=>match fzQ p L bs w r with
  |none=>(r,cs,false)
  |some none=>(r,cs,true)
  |some (some c)=>mzN p L bs w n (wcQ r c)<|cs++[c]
def mzQ(p:Int×Int)(L:List SK)(bs:List Nat)(w:Nat)(row:List Nat):Mz:=mzN p L bs w 31 row []
structure MzSt(p:Int×Int)(L:List SK)(o:Option (List Nat))(w:Nat)(row:List Nat)(fin:Mz)(n:Nat)(r:List Nat)(cs:List Ch):Prop where
 I:McZ p L r o
 pn:S45.prQ (prK L) r<(n:Int)
 le:cs.length+n<=31
 fin:mzN p L (bxQ p.2.toNat o) w n r cs=fin
 fo:r=cs.foldl wcQ row
 gt:aQR p L o row cs
def MzSt.stop{fin:Mz}{r:List Nat}(S:MzSt p L o w row fin n r cs)(h:fzQ p L (bxQ p.2.toNat o) w r=none):fin=(r,cs,false):=by
 have:=S.fin;cases n with
 |zero=>exact this.symm
 |succ n=>unfold mzN at this;rw[h] at this;exact this.symm
theorem MzSt.great{fin:Mz}{r:List Nat}(S:MzSt p L o w row fin n r cs)(h:fzQ p L (bxQ p.2.toNat o) w r=some none):fin=(r,cs,true):=by
 have:=S.fin;have a1:=S.pn;have a2:=(aEl S.I.st S.I.rw).1;cases n with
 |zero=>lia
 |succ n=>unfold mzN at this;rw[h] at this;exact this.symm
theorem MzSt.next{fin:Mz}{r:List Nat}(S:MzSt p L o w row fin n r cs){c:Ch}(h:fzQ p L (bxQ p.2.toNat o) w r=some (some c)):∃m,m<n/\MzSt p L o w row fin m (wcQ r c) (cs++[c]):=by
 obtain⟨q0,q1,q2,q4,_⟩:=aKW S.I h;have ok:=S.I.rw.wc q1;have a1:=S.pn;have a2:=(aEl S.I.st ok).1;have a3:=S.le;obtain⟨m,rfl⟩:∃m,n=m+1:=⟨n-1,by lia⟩;refine⟨m,by omega,⟨S.I.hp,S.I.st,S.I.nd,ok,by lia,S.I.lk⟩,by lia,by simp;lia,?_,by rw[eC,<-S.fo];rfl,λt d hd=>?_⟩
 ·have:=S.fin;unfold mzN at this;rw[h] at this;exact this
 ·by_cases q:t<cs.length
  ·rw[dS q] at hd;rw[List.take_append_of_le_length<|cZ q];exact S.gt t d hd
  ·have e:t=cs.length:=by have:=(aF.mp hd).1;simp at this;lia
   subst e;rw[mM] at hd;cases hd;rw[List.take_left,<-S.fo];exact⟨q0,q1,q2,S.I.rw,by have:=S.I.rl;lia⟩
theorem MzSt.start(I:McZ p L row o)(h:S45.prQ (prK L) row<=30)(w:Nat):MzSt p L o w row (mzQ p L (bxQ p.2.toNat o) w row) 31 row []:=⟨I,by lia,aQ _,rfl,rfl,λt c h=>by simp at h⟩
def mzR(f:Mz):R:=.pr (.tup<|bA f.1)<|f.2.1.map chD
def mzD(f:Mz):D:=.tup [.tup<|bA f.1,.lst<|f.2.1.map chD]
structure MzI(p:Int×Int)(L:List SK)(row:List Nat)(o:Option (List Nat))(w:Nat):Prop where
 I:McZ p L row o
 pr:S45.prQ (prK L) row<=30
 w:w<=100
def aOv{α:Type}(p:Int×Int)(L:List SK):α->List D->R->Prop:=λ_ ds r=>∃row o w,MzI p L row o w/\(mzQ p L (bxQ p.2.toNat o) w row).2.2=false/\ds=[.tup<|bA row,lkD o,.int (w:Int)]/\r=mzR (mzQ p L (bxQ p.2.toNat o) w row)
def aOq{α:Type}(p:Int×Int)(L:List SK):α->List D->Prop:=λ_ ds=>∃row o w,MzI p L row o w/\(mzQ p L (bxQ p.2.toNat o) w row).2.2=true/\ds=[.tup<|bA row,lkD o,.int (w:Int)]
def aLn:List D->R->Prop:=λds r=>∃p L row o w,MzI p L row o w/\(mzQ p L (bxQ p.2.toNat o) w row).2.2=false/\ds=[cP p,.lst<|L.map skD,.tup<|bA row,lkD o,.int (w:Int)]/\r=mzR (mzQ p L (bxQ p.2.toNat o) w row)
def aLj:List D->Prop:=λds=>∃p L row o w,MzI p L row o w/\(mzQ p L (bxQ p.2.toNat o) w row).2.2=true/\ds=[cP p,.lst<|L.map skD,.tup<|bA row,lkD o,.int (w:Int)]
structure aSm(K:aB)(mg:Str->Option BD)(CG CL CT CI CW CC:BF):Prop where
 le:mg "LeastError"=some (.ref CL)
 tg:mg "TooGreat"=some (.ref CG)
 nt:mg "NoText"=some (.ref CT)
 ns:mg "NoWish"=some (.ref CI)
 nw:mg "NoWindow"=some (.ref CW)
 nc:mg "NoChange"=some (.ref CC)
 ve:mg "ValueError"=none
 xc:aOa K CG
 em:kH K (.ref CG) (.ref CL)=some true
 kv:cU K (.ref CG) (.type "ValueError")=some true
 kg:cU K (.ref CG) (.ref CG)=some true
 kt:cU K (.ref CG) (.ref CT)=some false
 ki:cU K (.ref CG) (.ref CI)=some false
 kw:cU K (.ref CG) (.ref CW)=some false
 kc:cU K (.ref CG) (.ref CC)=some false
def mwD(f:Mz):D:=if f.2.2 then .str "great" else mzD f
def aHC(mg:Str->Option BD):List D->R->Prop:=λds r=>∃f p L row o,MzI p L row o 1/\((mg "is_cheap"=some (.ref f)/\r=.val (tzD<|fzQ p L (bxQ p.2.toNat o) 1 row))\/(mg "made_cheaper"=some (.ref f)/\r=.val (mwD<|mzQ p L (bxQ p.2.toNat o) 1 row)))/\ds=[fnD f,cP p,.lst<|L.map skD,.tup<|bA row,lkD o]
variable {a:Expr}{z:Str}
theorem aFN(hu:X.A.units+1<AR):OpR X (AT .NotEq) (λx y H Q=>∃z,y=.str z/\Rep X.K H (.tup ds) x/\Q (.bl true) H):=by intro za s σ H x y v u Q I rx ry h;obtain⟨z,rfl,hd,k⟩:=h;obtain⟨t,rfl⟩:=ry;obtain⟨a,xs,its,rfl,rfl,rl,rv,ht⟩:=hW I.hok hd rx;exact SeqAt.RcNeAt.tuple_str z t ht (by lia) _ _ _ _ ⟨.bl true,H,I,rfl,k⟩
def aLS(hu:X.A.units+1<AR)(ha:PEd X sd a (.val<|.tup ds))(hb:PEd X sd b (.val<|.str z)):PEd X sd (.Compare a [.NotEq] [b] pos) (.val<|.bl true):=
 nE (aFN hu) ha hb trivial (fN _) λσ F H x u Q S q1 q2 k=>⟨z,q2,Rep.mono S.sub q1,k F H S<|Same.refl _⟩
def aJl(hu:X.A.units+1<AR)(ha:PEd X sd a (.val<|.tup ds))(hb:PEd X sd b (.val<|.str z)):PTd X sd (.Compare a [.NotEq] [b] pos) true:=
 iY (aFN hu) ha hb trivial (fN _) λσ F H x u Q S q1 q2 k=>⟨z,q2,Rep.mono S.sub q1,k F H S<|Same.refl _⟩
def aMe(hu:X.A.units+1<AR)(ha:PEd X sd a (.val<|.tup ds))(hb:PEd X sd b (.val<|.str z)):PEd X sd (.Compare a [.Eq] [b] pos) (.val<|.bl false):=
 nE (aMy (.tup ds) (.inr ⟨ds,rfl⟩) hu) ha hb trivial (fN _) λσ F H x u Q S q1 q2 k=>⟨z,q2,Rep.mono S.sub q1,k F H S<|Same.refl _⟩
def aKj{x y:V}{k:Bool}(ha:PEd X sd a (.val d1))(hb:PEd X sd b (.val d2))(h1:flt d1=some x)(h2:flt d2=some y)(hs:aNz x y=true)(hk:(!decide (x=y))=k):PEd X sd (.Compare a [.NotEq] [b] pos) (.val<|.bl k):=
 nE aOC ha hb trivial (fN _) λσ F H v u Q S q1 q2 kk=>by have e1:=lX h1 q1;have e2:=lX h2 q2;subst e1 e2;exact⟨hs,by rw[hk];exact kk F H S<|Same.refl _⟩
def aKr(p:Int×Int)(L:List SK)(bs:List Nat)(w:Nat):fzQ p L bs w []=none:=qJ λj _=>qJ λi hi=>by simp at hi
def aJD(p:Int×Int)(L:List SK)(bs:List Nat)(w:Nat):mzQ p L bs w []=([],[],false):=by unfold mzQ mzN;rw[aKr]
noncomputable def aKT(c:Int):Int×Int:=[(1,3),(3,1),(2,2),(2,2),(1,4),(4,1),(1,3),(2,2)].getD (c%8).toNat (2,2)
theorem aLN(c:Int):aKT c∈bX/\([cP (1,3),cP (3,1),cP (2,2),cP (2,2),cP (1,4),cP (4,1),cP (1,3),cP (2,2)]:List D)[(c%8).toNat]? =some (cP<|aKT c):=by
 have h:(c%8).toNat<8:=by lia
 unfold aKT;generalize (c%8).toNat=i at h
 match i,h with
 |0,_=>exact⟨by decide,rfl⟩
 |1,_=>exact⟨by decide,rfl⟩
 |2,_=>exact⟨by decide,rfl⟩
 |3,_=>exact⟨by decide,rfl⟩
 |4,_=>exact⟨by decide,rfl⟩
 |5,_=>exact⟨by decide,rfl⟩
 |6,_=>exact⟨by decide,rfl⟩
 |7,_=>exact⟨by decide,rfl⟩
theorem aJd(ds:List D):DL.cutD ds none (some 1)=ds.take 1:=by unfold DL.cutD;rw[show HT.sIx ds.length 0 none=0 from rfl,show(some<|1)=some ((1:Nat):Int) from rfl,HT.sIx_nat,List.drop_zero,List.take_eq_take_iff];lia
def aNA{us:List α}(h:us.length=n+1):∃a r,us=a::r/\r.length=n:=by
 cases us with
 |nil=>cases h
 |cons a r=>exact⟨a,r,rfl,Nat.succ.inj h⟩
def aQU{us:List α}(h:us.length=1):∃a,us=[a]:=by obtain⟨a,r,rfl,h2⟩:=aNA h;exact⟨a,by rw[iH h2]⟩
def aQW{us:List α}(h:us.length=2):∃a b,us=[a,b]:=by obtain⟨a,r,rfl,h2⟩:=aNA h;obtain⟨b,rfl⟩:=aQU h2;exact⟨a,b,rfl⟩
def aQJ{us:List α}(h:us.length=3):∃a b c,us=[a,b,c]:=by obtain⟨a,r,rfl,h2⟩:=aNA h;obtain⟨b,c,rfl⟩:=aQW h2;exact⟨a,b,c,rfl⟩
def aQP{us:List α}(h:us.length=4):∃a b c d,us=[a,b,c,d]:=by obtain⟨a,r,rfl,h2⟩:=aNA h;obtain⟨b,c,d,rfl⟩:=aQJ h2;exact⟨a,b,c,d,rfl⟩
def aQB{us:List α}(h:us.length=5):∃a b c d e,us=[a,b,c,d,e]:=by obtain⟨a,r,rfl,h2⟩:=aNA h;obtain⟨b,c,d,e,rfl⟩:=aQP h2;exact⟨a,b,c,d,e,rfl⟩
def aRP{us:List α}(h:us.length=6):∃a b c d e f,us=[a,b,c,d,e,f]:=by obtain⟨a,r,rfl,h2⟩:=aNA h;obtain⟨b,c,d,e,f,rfl⟩:=aQB h2;exact⟨a,b,c,d,e,f,rfl⟩
variable {p:Pos}
def pdv(i:Nat)(hs:sd[i]? =some (.val d):=by rfl)(h:PE X (.Name x pos) (iQ i):=by exact pv _):PEd X sd (.Name x pos) (.val d):=oU i hs h
def gG(i:Nat)(h:PEd X sd e (.val d))(hE:E.nx (sd.set i<|.val d))(hN:X.N.Nodup:=by assumption)(hi:X.N[i]? =some x:=by rfl)(hx:Loc X.env.scope x:=by first|exact Or.inl rfl|exact Or.inr rfl)(hs:Ab e (some<|.Name x p) pos.line X.env=pure false:=by rfl)(hf:X.fn x=true\/X.env.scope.names.lookup x=some .local:=by first|exact .inl rfl|exact .inr rfl|assumption):PSd1 X sd (.Assign [.Name x p] e pos) E:=gY i hN hi hx h hE hs hf
def rE(i:Nat)(h:PEd X sd e (.own ds))(hE:∀l,E.nx (sd.set i<|.own l ds))(hN:X.N.Nodup:=by assumption)(hi:X.N[i]? =some x:=by rfl)(hx:Loc X.env.scope x:=by first|exact Or.inl rfl|exact Or.inr rfl)(hs:Ab e (some<|.Name x p) pos.line X.env=pure false:=by rfl)(hf:X.fn x=true\/X.env.scope.names.lookup x=some .local:=by first|exact .inl rfl|exact .inr rfl|assumption):PSd1 X sd (.Assign [.Name x p] e pos) E:=sX i hN hi hx h hE hs hf
def pgn(i:Nat)(hN:X.N.Nodup:=by assumption)(hi:X.N[i]? =some x:=by rfl)(hx:Loc X.env.scope x:=by first|exact Or.inl rfl|exact Or.inr rfl)(hf:X.fn x=true\/X.env.scope.names.lookup x=some .local:=by first|exact .inl rfl|exact .inr rfl|assumption):PG X (.Name x pos) (aEm i):=tI hN hi hx hf
abbrev tN(l:List Nat):D:=.tup<|bA l
abbrev lK(L:List SK):D:=.lst<|L.map skD
abbrev tL(l:List (List Int)):D:=.lst<|l.map cB
abbrev s4(p:Int×Int)(L:List SK)(row:List Nat)(o:Option (List Nat))(r:List Slot):List Slot:=.val (cP p)::.val (lK L)::.val (tN row)::.val (lkD o)::r
abbrev a4(p:Int×Int)(L:List SK)(row:List Nat)(o:Option (List Nat)):List D:=[cP p,lK L,tN row,lkD o]
abbrev a5(p:Int×Int)(L:List SK)(row:List Nat)(o:Option (List Nat))(w:Nat):List D:=[cP p,lK L,tN row,lkD o,.int (w:Int)]
abbrev rtE(r:R):gX:={nx:=λ_=>r=.val .non,rt:=λr'=>r'=r}
theorem uN(r:Room k A)(n:Nat)(h:n<=8:=by decide):A.units+n<AR:=by have:=r.un;lia
def NB:R->Prop
 |.bor _=>False
 |_=>True
def iU(h:PEd X sd e r)(hE:E.rt r:=by rfl)(hr:NB r:=by trivial):PSd1 X sd (.Return (some e) pos) E:=eE h (by cases r<;>first|trivial|exact hr) hE
def yD{x:List BJ}(h:PTd X sd c false)(k:PSd X sd rest E):PSd X sd (.If c x [] pos::rest) E:=aG (mY h rfl<|eA k)
def pdc{C:List D->R->Prop}(G:bF X.prog X.w X.K X.mg X.base x k n C)(hr:Room j X.A)(ha:PAd X sd (e::es) (ds.map R.val))(hc:C ds r)(hj:k<=j:=by decide)(hg:Gl X x:=by rfl)(hb:NB r:=by trivial)(hn:ds.length=n:=by rfl)(hdb:(x==("__debug__":Str))=false:=by decide) (he:AB (e::es) X.env=(false,eval e X.env)::AB es X.env:=by rfl) (hpl:(AV pos<|AB es X.env).any (·.1)=false:=by rfl):PEd X sd (.Call (.Name x p) (e::es) [] pos) r:=aMt G (hr.mono hj) hg ha hc (by cases r<;>first|trivial|exact hb) hn hdb he hpl
def pdx(ha:PEd X sd a (.val<|.tup ds))(hd:ds[n]? =some d:=by rfl):PEd X sd (.Subscript a (.Constant (.int (n:Int)) j p1) pos) (.val d):=rZ ha bS hd λ_ _=>rfl
def pdT(h:PAd X sd es (ds.map R.val))(hl:ds.length<=10000:=by exact fP rfl):PEd X sd (.Tuple es x1 pos) (.val<|.tup ds):=xP h hl
def pdL(h:PAd X sd es (ds.map R.val))(hl:ds.length<=10000:=by exact fP rfl):PEd X sd (.List es pos) (.own ds):=lH h hl
def pgN(i:Nat)(hN:X.N.Nodup:=by assumption)(hi:X.N[i]? =some x:=by rfl)(hx:Loc X.env.scope x:=by first|exact Or.inl rfl|exact Or.inr rfl)(hf:X.fn x=true\/X.env.scope.names.lookup x=some .local:=by first|exact .inl rfl|exact .inr rfl|assumption):PGd X sd (.Name x pos) d (sd.set i<|.val d):=aCQ i<|tI hN hi hx hf
def pdC{M:List Str}{sc:Scope}{Tb:D->List Slot}(p:D->Bool)(f:D->D)(hi:PId X (unO sd) PT0 tg iter ds) (hl:ds.length<=10000)(ht:∀cl C fp s H d,d∈ds->(ifs=[]/\p d=true)\/∃c,ifs=[c]/\PTd (cxB X N scope cl C fp s H) (Tb d) c (p d))(he:∀cl C fp s H d,d∈ds->p d=true->PEd (cxB X N scope cl C fp s H) (Tb d) elt (.val<|f d))(hg:∀cl C fp s H d,d∈ds->PGd (cxB X N scope cl C fp s H) (nK cap sd) tg d (Tb d):=by exact λ_ _ _ _ _ _ _=>pgN 0)(hle:∀d,d∈ds->Le (Tb d) (nK cap sd):=by intro _ _;repeat' (first|exact trivial|refine⟨ja,?_⟩|refine⟨jb,?_⟩))(hsc:X.env.scope=sc:=by rfl) (hcn:oJ scope sc=true:=by decide+kernel) (hM:X.N=M:=by rfl) (hcap:mI N M scope sc cap=true:=by decide+kernel) (hk:scope.kind=.function:=by rfl)(hc:X.calm=true:=by rfl) (hs:∀x,As iter X.env x=pure x:=by intro _;rfl):PEd X sd (.ListComp elt [⟨tg,iter,ifs,0⟩] scope pos) (.own<|(ds.filter p).map f):=lS p f hi hl hsc hcn hM hcap hk hg hle ht he hc hs
def cY{w:AL}{C:List D->R->Prop}(F:FI K mg x st)(body:∀ (f:BF),N.Nodup→∀ (cdv:BD) (A:BG) (outer:List Env) (s:BE) (H:Hp) (E:XK),Room k (A.deeper (Ad x (aN st) s.heap.objs.size f cdv))→∀ds r,ds.length=ps.length→C ds r→PSd (gO CX0 P w K mg base N x (aN st) f cdv A outer s H E).nox (init N.length ds) (cF st) {nx:=λ_=>r=.val .non,rt:=λr'=>r'=r})
  (nd:N.Nodup:=by decide+kernel) (S:N.Nodup->iD N ps (aN st):=by exact λnd=>⟨rfl,rfl,rfl,nd,rfl,by decide+kernel,by decide+kernel⟩)
  (hb:∀ (kV doc pm:BD) (an:Option BF) (cdv ct:BD) (us:List BD),us.length=ps.length→bindArgs (cD x x (eP st) (cF st) (aN st) .none kV doc pm an cdv ct) ⟨us,[]⟩=pure (ps.zip us):=by
   intro _ _ _ _ _ _ _ h
   first
   |(obtain⟨_,rfl⟩:=aQU h;rfl)
   |(obtain⟨_,_,rfl⟩:=aQW h;rfl)
   |(obtain⟨_,_,_,rfl⟩:=aQJ h;rfl)
   |(obtain⟨_,_,_,_,rfl⟩:=aQP h;rfl)
   |(obtain⟨_,_,_,_,_,rfl⟩:=aQB h;rfl)
   |(obtain⟨_,_,_,_,_,_,rfl⟩:=aRP h;rfl)):bF P w K mg base x (k+1) ps.length C:=by
 obtain⟨f,fd,hm,F⟩:=F;exact aPG F (S nd) hm hb<|body f nd
def FID(K:aB)(mg:Str->Option BD)(n:Str)(st:BJ):Prop:=∃f fd,mg n=some (.ref f)/\aKO #[.none] K n n st f fd
def FID.mk{n:Str}{od an td:Option BF}{oc kV dc pm cd ct tc:BD}{T:BF}{m:Nat}(X:K.In h)(G:h.Ns AQ mg)(a:eQ K AQ n=some (some<|.ref f))(l:K.lookup f=some ⟨oc,od,.func<|cD n n (eP st) (cF st) (aN st) (.ref T) kV dc pm an cd ct,sl⟩)(c:eI K cd n=true)(k:cK K (.ref f)=true)(t:K.lookup T=some ⟨tc,td,.seq #[.none] m,ts⟩):FID K mg n st:=⟨f,_,dW X G a,aAZ l c k t⟩
def aDe{w:AL}{C:List D->Prop}(F:FI K mg x st)(body:∀ (f:BF),N.Nodup→∀ (cdv:BD) (A:BG) (outer:List Env) (s:BE) (H:Hp) (E:XK),Room k (A.deeper (Ad x (aN st) s.heap.objs.size f cdv))→(∀a H',Same H H'→Smp H'→E (.ref a) (some a) H')→∀ds,ds.length=ps.length→C ds→PSd (gO (CX1 P w cls) P w K mg base N x (aN st) f cdv A outer s H E) (init N.length ds) (cF st) {nx:=λ_=>False,rt:=λ_=>False})
  (nd:N.Nodup:=by decide+kernel) (S:N.Nodup->iD N ps (aN st):=by exact λnd=>⟨rfl,rfl,rfl,nd,rfl,by decide+kernel,by decide+kernel⟩)
  (hb:∀ (kV doc pm:BD) (an:Option BF) (cdv ct:BD) (us:List BD),us.length=ps.length→bindArgs (cD x x (eP st) (cF st) (aN st) .none kV doc pm an cdv ct) ⟨us,[]⟩=pure (ps.zip us):=by
   intro _ _ _ _ _ _ _ h
   first
   |(obtain⟨_,rfl⟩:=aQU h;rfl)
   |(obtain⟨_,_,rfl⟩:=aQW h;rfl)
   |(obtain⟨_,_,_,rfl⟩:=aQJ h;rfl)
   |(obtain⟨_,_,_,_,rfl⟩:=aQP h;rfl)
   |(obtain⟨_,_,_,_,_,rfl⟩:=aQB h;rfl)
   |(obtain⟨_,_,_,_,_,_,rfl⟩:=aRP h;rfl)):fS P w K mg base x (k+1) ps.length C cls [] []:=by
 obtain⟨f,fd,hm,F⟩:=F;exact aMV F (S nd) hm hb<|body f nd
end DL
set_option maxHeartbeats 400000
namespace K85
open PySem PySem.Spec PyProof.Rows L2 DL
noncomputable def top(i:Nat):BJ:=PySem.Challenge.pw_leastrow_k85_windows_too_great.main.body.getD i<|.Pass ⟨0,0,0,0⟩
abbrev aKF:BJ:=top 8
abbrev aKv:BJ:=top 9
abbrev aEn:BJ:=top 10
abbrev aOn:BJ:=top 11
abbrev aSd:BJ:=top 12
abbrev aFT:BJ:=top 15
abbrev aCX:BJ:=top 16
abbrev aCJ:BJ:=top 17
abbrev aCv:BJ:=top 19
abbrev aFE:BJ:=top 18
abbrev aQT:BJ:=top 26
abbrev aEu:BJ:=top 27
abbrev aLe:BJ:=top 28
abbrev aRN:BJ:=top 29
abbrev sFd:BJ:=top 30
abbrev aEH:BJ:=top 31
abbrev aLq:BJ:=top 32
abbrev aBp:BJ:=top 21
abbrev aJL:BJ:=top 23
abbrev aED:BJ:=top 36
abbrev aKe:BJ:=top 37
abbrev xL:BJ:=top 38
abbrev aJC:BJ:=top 39
abbrev aKq:BJ:=top 46
abbrev aEQ:BJ:=top 48
abbrev aSp:BJ:=top 49
abbrev aQM:BJ:=top 50
abbrev aOF:BJ:=top 41
abbrev aOk:BJ:=top 42
abbrev sFt:BJ:=top 44
abbrev aEw:BJ:=top 22
abbrev aDj:BJ:=top 47
abbrev aBW:BJ:=top 51
abbrev aLi:BJ:=top 52
abbrev aFI:BJ:=top 54
abbrev aJW:BJ:=top 55
abbrev aRV:BJ:=top 56
abbrev aJN:BJ:=top 57
abbrev sFc:BJ:=top 58
abbrev sIc:BJ:=top 59
abbrev sCf:BJ:=top 60
abbrev sMc:BJ:=top 61
abbrev aHM:BJ:=top 63
abbrev aFO:BJ:=top 64
abbrev aKx:BJ:=top 65
abbrev aLs:BJ:=top 66
abbrev aHJ:BJ:=top 67
abbrev aSs:BJ:=top 68
abbrev aRU:BJ:=top 69
abbrev sWd:BJ:=top 70
abbrev nN:BJ:=top 71
abbrev aKQ:BJ:=aFa (top 34) 0
abbrev aNJ:BJ:=aFa (top 34) 1
section
variable {P:AD}{w:AL}{K:aB}{mg:Str->Option BD}{base:BH}{f:BF}{fd:AN}
def aKH:List D->R->Prop:=λds r=>∃d,ds=[d]/\(Unit->∃i,d=.int i)/\r=.val (.bl true)
def aIB(F:FI K mg "is_whole" aKF)(ze:mg "isinstance"=none)(zn:mg "int"=none)(zm:mg "bool"=none):bF P w K mg base "is_whole" 1 1 aKH:=by
 refine cY (N:=["thing"]) (ps:=["thing"]) F λf nd cdv A outer s H E hr ds r hl c=>?_
 obtain⟨d,rfl,hd,rfl⟩:=c;obtain⟨i,rfl⟩:=hd ();exact aR<|eE (PEd.cast (xC (sY rfl ze rfl zn PyProof.Rows.boot_int (pdv 0) (λ_=>by simp) (aLX _<|.int i)) λ_=>aBS (xF<|sY rfl ze rfl zm PyProof.Rows.boot_bool (pdv 0) (λ_=>by simp) (sT _<|.int i))) rfl) trivial rfl
def aLg(q:SQ):pl (sqD q)=true:=by
 show pl (mO _ _ _ _)=true;unfold mO
 split
 ·rfl
 ·split<;>rfl
def aPu(q:SQ):dep (sqD q)=1:=by
 show dep (mO _ _ _ _)=1;unfold mO
 split
 ·rfl
 ·split<;>rfl
theorem wH{α:Type}(g:α->D)(h:∀a,pl (g a)=true):∀l:List α,plL (l.map g)=true
 |[]=>rfl
 |a::l=>by show(pl (g a)&&plL (l.map g))=true;rw[h a,wH g h l];rfl
theorem tZ{α:Type}(g:α->D)(n:Nat)(h:∀a,dep (g a)<=n):∀l:List α,lN (l.map g)<=n
 |[]=>bQ _
 |a::l=>Nat.max_le.mpr ⟨h a,tZ g n h l⟩
noncomputable def twoT:D->List Slot->List Slot
 |.tup [x,y],r=>.val x::.val y::r
 |_,r=>.un::.un::r
def aBT:List D->R->Prop:=λds r=>∃p:Int×Int,ds=[cP p]/\0<=p.1/\p.1<=60/\r=.val (.int<|2^p.1.toNat)
theorem aIm(F:FI K mg "word_count" aKv)(zd:mg "range"=none):bF P w K mg base "word_count" 1 1 aBT:=by
 refine cY (N:=["size","count","bit"]) (ps:=["size"]) F λf nd cdv A outer s H E hr ds r hl c=>?_
 obtain⟨p,rfl,h0,h1,rfl⟩:=c;have ep:p.1=((p.1.toNat)):=by lia
 refine aG<|gY 1 nd rfl jb bS ?_;refine aG<|oR (λk=>[.val<|cP p,.val (.int<|2^k),.un]) (λk=>[.val<|cP p,.val (.int<|2^k),.val (.int<|0+(k))]) (lZ rfl zd (PEd.cast (pdx<|pdv 0)<|by rw[<-ep])<|by omega) ⟨ja,ja,ja,trivial⟩ (λi d hd=>?_) (λi d hd=>?_) ?_
 ·obtain⟨_,rfl⟩:=gC hd;exact pgN 2
 ·refine aR<|gY 1 nd rfl jb (dJ iN (pdv 1) bS (pH (by decide)<|by decide)) ?_;exact⟨ja,ja,jb,trivial⟩
 ·refine aR<|eE (pdv 1) trivial ?_;rw[fV]
def aOo:List D->R->Prop:=λds r=>∃ (L:List (List Int)) (m:Nat),ds=[.lst<|L.map cB,.int (m:Int)]/\L.length*m<=900/\m<=64/\(∀s∈L,s.length<=100)/\r=.own ((L.flatMap λs=>(bT m).map λ(w:Nat)=>s++[(w:Int)]).map cB)
abbrev nl0:List Str:=["starts","count","longer","start"]
theorem aMI(F:FI K mg "with_each_word" aEn)(zd:mg "range"=none):bF P w K mg base "with_each_word" 1 2 aOo:=by
 refine cY (N:=nl0) (ps:=["starts","count"]) F λf nd cdv A outer s H E hr ds r hl c=>?_
 obtain⟨L,m,rfl,hL,hm64,hs,rfl⟩:=c;have nd2:(["word","start"]:List Str).Nodup:=by decide+kernel
 refine aG<|sX 2 nd rfl jb (lH (ds:=[]) aE<|bQ _) λl=>?_;refine aG<|oR (λk=>[.val<|tL L,.val (.int<|m),.own l<|((L.take k).flatMap λs=>(bT m).map λ(w:Nat)=>s++[(w:Int)]).map cB,.un]) (λk=>[.val<|tL L,.val<|.int (m:Int),.own l<|((L.take k).flatMap λs=>(bT m).map λ(w:Nat)=>s++[(w:Int)]).map cB,.val (cB<|L.getD k [])]) (iV<|pdv 0) ⟨ja,ja,ja,ja,trivial⟩ (λk d hd=>?_) (λk d hd=>?_) ?_
 ·obtain⟨_,rfl⟩:=oF hd;exact pgN 3
 ·obtain⟨hk,rfl⟩:=oF hd;have hmem:L.getD k []∈L:=getD_mem hk
  have et:L.take (k+1)=L.take k++[L.getD k []]:=by rw[gW];simp[bV,hk]
  have lk:=by
   have h1:(L.take k).length+1<=L.length:=by rw[cE];lia
   have h2:=aHt m h1;rw[aHl] at h2;omega
  have comp:∀ {pos:Pos},PEd (gO CX0 P w K mg base nl0 "with_each_word" (aN aEn) f cdv A outer s H E).nox [.val<|tL L,.val (.int<|m),.own l<|((L.take k).flatMap λs=>(bT m).map λ(w:Nat)=>s++[(w:Int)]).map cB,.val (cB<|L.getD k [])] (match(cF aEn).getD 1 (.Pass ⟨0,0,0,0⟩) with | .For _ _ [.Expr (.Call _ [c] _ _) _] _ _=>c|_=> .Constant .none 0 ⟨0,0,0,0⟩) (.own (((iW 0 m).filter λ_=>true).map λd=>D.tup<|(L.getD k []).map D.int++[d])):=λ{pos}=>by
   refine pdC (M:=nl0) (cap:=[none,some 3]) (sc:=aN aEn) (λ_=>true) (λd=>D.tup<|(L.getD k []).map D.int++[d]) (lZ rfl zd (pdv 1)<|by lia) (by rw[fV];lia) (λcl C fp s H d _=>.inl ⟨rfl,rfl⟩) λcl C fp s H d _ _=>?_
   refine kS (pdv 1) (pdT<|aA (pdv 0) aE) ?_;have:=hs _ hmem;simp only[aC,bJ,iP];lia
  have ec:((iW 0 m).filter λ_=>true).map (λd=>D.tup<|(L.getD k []).map D.int++[d])=((bT m).map λ(w:Nat)=>L.getD k []++[(w:Int)]).map cB:=by
   rw[cR.mpr λ_ _=>rfl];unfold iW;rw[aY,aY];refine cH λw _=>?_
   simp[cB]
  refine aR<|aDZ 2 rfl (pv 2) (PEd.val<|comp (pos:=⟨0,0,0,0⟩)) ?_ ?_
  ·rw[aC,vL,ec,aC,aC,fZ];lia
  ·refine⟨ja,ja,.inr ?_,jb,trivial⟩;rw[et,ec,List.flatMap_append,aX];simp
 ·refine aR<|sJ 2 rfl (pv 2) ?_;show R.own _=R.own _;rw[aC,fQ]
def vN:List D->R->Prop:=λds r=>∃p,p∈bX/\ds=[cP p]/\r=.own ((jF (2^p.1.toNat) p.2.toNat).map cB)
theorem aNh(F:FI K mg "fillings" aOn)(zd:mg "range"=none)(GC:bF P w K mg base "word_count" 1 1 aBT)(GE:bF P w K mg base "with_each_word" 1 2 aOo):bF P w K mg base "fillings" 2 1 vN:=by
 refine cY (N:=["size","count","told","box"]) (ps:=["size"]) F λf nd cdv A outer s H E hr ds r hl c=>?_
 obtain⟨p,hp,rfl,rfl⟩:=c;obtain⟨h1,h2,h3,h4,h5⟩:=aHq p hp;have e2:p.2=((p.2.toNat)):=by lia
 have m64:2^p.1.toNat<=64:=by
  have:p.1.toNat<=6:=by lia
  exact cJ (sA (by decide) this)<|by decide
 have ec:(2)^p.1.toNat=((2^p.1.toNat:Nat):Int):=by push_cast;rfl
 refine aG<|gY 1 nd rfl jb (pdc GC hr (aA (pdv 0) aE) ⟨p,rfl,by lia,by lia,rfl⟩) ?_;refine aG<|rE 2 (pdL (ds:=[cB []])<|aA (xP aE<|bQ _) aE) λl=>?_;refine aG<|iF (λk sd=>∃l,sd=[.val<|cP p,.val (.int<|2^p.1.toNat),.own l<|(jF (2^p.1.toNat) k).map cB,.un]) (lZ rfl zd (PEd.cast (pdx<|pdv 0)<|by rw[<-e2])<|by omega) ⟨_,Le.refl _,l,rfl⟩ (λk d sdk hd hk=>?_) λsdn hn=>?_
 ·obtain⟨hk2,rfl⟩:=gC hd;obtain⟨l2,rfl⟩:=hk;refine⟨[.val<|cP p,.val (.int<|2^p.1.toNat),.own l2<|(jF (2^p.1.toNat) k).map cB,.val (.int<|0+(k))],pgN 3,?_⟩;refine iC 2 rfl ?_;refine aR (sX 2 nd rfl jb (pdc GE hr (aA (pdv 2)<|aA (PEd.cast (pdv 1)<|by rw[ec]) aE) ⟨jF (2^p.1.toNat) k,2^p.1.toNat,rfl,?_,m64,λs hs=>?_,rfl⟩) λl3=>?_)
  ·rw[aBi];exact aGg p hp k hk2
  ·rw[aCs _ _ s hs];lia
  ·exact⟨[.val<|cP p,.val (.int<|2^p.1.toNat),.own l3<|(jF (2^p.1.toNat)<|k+1).map cB,.un],⟨ja,ja,ja,jb,trivial⟩,l3,rfl⟩
 ·rw[fV] at hn;obtain⟨l2,rfl⟩:=hn;exact aR<|sJ 2 rfl (pv 2) rfl
def aSf:List D->R->Prop:=λds r=>∃ (p:Int×Int) (ws:List Int),ds=[cP p,cB ws]/\0<=p.1/\p.1<=60/\r=.val (.int<|vW (2^p.1.toNat) ws)
theorem aPf(F:FI K mg "number_of" aSd)(GC:bF P w K mg base "word_count" 1 1 aBT):bF P w K mg base "number_of" 2 2 aSf:=by
 refine cY (N:=["size","filling","count","number","word"]) (ps:=["size","filling"]) F λf nd cdv A outer s H E hr ds r hl c=>?_
 obtain⟨p,ws,rfl,h0,h1,rfl⟩:=c
 have b1: -(2^64)<(2)^p.1.toNat/\(2:Int)^p.1.toNat<2^64:=by
  have h3:p.1.toNat<=60:=by lia
  have h4:2^p.1.toNat<=2^60:=sA (by decide) h3;have h5:(2)^p.1.toNat=((2^p.1.toNat:Nat):Int):=by push_cast;rfl
  rw[h5];have h6:(2)^60=1152921504606846976:=by decide
  generalize 2^p.1.toNat=q at h4 ⊢;lia
 refine aG<|gY 2 nd rfl jb (pdc GC hr (aA (pdv 0) aE) ⟨p,rfl,h0,h1,rfl⟩) ?_;refine aG<|gY 3 nd rfl jb bS ?_;refine aG<|oR (λk=>[.val<|cP p,.val<|cB ws,.val (.int<|2^p.1.toNat),.val<|.int (vW (2^p.1.toNat)<|ws.take k),.un]) (λk=>[.val<|cP p,.val<|cB ws,.val (.int<|2^p.1.toNat),.val<|.int (vW (2^p.1.toNat)<|ws.take k),.val (.int<|ws.getD k 0)]) (mR<|pdv 1) ⟨ja,ja,ja,ja,ja,trivial⟩ (λk d hd=>?_) (λk d hd=>?_) ?_
 ·obtain⟨_,rfl⟩:=uG hd;exact pgN 4
 ·obtain⟨hk,rfl⟩:=uG hd
  have et:ws.take (k+1)=ws.take k++[ws.getD k 0]:=by rw[gW];simp[bV,hk]
  refine aR<|gY 3 nd rfl jb (fO fW (dJ iN (pdv 3) (pdv 2)<|pH b1.1 b1.2)<|pdv 4) ?_;refine⟨ja,ja,ja,.inr ?_,jb,trivial⟩;rw[et];unfold vW;rw[eC];rfl
 ·refine aR<|eE (pdv 3) trivial ?_;rw[aC,fQ]
def aFs:List D->R->Prop:=λds r=>∃ (k:Nat) (m a:Int),ds=[.str<|nm k,.int m,.int a]/\7<=k/\k<10/\0<m/\r=.val (.int<|aOr k m a)
theorem aFX(F:FI K mg "word_by_itself" aFT):bF P w K mg base "word_by_itself" 1 3 aFs:=by
 refine cY (N:=["name","count","word"]) (ps:=["name","count","word"]) F λf nd cdv A outer s H E hr ds r hl c=>?_
 obtain⟨k,m,a,rfl,h7,h10,hm0,rfl⟩:=c;refine aG<|fX (jY (pdv 0) fE rfl rfl rfl<|aPw k h10) (λh=>?_) λh=>eA ?_
 ·have:=by simpa using h
  subst this;exact aR<|iU (fO qB (fO qB (pdv 1) bS)<|pdv 2)
 have n7:=by simpa using h
 refine aG<|fX (jY (pdv 0) fE rfl rfl rfl<|aRs k h10) (λh=>?_) λh=>eA ?_
 ·have:=by simpa using h
  subst this;exact aR (iU<|dJ gE (dJ iN (pdv 2) bS (pH (by decide)<|by decide)) (pdv 1) hm0)
 have n8:=by simpa using h
 have:k=9:=by lia
 subst this;exact aR (iU<|dJ aNl (pdv 2) bS ⟨by decide,by decide⟩)
def aCM:List D->R->Prop:=λds r=>∃ (k:Nat) (m a c:Int),ds=[.str<|nm k,.int m,.int a,.int c]/\k<6/\0<m/\r=.val (.int<|aJy k m a c)
theorem aDM(F:FI K mg "word_by_another" aCX):bF P w K mg base "word_by_another" 1 4 aCM:=by
 refine cY (N:=["name","count","word","other"]) (ps:=["name","count","word","other"]) F λf nd cdv A outer s H E hr ds r hl c=>?_
 obtain⟨k,m,a,c,rfl,h6,hm0,rfl⟩:=c;have h10:k<10:=by lia
 refine aG<|fX (jY (pdv 0) fE rfl rfl rfl<|aQb k h10) (λh=>?_) λh=>eA ?_
 ·have:=by simpa using h
  subst this;exact aR<|iU (fO aOT (pdv 2)<|pdv 3)
 have n0:=by simpa using h
 refine aG<|fX (jY (pdv 0) fE rfl rfl rfl<|aRz k h10) (λh=>?_) λh=>eA ?_
 ·have:=by simpa using h
  subst this;exact aR<|iU (fO aRF (pdv 2)<|pdv 3)
 have n1:=by simpa using h
 refine aG<|fX (jY (pdv 0) fE rfl rfl rfl<|aPE k h10) (λh=>?_) λh=>eA ?_
 ·have:=by simpa using h
  subst this;exact aR<|iU (fO aON (pdv 2)<|pdv 3)
 have n2:=by simpa using h
 refine aG<|fX (jY (pdv 0) fE rfl rfl rfl<|aPv k h10) (λh=>?_) λh=>eA ?_
 ·have:=by simpa using h
  subst this;exact aR (iU<|dJ gE (fO fW (pdv 2)<|pdv 3) (pdv 1) hm0)
 have n3:=by simpa using h
 refine aG<|fX (jY (pdv 0) fE rfl rfl rfl<|aLy k h10) (λh=>?_) λh=>eA ?_
 ·have:=by simpa using h
  subst this;exact aR (iU<|dJ gE (fO qB (pdv 2)<|pdv 3) (pdv 1) hm0)
 have n4:=by simpa using h
 have:k=5:=by lia
 subst this;exact aR (iU<|pdv 3)
structure aQX(p:Int×Int)(k:Nat)(i j n:Int)(ws:List Int):Prop where
 sz:p∈bX
 k10:k<10
 i0:0<=i/\i<p.2
 j0:0<=j/\j<p.2
 n0:0<=n/\n<((2^p.1.toNat:Nat):Int)
 len:ws.length=p.2.toNat
 wd:∀w∈ws,0<=w/\w<((2^p.1.toNat:Nat):Int)
def aNZ(p:Int×Int)(k:Nat)(i j n:Int)(ws:List Int):Int:=newW k ((2^p.1.toNat:Nat):Int) (ws.getD i.toNat 0) (ws.getD j.toNat 0) n
def aCu:List D->R->Prop:=λds r=>∃p k i j n ws,aQX p k i j n ws/\ds=[cP p,mO k i j n,cB ws]/\r=.val (.int<|aNZ p k i j n ws)
theorem aJE(n:Nat):(0:Int)<((2^n:Nat):Int):=by have:0<2^n:=Nat.pow_pos (by decide);generalize 2^n=q at this ⊢;lia
theorem aKt{ws:List Int}(h:ws.length=n)(h1:i<(n:Int))(h0:0<=i):(ws.map D.int)[i.toNat]? =some (.int<|ws.getD i.toNat 0):=by
 have:i.toNat<ws.length:=by lia
 simp[bV,this]
theorem aDS(F:FI K mg "new_word" aCJ)(byself:∃ad,mg "BY_ITSELF"=some (.ref ad)/\∀H:Hp,SqT K H ad [V.str "not",V.str "up",V.str "down"])(GC:bF P w K mg base "word_count" 1 1 aBT)(GI:bF P w K mg base "word_by_itself" 1 3 aFs)(GA:bF P w K mg base "word_by_another" 1 4 aCM):bF P w K mg base "new_word" 2 3 aCu:=by
 refine cY (N:=["size","step","filling","name","word"]) (ps:=["size","step","filling"]) F λf nd cdv A outer s H E hr ds r hl c=>?_
 obtain⟨p,k,i,j,n,ws,O,rfl,rfl⟩:=c;obtain⟨h1,h2,h3,h4,h5⟩:=aHq p O.sz;have hm0:=aJE p.1.toNat;have ec:(2)^p.1.toNat=((2^p.1.toNat:Nat):Int):=by push_cast;rfl
 have e2:=by omega
 obtain⟨ad,hB,hq⟩:=byself;have ai:=aKt O.len (by have:=O.i0.2;lia) O.i0.1;have aj:=aKt O.len (by have:=O.j0.2;lia) O.j0.1
 by_cases k6:k<6
 ·have es:mO k i j n=.tup [.str<|nm k,.int i,.int j]:=by unfold mO;rw[zt k6]
  rw[es];refine aG<|gY 3 nd rfl jb (pdx<|pdv 1) ?_;refine aG (mY (jY (pdv 3) fE rfl rfl rfl<|aEL k O.k10) (by simp;lia)<|eA ?_);refine aG<|gY 4 nd rfl jb (aAY (pdv 2) (pdx<|pdv 1) O.i0.1 ai λ_ _=>rfl) ?_;refine aG (mY (aFx rfl hB (λH=>hq H) (pdv 3) rfl rfl rfl) (by rw[aFt k O.k10];simp;lia)<|eA ?_);refine aR<|eE (pdc GA hr (aA (pdv 3)<|aA (PEd.cast (pdc GC hr (aA (pdv 0) aE) ⟨p,rfl,by lia,by lia,rfl⟩)<|by rw[ec]) (aA (pdv 4)<|aA (aAY (pdv 2) (pdx<|pdv 1) O.j0.1 aj λ_ _=>rfl) aE)) ⟨k,_,_,_,rfl,k6,hm0,rfl⟩) trivial ?_;unfold aNZ newW;rw[zr<|by lia,zr<|by lia]
 ·by_cases k6':k=6
  ·subst k6';have es:mO 6 i j n=.tup [.str<|nm 6,.int i,.int n]:=rfl;rw[es];refine aG<|gY 3 nd rfl jb (pdx<|pdv 1) ?_;refine aG<|oS (jY (pdv 3) fE rfl rfl rfl<|aEL 6 O.k10) rfl ?_;exact aR<|iU (pdx<|pdv 1)
  ·have es:mO k i j n=.tup [.str<|nm k,.int i]:=by unfold mO;rw[zr k6,zr k6']
   rw[es];refine aG<|gY 3 nd rfl jb (pdx<|pdv 1) ?_;refine aG (mY (jY (pdv 3) fE rfl rfl rfl<|aEL k O.k10) (by simp;omega)<|eA ?_);refine aG<|gY 4 nd rfl jb (aAY (pdv 2) (pdx<|pdv 1) O.i0.1 ai λ_ _=>rfl) ?_;refine aG<|oS (aFx rfl hB (λH=>hq H) (pdv 3) rfl rfl rfl) (by rw[aFt k O.k10];simp;lia) ?_;refine aR<|eE (pdc GI hr (aA (pdv 3) (aA (PEd.cast (pdc GC hr (aA (pdv 0) aE) ⟨p,rfl,by lia,by lia,rfl⟩)<|by rw[ec])<|aA (pdv 4) aE)) ⟨k,_,_,rfl,by lia,O.k10,hm0,rfl⟩) trivial ?_;unfold aNZ newW;rw[zr k6',zt<|by lia]
def aDh:List D->R->Prop:=λds r=>∃k i j n,ds=[mO k i j n]/\r=.val (.int i)
def aMm(k:Nat)(i j n:Int):∃es,mO k i j n=.tup (.str (nm k)::.int i::es):=by
 unfold mO
 split
 ·exact⟨_,rfl⟩
 ·split
  ·exact⟨_,rfl⟩
  ·exact⟨_,rfl⟩
def aDp(F:FI K mg "written_box" aCv):bF P w K mg base "written_box" 1 1 aDh:=by
 refine cY (N:=["step"]) (ps:=["step"]) F λf nd cdv A outer s H E hr ds r hl c=>?_
 obtain⟨k,i,j,n,rfl,rfl⟩:=c;obtain⟨es,e⟩:=aMm k i j n;rw[e];exact aR<|iU (pdx<|pdv 0)
def aSu(p:Int×Int)(k:Nat)(i j n:Int)(ws:List Int):List Int:=ws.set i.toNat<|aNZ p k i j n ws
def aBB:List D->R->Prop:=λds r=>∃p k i j n ws,aQX p k i j n ws/\ds=[cP p,mO k i j n,cB ws]/\r=.val (cB<|aSu p k i j n ws)
theorem aEG(ws:List Int)(h:i<ws.length):DL.cutD (ws.map D.int) none (some (i:Int))=(ws.take i).map D.int:=by
 unfold DL.cutD;have h1:HT.sIx (ws.map D.int).length 0 none=0:=rfl
 have h2:HT.sIx (ws.map D.int).length (ws.map D.int).length (some<|i)=i:=by rw[HT.sIx_nat,aC];lia
 rw[h1,h2];simp
theorem aCp(ws:List Int)(h:i<ws.length):DL.cutD (ws.map D.int) (some<|(i:Int)+1) none=(ws.drop<|i+1).map D.int:=by
 unfold DL.cutD;have e:((i)+1)=((i+1:Nat):Int):=by push_cast;rfl
 have h1:HT.sIx (ws.map D.int).length 0 (some<|(i)+1)=i+1:=by rw[e,HT.sIx_nat,aC];lia
 have h2:HT.sIx (ws.map D.int).length (ws.map D.int).length none=ws.length:=by rw[HT.sIx_none,aC]
 rw[h1,h2,gZ,eX<|by rw[dY,aC];omega]
theorem aGm(F:FI K mg "step_on" aFE)(GB:bF P w K mg base "written_box" 1 1 aDh)(GN:bF P w K mg base "new_word" 2 3 aCu):bF P w K mg base "step_on" 3 3 aBB:=by
 refine cY (N:=["size","step","filling","box"]) (ps:=["size","step","filling"]) F λf nd cdv A outer s H E hr ds r hl c=>?_
 obtain⟨p,k,i,j,n,ws,O,rfl,rfl⟩:=c;obtain⟨h1,h2,h3,h4,h5⟩:=aHq p O.sz;have li:i.toNat<ws.length:=by have:=O.i0;rw[O.len];lia
 have ei:i=((i.toNat)):=by have:=O.i0;lia
 have l6:ws.length<=6:=by rw[O.len];lia
 refine aG<|gG (d:=.int<|(i.toNat)) 3 (PEd.cast (pdc GB hr (aA (pdv 1) aE) ⟨k,i,j,n,rfl,rfl⟩)<|by rw[<-ei]) ?_;refine aR<|eE (PEd.cast (kS (kS (yH (ol:=none) (oh:=some<|(i.toNat)) (pdv 2) trivial (pdv 3) ?_) (pdT (ds:=[.int<|aNZ p k i j n ws])<|aA (pdc GN hr (aA (pdv 0) (aA (pdv 1)<|aA (pdv 2) aE)) ⟨p,k,i,j,n,ws,O,rfl,rfl⟩) aE) ?_) (yH (ol:=some<|((i.toNat))+1) (oh:=none) (pdv 2) (fO fW (pdv 3) bS) trivial ?_) ?_) ?_) trivial rfl
 ·rw[HT.sIx_nat,aC];lia
 ·rw[aEG ws li];simp only[aC,cE,bJ,iP];lia
 ·have e:(((i.toNat))+1)=((i.toNat+1:Nat):Int):=by push_cast;rfl
  rw[e,HT.sIx_nat,aC];lia
 ·rw[aEG ws li,aCp ws li];simp only[aP,aC,cE,dY,bJ,iP];lia
 ·rw[aEG ws li,aCp ws li];unfold cB aSu;rw[List.set_eq_take_append_cons_drop,zt li];simp
def aKn(O:uV p q)(G:Fil p ws):aQX p q.1 q.2.1 q.2.2.1 q.2.2.2 ws:=⟨O.sz,O.k10,O.i0,O.j0,O.n0,G.len,G.wd⟩
theorem aIl(F:FI K mg "numbers_of_step" aQT)(zf:mg "tuple"=none)(GN:bF P w K mg base "number_of" 2 2 aSf)(GS:bF P w K mg base "step_on" 3 3 aBB)(GF:bF P w K mg base "fillings" 2 1 vN):bF P w K mg base "numbers_of_step" 4 2 aSr:=by
 have nd2:(["filling","size","step"]:List Str).Nodup:=by decide+kernel
 refine cY (N:=["size","step"]) (ps:=["size","step"]) F λf nd cdv A outer s H E hr ds r hl c=>?_
 obtain⟨p,q,hp,O,rfl,rfl⟩:=c;have f9:(bW p).length<=64:=lR hp;obtain⟨h1,h2,h3,h4,h5⟩:=aHq p hp
 have ec:(((bW p).map cB).filter λ_=>true).map (λd=>D.int<|(zS p (onQ p q<|lM d)))=bA (jZ p q):=by
  rw[cR.mpr λ_ _=>rfl];unfold bA jZ;rw[aY,aY];refine cH λg _=>?_
  show D.int ((zS p<|onQ p q (lM<|cB g)))=_;rw[iZ];rfl
 refine aR (iU<|kK rfl zf (PEd.bor<|PEd.val (PEd.cast (lS (ds:=(bW p).map cB) (N:=["filling","size","step"]) (M:=["size","step"]) (cap:=[none,some 0,some 1]) (sc:=aN aQT) (λ_=>true) (λd=>D.int<|(zS p (onQ p q<|lM d))) (iV (PEd.val<|pdc GF hr (aA (pdv 0) aE) ⟨p,hp,rfl,rfl⟩)) (by rw[aC];lia) rfl (by decide+kernel) rfl (by decide+kernel) rfl (λcl C fp s H d hd=>pgN 0) (λd hd=>⟨jb,ja,ja,trivial⟩) (λcl C fp s H d hd=>.inl ⟨rfl,rfl⟩) λcl C2 fp s H d hd _=>?_)<|by rw[ec])));obtain⟨g,hg,rfl⟩:=yJ hd;rw[iZ];have G:=kC hp hg;have e:=(aEF hp<|wN O G).1;exact pdc (ds:=[cP p,cB<|onQ p q g]) GN hr (aA (pdv 1)<|aA (pdc GS hr (aA (pdv 1) (aA (pdv 2)<|aA (pdv 0) aE)) ⟨p,_,_,_,_,g,aKn O G,rfl,rfl⟩) aE) ⟨p,_,rfl,by lia,by lia,by rw[e]⟩
theorem aDs(F:FI K mg "moves_of" aEu)(GN:bF P w K mg base "numbers_of_step" 4 2 aSr):bF P w K mg base "moves_of" 5 2 aKl:=by
 have nd2:(["step","price","size"]:List Str).Nodup:=by decide+kernel
 refine cY (N:=["size","stock"]) (ps:=["size","stock"]) F λf nd cdv A outer s H E hr ds r hl c=>?_
 obtain⟨p,L,hp,S,dn,rfl,rfl⟩:=c;have l8:=S.le
 have ec:((L.map skD).filter λ_=>true).map (λd=>mvD p<|wZ L d)=L.map (mvD p):=by
  rw[cR.mpr λ_ _=>rfl,aY];refine cH λs hs=>?_
  show mvD p (wZ L<|skD s)=_;rw[xV dn hs]
 refine aR<|eE (PEd.cast (lS (N:=["step","price","size"]) (M:=["size","stock"]) (cap:=[none,none,some 0]) (sc:=aN aEu) (Tb:=λd=>[.val<|sqD (wZ L d).1,.val<|.int (wZ L d).2,.val<|cP p]) (λ_=>true) (λd=>mvD p<|wZ L d) (iV<|pdv 1) (by rw[aC];lia) rfl (by decide+kernel) rfl (by decide+kernel) rfl (λcl C fp s H d hd=>?_) (λd hd=>⟨jb,jb,ja,trivial⟩) (λcl C fp s H d hd=>.inl ⟨rfl,rfl⟩) λcl C2 fp s H d hd _=>?_)<|by rw[ec]) trivial rfl
 ·obtain⟨z,hz,rfl⟩:=aS.mp hd;rw[xV dn hz];exact jK (js:=[0,1]) rfl (dI (pgn 0)<|dI (pgn 1) jA) rfl rfl
 ·obtain⟨z,hz,rfl⟩:=aS.mp hd;rw[xV dn hz];exact pdT (aA (pdv 1)<|aA (pdc GN hr (aA (pdv 2)<|aA (pdv 0) aE) ⟨p,z.1,hp,(S.st z hz).1,rfl,rfl⟩) aE)
theorem aGQ(F:FI K mg "numbers_behind" aLe)(zf:mg "tuple"=none):bF P w K mg base "numbers_behind" 1 2 aOx:=by
 have nd2:(["number","other"]:List Str).Nodup:=by decide+kernel
 refine cY (N:=["one","other"]) (ps:=["one","other"]) F λf nd cdv A outer s H E hr ds r hl c=>?_
 obtain⟨one,other,h1,h2,rfl,rfl⟩:=c
 have ec:((bA one).filter λ_=>true).map (λd=>match d with | .int i=>D.int ((other.getD i.toNat 0))|_=>.non)=bA (jI other one):=by rw[cR.mpr λ_ _=>rfl];unfold bA jI;rw[aY,aY];rfl
 refine aR (iU<|kK rfl zf (PEd.bor<|PEd.val (PEd.cast (lS (N:=["number","other"]) (M:=["one","other"]) (cap:=[none,some 1]) (sc:=aN aLe) (λ_=>true) (λd=>match d with | .int i=>D.int ((other.getD i.toNat 0))|_=>.non) (mR<|pdv 0) (by rw[aCm];lia) rfl (by decide+kernel) rfl (by decide+kernel) rfl (λcl C fp s H d hd=>pgN 0) (λd hd=>⟨jb,ja,trivial⟩) (λcl C fp s H d hd=>.inl ⟨rfl,rfl⟩) λcl C2 fp s H d hd _=>?_)<|by rw[ec])));obtain⟨i,hi,rfl⟩:=aS.mp hd;exact rZ (pdv 1) (pdv 0) (aPC<|h2 i hi) λ_ _=>rfl
abbrev nl1:List Str:=["waiting","moves","bound","rank","row","numbers","place","move","price","longer"]
theorem aJh(F:FI K mg "put_longer_rows" aRN)(zc:mg "enumerate"=none)(GB:bF P w K mg base "numbers_behind" 1 2 aOx):uF P w K (wtL P w K) mg base "put_longer_rows" 2 6 aQA:=by
 obtain⟨f,fd,hm,F⟩:=F;have nd:nl1.Nodup:=by decide+kernel
 refine aMx (ps:=["waiting","moves","bound","rank","row","numbers"]) F ⟨rfl,rfl,rfl,nd,rfl,by decide+kernel,by decide+kernel⟩ hm (λ_ _ _ _ _ _ us hl=>match us,hl with | [_,_,_,_,_,_],_=>rfl) (λcdv A outer s H E B hB hr a ds post hl c=>?_)<|aHX P w K;obtain⟨p,L,b,r,row,nb,hp,L9,hnb,r9,ndT,hT,rfl,rfl⟩:=c;have hu:=uN hr 4;have f9:(bW p).length<=64:=lR hp;refine aR<|iF (λt sd=>∃a':Wt,a'.l=a.l/\a'.T=lgQ p L b r row nb t a.T/\sd=[wtS P w K a',.val<|.lst (L.map<|mvD p),.val<|.int b,.val<|.tup [.int r.1,.int r.2],.val (.tup<|bA row),.val (.tup<|bA nb),.un,.un,.un,.un]) (oH rfl zc<|pdv 1) ⟨_,Le.refl _,a,rfl,rfl,rfl⟩ (λt d sdt hd ht=>?_) λsdn hn=>?_
 ·obtain⟨x,hx,rfl⟩:=kO hd;obtain⟨a',el,eT,rfl⟩:=ht
  have tl:t<L.length:=by have:=(aF.mp hx).1;simpa using this
  have ex:x=mvD p (L.getD t AS):=by rw[bE,fC tl] at hx;rw[<-bZ.inj hx];simp[bV,tl]
  subst ex;have es:lgQ p L b r row nb (t+1) a.T=if r.1+(L.getD t AS).2<=b then kM (lgQ p L b r row nb t a.T) (r.1+(L.getD t AS).2,r.2+1) (nP (row++[t],jI (jZ p (L.getD t AS).1) nb)) else lgQ p L b r row nb t a.T:=rfl
  have ndt:=aHF (p:=p) (L:=L) (b:=b) (r:=r) (row:=row) (nb:=nb) ndT t;have tt:=aJB (p:=p) (L:=L) (b:=b) (r:=r) (row:=row) (nb:=nb) (T:=a.T) t;rw[<-eT] at es ndt tt;obtain⟨pl0,pl1⟩:=hnb;generalize L.getD t AS=m at es;refine⟨[wtS P w K a',.val<|.lst (L.map<|mvD p),.val<|.int b,.val<|.tup [.int r.1,.int r.2],.val (.tup<|bA row),.val (.tup<|bA nb),.val<|.int (t:Int),.val<|mvD p m,.un,.un],jK (js:=[6,7]) rfl (dI (pgn 6)<|dI (pgn 7) jA) rfl rfl,?_⟩;refine aG<|gG (d:=.int<|r.1+m.2) 8 (fO fW (pdx (n:=0) (d:=.int r.1)<|pdv 3) (pdx (n:=0) (d:=.int m.2)<|pdv 7)) ?_;refine aR<|fX (k:=decide<|r.1+m.2<=b) (pY aLt (pdv 8) (pdv 2)<|fN _) (λq=>?_) λq=>eA ?_
  ·rw[zt<|of_decide_eq_true q] at es;have e1:bA row++[.int (t:Int)]=bA (row++[t]):=by unfold bA;rw[aX];rfl
   refine aG<|gG (d:=p2D<|nP (row++[t],jI (jZ p m.1) nb)) 9 (PEd.cast (pdT (ds:=[.tup (bA<|row++[t]),.tup (bA<|jI (jZ p m.1) nb)]) (aA (PEd.cast (kS (d1:=bA row) (d2:=[.int (t:Int)]) (pdv 4) (pdT (ds:=[.int (t:Int)])<|aA (pdv 6) aE)<|by unfold bA;rw[aC];show _+1<=10000;lia)<|by rw[e1])<|aA (pdc (ds:=[.tup<|bA nb,.tup (bA<|jZ p m.1)]) (r:=.val<|.tup (bA<|jI (jZ p m.1) nb)) GB hr (aA (pdv 5)<|aA (pdx (n:=1) (d:=.tup (bA<|jZ p m.1))<|pdv 7) aE) ⟨nb,jZ p m.1,by lia,λi hi=>by rw[aMQ];exact pl1 i hi,rfl,rfl⟩) aE))<|by rw[aQK]) ?_;generalize nP (row++[t],jI (jZ p m.1) nb)=y at es;refine aR<|aAu (k:=rkK (r.1+m.2,r.2+1)) (ks:=wtK a'.T) (ls:=a'.ls) (dss:=wtD a'.T) (d:=p2D y) 0 (by show(A.deeper _).units+1<AR;lia) rfl (pv 0) (PEd.cast (pdT (ds:=[.int<|r.1+m.2,.int<|r.2+1]) (aA (pdv 8)<|aA (fO fW (pdx (n:=1) (d:=.int r.2)<|pdv 3) bS) aE)) rfl) (λz=>oU 9 rfl<|pv 9) (by have:=aNo a'.T;unfold wtD;rw[aC];lia) (λds hd=>by have:=aLW ds hd;lia) (λn ds hk hd=>?_) λhk a9=>?_
   ·obtain⟨k1,k2⟩:=xZ y ndt hk hd;refine⟨[wtS P w K ⟨a'.l,a'.ls,kM a'.T (r.1+m.2,r.2+1) y⟩,.val<|.lst (L.map<|mvD p),.val<|.int b,.val<|.tup [.int r.1,.int r.2],.val (.tup<|bA row),.val (.tup<|bA nb),.un,.un,.un,.un],⟨.inr ?_,ja,ja,ja,ja,ja,jb,jb,jb,jb,trivial⟩,⟨a'.l,a'.ls,kM a'.T (r.1+m.2,r.2+1) y⟩,el,es.symm,rfl⟩;unfold wtS;rw[k1,k2];rfl
   ·have k1:=yS y hk;refine⟨[wtS P w K ⟨a'.l,a'.ls++[a9],kM a'.T (r.1+m.2,r.2+1) y⟩,.val<|.lst (L.map<|mvD p),.val<|.int b,.val<|.tup [.int r.1,.int r.2],.val (.tup<|bA row),.val (.tup<|bA nb),.un,.un,.un,.un],⟨.inr ?_,ja,ja,ja,ja,ja,jb,jb,jb,jb,trivial⟩,⟨a'.l,a'.ls++[a9],kM a'.T (r.1+m.2,r.2+1) y⟩,el,es.symm,rfl⟩;unfold wtS;rw[k1];unfold wtK wtD;rw[aX,aX];rfl
  ·rw[zr<|of_decide_eq_false q] at es;exact⟨[wtS P w K a',.val<|.lst (L.map<|mvD p),.val<|.int b,.val<|.tup [.int r.1,.int r.2],.val (.tup<|bA row),.val (.tup<|bA nb),.un,.un,.un,.un],⟨ja,ja,ja,ja,ja,ja,jb,jb,jb,ja,trivial⟩,a',el,es.symm,rfl⟩
 ·obtain⟨a',el,eT,rfl⟩:=hn;refine⟨a',⟨el,?_⟩,rfl⟩;rw[eT,jR,aC]
abbrev nl2:List Str:=["moves","bound","start","waiting","known","found","rank","ready","row","numbers"]
theorem aKf(zh:mg "len"=none)(zo:mg "min"=none)(zj:mg "list"=none)(zk:mg "sorted"=none)(hmt:∃t,mg "MOST_TABLES"=some (.int 500 t))(xk:aQi K mg CN)(GP:uF P w K (wtL P w K) mg base "put_longer_rows" 2 6 aQA)(hr:Room 2 (A.deeper<|Ad "found_rows" (aN sFd) s.heap.objs.size f cdv))(hξ:PassesOwn (AG P w) (A.deeper<|Ad "found_rows" (aN sFd) s.heap.objs.size f cdv) (Ad "found_rows" (aN sFd) s.heap.objs.size f cdv) ξ)(hp:p∈bX)(S0:StkOk p L)(b3:b<=300)(tk:500<(bkF p L b).length->∀sd,xX ((gO CX0 P w K mg base nl2 "found_rows" (aN sFd) f cdv A outer s H E).wish ξ) (.ref CN) sd)(hEd:(bkF p L b).length<=500->Ed.rt (.own<|(bkF p L b).map fdD)):PSd ((gO CX0 P w K mg base nl2 "found_rows" (aN sFd) f cdv A outer s H E).wish ξ) (init 10 [.lst (L.map<|mvD p),.int b,.tup (bA<|st0 p)]) (cF sFd) Ed:=by
 obtain⟨tm,hmt⟩:=hmt;have nd:nl2.Nodup:=by decide+kernel
 have hu8:=uN hr 8;have hu4:=uN hr 4;have hu2:=uN hr 2;have hu1:=uN hr 1;have hpr:=S0.pr;have l8:=S0.le;have m8:∀ {n:Nat},n<=500->n*L.length<=4000:=λh=>cJ (aQv h l8)<|by decide
 refine aG<|aAo 3 nd rfl jb λl3=>?_;refine aOz (K:=∀ls T,(fd0 p b).T=T->PSd _ [.val<|.lst (L.map<|mvD p),.val<|.int b,.val<|.tup (bA<|st0 p),wtS P w K ⟨l3,ls,T⟩,.un,.un,.un,.un,.un,.un] _ _) (λkey=>aG (fX (pY aHD (pdv 1) bS<|fN _) (λq=>?_) λq=>eA<|key [] [] (zr<|of_decide_eq_false q))) λls T e0=>?_
 ·refine aR<|aJm (ds:=[p2D<|nP ([],st0 p)]) 3 hu1 rfl (pv 3) (pdL<|aA (PEd.cast (pdT (ds:=[.tup<|bA [],.tup (bA<|st0 p)]) (aA (pdT aE)<|aA (pdv 2) aE))<|by rw[aQK]) aE) (λz=>nomatch z) (fP rfl) λa=>?_;exact key [a] [((0,0),[nP ([],st0 p)])] (zt<|of_decide_eq_true q)
 subst e0;refine aG<|aIa (hkT P w) 4 nd rfl jb λl4=>?_;refine aG<|rE 5 (pdL (ds:=[]) aE) λl5=>?_;refine aG<|vH (λm sd=>∃S dn r ls,Wk p L b dn r [] S/\4001<dn.length+m/\jH p L b m S=jH p L b 4002 (fd0 p b)/\S.fd.length<=500/\sd=[.val<|.lst (L.map<|mvD p),.val<|.int b,.val<|.tup (bA<|st0 p),wtS P w K ⟨l3,ls,S.T⟩,oG (hkT P w) K l4 (S.kn.map oW)<|S.kn.map λ_=>.bl true,.own l5<|S.fd.map fdD,.un,.un,.un,.un]) ⟨4002,_,Le.refl _,fd0 p b,[],(0,0),ls,wk0 p L b,by simp,rfl,bQ _,rfl⟩ (λm sdm hw=>?_) (hp:=hξ);obtain⟨S,dn,r,ls,W,hU,hR,s5,rfl⟩:=hw;refine⟨decide<|(0:Int)<((wtK S.T).length:Int),pY aOg (aMh 3 rfl zh rfl<|pv 3) bS<|fN _,λq=>?_,λq=>?_⟩
 ·have e:S.T=[]:=by have:=of_decide_eq_false q;unfold wtK at this;rw[aC] at this;exact iH (by lia)
  have e2:jH p L b m S=S:=by
   cases m with
   |zero=>rfl
   |succ m=>exact zt e
  have e3:bkF p L b=S.fd:=by unfold bkF;rw[<-hR,e2]
  refine aR<|sJ 5 rfl (pv 5) ?_;rw[<-e3];exact hEd (by rw[e3];exact s5)
 ·have hne:S.T≠[]:=λz=>by rw[z] at q;cases q
  obtain⟨t,ht,hm,tnd,tne,W1,eT,W2⟩:=W.turn hpr hne;obtain⟨M,t',g1,g2,g3,g4,_⟩:=aPq (X:=((gO CX0 P w K mg base nl2 "found_rows" (aN sFd) f cdv A outer s H E).wish ξ)) hu4 hne;have et:t=t':=(bZ.inj<|g1.symm.trans ht).symm;subst et
  have tl:t.2.length<=10000:=by have h1:=(iJ t.2).length_eq;have h2:_<=1+S.fd.length*L.length:=W1.few2;have:=m8 s5;lia
  refine aG<|gG (d:=rkD t.1) 6 (aLR rfl zo (PEd.bor<|PEd.val (aHP 3 rfl zj rfl<|pv 3)) M g2) ?_;refine aG<|aIU (ps:=t.2) (rk:=rkP t.2) (k:=rkK t.1) 3 7 (fJ S.T) hu1 rfl zk rfl (pv 3) (PEd.cast (pdv 6) rfl) g3 g4 (aPo tnd tl hu8) nd rfl jb λl7 qs qp qw=>iC 7 rfl ?_;have eq:=aNi tnd qp qw;subst eq;have ek:wtK (S.T.eraseIdx<|fJ S.T)=(wtK S.T).eraseIdx (fJ S.T):=by unfold wtK;rw[dL,dL,aX,fR,gZ]
  have ed:wtD (S.T.eraseIdx<|fJ S.T)=(wtD S.T).eraseIdx (fJ S.T):=by unfold wtD;rw[dL,dL,aX,fR,gZ]
  have e5:odG P w K l3 ((wtK S.T).eraseIdx<|fJ S.T) (ls.eraseIdx<|fJ S.T) ((wtD S.T).eraseIdx<|fJ S.T)=wtS P w K ⟨l3,ls.eraseIdx<|fJ S.T,S.T.eraseIdx<|fJ S.T⟩:=by unfold wtS;rw[ek,ed]
  refine aKG (sd':=[.val<|.lst (L.map<|mvD p),.val<|.int b,.val<|.tup (bA<|st0 p),wtS P w K ⟨l3,ls.eraseIdx<|fJ S.T,({S with T:=S.T.eraseIdx (fJ S.T)}:FdS).T⟩,oG (hkT P w) K l4 (({S with T:=S.T.eraseIdx (fJ S.T)}:FdS).kn.map oW)<|({S with T:=S.T.eraseIdx (fJ S.T)}:FdS).kn.map λ_=>.bl true,.own l5<|({S with T:=S.T.eraseIdx (fJ S.T)}:FdS).fd.map fdD,.val<|rkD t.1,.val (.lst<|(hX t.2).map p2D),.un,.un]) ⟨ja,ja,ja,.inr e5,ja,ja,ja,ja,ja,ja,trivial⟩ ?_
  have hR2:∃m',m=m'+1/\jH p L b m' (fdT p L b S)=jH p L b 4002 (fd0 p b):=by
   cases m with
   |zero=>have:=W.few2;have:=m8 s5;lia
   |succ m'=>have e6:jH p L b (m'+1) S=jH p L b m' (fdT p L b S):=zr hne;exact⟨m',rfl,by rw[<-e6];exact hR⟩
  obtain⟨m',rfl,hR2⟩:=hR2
  have tpos:0<(hX t.2).length:=by rw[(iJ t.2).length_eq];exact jN.mpr tne
  have s51:({S with T:=S.T.eraseIdx (fJ S.T)}:FdS).fd.length<=500:=s5;rw[eT] at hR2 W2;clear hR e5 ek ed g1 g2 g3 g4 M qp qw eT;generalize ({S with T:=S.T.eraseIdx (fJ S.T)}:FdS)=S1 at W1 W2 hR2 s51
  have pre:∀j,(fdP p L b t.1 S1<|(hX t.2).take j).fd.length<=(bkF p L b).length:=λj=>by
   have e1:fdP p L b t.1 (fdP p L b t.1 S1<|(hX t.2).take j) ((hX t.2).drop j)=fdP p L b t.1 S1 (hX t.2):=by
    conv=>rhs;rw[<-dN j (hX t.2)]
    unfold fdP;rw[eC]
   have h1:=(aBD (p:=p) (L:=L) b t.1 ((hX t.2).drop j) (fdP p L b t.1 S1<|(hX t.2).take j)).length_le;have h2:=(aFi (p:=p) (L:=L) (b:=b) m' (fdP p L b t.1 S1<|hX t.2)).length_le;rw[e1] at h1;rw[hR2] at h2;exact cJ h1 h2
  generalize ls.eraseIdx (fJ S.T)=ls1;refine aR<|iF (ds:=(hX t.2).map p2D) (λj sd=>∃S' ls,S'=fdP p L b t.1 S1 ((hX t.2).take j)/\S'.fd.length<=500/\sd=[.val<|.lst (L.map<|mvD p),.val<|.int b,.val<|.tup (bA<|st0 p),wtS P w K ⟨l3,ls,S'.T⟩,oG (hkT P w) K l4 (S'.kn.map oW)<|S'.kn.map λ_=>.bl true,.own l5<|S'.fd.map fdD,.val<|rkD t.1,.val (.lst<|(hX t.2).map p2D),.un,.un]) (iV<|pdv 7) ⟨_,Le.refl _,S1,ls1,rfl,s51,rfl⟩ (λj d sdj hd hj=>?_) (λsdn hn=>?_) (hp:=hξ)
  ·obtain⟨S',ls2,eS,f1,rfl⟩:=hj;have pj:=pre<|j+1;obtain⟨y,hy,rfl,ey⟩:=xJ hd;have jl:j<(hX t.2).length:=(aF.mp hy).1;have Wj:=W1.take hpr j (by lia);have Wj1:=W1.take hpr (j+1) (by omega);rw[ey,yN,<-eS] at Wj1;rw[<-eS] at Wj;have eS1:fdP p L b t.1 S1 ((hX t.2).take<|j+1)=fdI p L b t.1 S' (unP y):=by rw[ey,yN,<-eS]
   obtain⟨row,rfl,ro,er,rb⟩:=W1.rs y<|bC hy;rw[eS1] at pj ⊢;rw[aOp] at Wj1 pj ⊢
   have rU:row.length<=300:=by
    have:=aEv (pr:=prK L) row λk hk=>hpr k<|ro k hk
    have rb:S45.prQ (prK L) row<=b:=by rw[er] at rb;exact rb
    lia
   have nbo:=(aEp hp (λs hs=>(S0.st s hs).1) ro).1;have tt:=Wj.tot2;have:=m8 f1;have okj:=Wj.ok
   have kl:S'.kn.length<=500:=by rw[okj.kn,aC];exact f1
   have dy:p2D (itP p L row)=.tup [.tup<|bA row,.tup (bA<|nrQ p L row)]:=aQK _;rw[dy];clear Wj Wj1 eS1 ey hy hd eS dy;refine⟨[.val<|.lst (L.map<|mvD p),.val<|.int b,.val<|.tup (bA<|st0 p),wtS P w K ⟨l3,ls2,S'.T⟩,oG (hkT P w) K l4 (S'.kn.map oW)<|S'.kn.map λ_=>.bl true,.own l5<|S'.fd.map fdD,.val<|rkD t.1,.val (.lst<|(hX t.2).map p2D),.val (.tup<|bA row),.val<|.tup (bA<|nrQ p L row)],jK (ds:=[.tup<|bA row,.tup (bA<|nrQ p L row)]) (js:=[8,9]) rfl (dI (pgn 8)<|dI (pgn 9) jA) rfl rfl,?_⟩
   have inj:decide (nrQ p L row∈S'.kn)=true↔oW (nrQ p L row)∈S'.kn.map oW:=by
    rw[decide_eq_true_iff]
    constructor
    ·exact λh=>aS.mpr ⟨_,h,rfl⟩
    ·intro h;obtain⟨e,e1,e2⟩:=aS.mp h;rw[<-aDg e2];exact e1
   refine aOz (K:=∀S2 ls3,S2=fdI p L b t.1 S' (row,nrQ p L row)->PSd _ [.val<|.lst (L.map<|mvD p),.val<|.int b,.val<|.tup (bA<|st0 p),wtS P w K ⟨l3,ls3,S2.T⟩,oG (hkT P w) K l4 (S2.kn.map oW)<|S2.kn.map λ_=>.bl true,.own l5<|S2.fd.map fdD,.val<|rkD t.1,.val (.lst<|(hX t.2).map p2D),.val (.tup<|bA row),.val<|.tup (bA<|nrQ p L row)] _ _) (λkey=>aG (fX (k:= !decide (nrQ p L row∈S'.kn)) (aHQ (hk:=hkT P w) (k:=oW<|nrQ p L row) inj hu2 (PEd.cast (pdv 9)<|by rw[show(hkT P w).dat (oW<|nrQ p L row)=tD (oW<|nrQ p L row) from rfl,aJZ]) (aLx 4 rfl<|pv 4)) (λq=>?_) λq=>eA<|key S' ls2 (zt<|by simpa using q).symm)) λS2 ls3 e2=>?_
   ·have nk:nrQ p L row∉S'.kn:=by simpa using q
    refine aG<|aIZ (hk:=hkT P w) (k:=oW<|nrQ p L row) (d:=.bl true) 4 hu2 rfl (pv 4) aEk (PEd.cast (pdv 9)<|by rw[show(hkT P w).dat (oW<|nrQ p L row)=tD (oW<|nrQ p L row) from rfl,aJZ]) (λz=>nk (of_decide_eq_true<|inj.mpr z)) (by rw[aC];lia) ?_;refine aG<|mG (d:=fdD (t.1.1,row,nrQ p L row)) 5 rfl (pv 5) (pdT (ds:=[.int t.1.1,.tup<|bA row,.tup (bA<|nrQ p L row)])<|aA (pdx (n:=0) (d:=.int t.1.1)<|pdv 6) (aA (pdv 8)<|aA (pdv 9) aE)) (by rw[aC];lia) ?_;refine aR<|aGd (Z:=wtL P w K) (a:=⟨l3,ls2,S'.T⟩) (ds:=[.lst (L.map<|mvD p),.int b,.tup [.int t.1.1,.int t.1.2],.tup<|bA row,.tup (bA<|nrQ p L row)]) 3 rfl (pv 3) GP hr rfl (aA (pdv 0) (aA (pdv 1)<|aA (pdv 6) (aA (pdv 8)<|aA (pdv 9) aE))) ⟨p,L,b,t.1,row,nrQ p L row,hp,by lia,nbo,by lia,okj.nk,by show tot S'.T+_<=_;lia,rfl,rfl⟩ (λa' h=>h.1) rfl λa' h=>?_;obtain⟨al,als,aT⟩:=a';obtain⟨h1,h2⟩:=h;have h1:al=l3:=h1;have h2:aT=lgQ p L b t.1 row (nrQ p L row) L.length S'.T:=h2;subst h1 h2;have k:=key ⟨lgQ p L b t.1 row (nrQ p L row) L.length S'.T,S'.kn++[nrQ p L row],S'.fd++[(t.1.1,row,nrQ p L row)]⟩ als (zr nk).symm;simp only[aX,cA,gB] at k;exact k
   ·rw[<-e2] at pj;refine aR (fX (k:=decide<|(500:Int)<(((S2.fd.map fdD).length:Nat):Int)) (pY aOg (mS rfl zh (uB 5 rfl<|pv 5)) (aIV (i:=500) rfl hmt ⟨tm,rfl⟩)<|fN _) (λq=>?_) λq=>eA ?_)
    ·have q:=of_decide_eq_true q;rw[aC] at q;exact aR (aGl (ds:=[.str _]) rfl xk.nw.1 xk.ex (tk (by lia) _) (aA fE aE)<|fP rfl)
    ·have q:=of_decide_eq_false q;rw[aC] at q;exact⟨[.val<|.lst (L.map<|mvD p),.val<|.int b,.val<|.tup (bA<|st0 p),wtS P w K ⟨l3,ls3,S2.T⟩,oG (hkT P w) K l4 (S2.kn.map oW)<|S2.kn.map λ_=>.bl true,.own l5<|S2.fd.map fdD,.val<|rkD t.1,.val (.lst<|(hX t.2).map p2D),.un,.un],⟨ja,ja,ja,ja,ja,ja,ja,ja,jb,jb,trivial⟩,S2,ls3,e2,by lia,rfl⟩
  ·obtain⟨S',ls3,eS,f1,rfl⟩:=hn;rw[aC,fQ] at eS;subst eS;exact⟨m',[.val<|.lst (L.map<|mvD p),.val<|.int b,.val<|.tup (bA<|st0 p),wtS P w K ⟨l3,ls3,(fdP p L b t.1 S1<|hX t.2).T⟩,oG (hkT P w) K l4 ((fdP p L b t.1 S1<|hX t.2).kn.map oW)<|(fdP p L b t.1 S1<|hX t.2).kn.map λ_=>.bl true,.own l5<|(fdP p L b t.1 S1<|hX t.2).fd.map fdD,.un,.un,.un,.un],iE _,⟨ja,ja,ja,ja,ja,ja,jb,jb,ja,ja,trivial⟩,fdP p L b t.1 S1<|hX t.2,dn++(hX t.2).map rwP,t.1,ls3,W2,by rw[aP,aC];lia,hR2,f1,rfl⟩
def aDV(F:FI K mg "found_rows" sFd)(zh:mg "len"=none)(zo:mg "min"=none)(zj:mg "list"=none)(zk:mg "sorted"=none)(hmt:∃t,mg "MOST_TABLES"=some (.int 500 t))(xk:aQi K mg CN)(GP:uF P w K (wtL P w K) mg base "put_longer_rows" 2 6 aQA):bF P w K mg base "found_rows" 3 3 aKp/\fS P w K mg base "found_rows" 3 3 aKA (.ref CN) [] []:=by
 constructor
 ·refine cY (N:=nl2) (ps:=["moves","bound","start"]) F λf nd cdv A outer s H E hr ds r hl c=>?_
  obtain⟨p,L,b,hp,S0,FU,rfl,rfl⟩:=c;exact aKf zh zo zj zk hmt xk GP hr PassesOwn.never hp S0 FU.b3 (λh=>absurd FU.le<|aNO h) λ_=>rfl
 ·refine aDe (N:=nl2) (ps:=["moves","bound","start"]) F λf nd cdv A outer s H E hr hE ds hl c=>?_
  obtain⟨p,L,b,hp,S0,⟨b3,g⟩,rfl⟩:=c;exact aKf (E:=E) zh zo zj zk hmt xk GP hr PassesOwn.leaving hp S0 b3 (λ_ sd=>aDA hE) λh=>absurd h<|aNO g
theorem aDQ(F:FI K mg "table_from" aEH)(zf:mg "tuple"=none):bF P w K mg base "table_from" 1 2 aJG:=by
 have nd2:(["number","every"]:List Str).Nodup:=by decide+kernel
 refine cY (N:=["every","numbers"]) (ps:=["every","numbers"]) F λf nd cdv A outer s H E hr ds r hl c=>?_
 obtain⟨B,nb,h1,h2,rfl,rfl⟩:=c
 have ec:((bA nb).filter λ_=>true).map (λd=>match d with | .int i=>cB (B.getD i.toNat [])|_=>.non)=(nb.map λi=>B.getD i []).map cB:=by rw[cR.mpr λ_ _=>rfl];unfold bA;rw[aY,aY];rfl
 refine aR (iU<|kK rfl zf (PEd.bor<|PEd.val (PEd.cast (lS (N:=["number","every"]) (M:=["every","numbers"]) (cap:=[none,some 0]) (sc:=aN aEH) (λ_=>true) (λd=>match d with | .int i=>cB (B.getD i.toNat [])|_=>.non) (mR<|pdv 1) (by rw[aCm];lia) rfl (by decide+kernel) rfl (by decide+kernel) rfl (λcl C fp s H d hd=>pgN 0) (λd hd=>⟨jb,ja,trivial⟩) (λcl C fp s H d hd=>.inl ⟨rfl,rfl⟩) λcl C2 fp s H d hd _=>?_)<|by rw[ec])));obtain⟨i,hi,rfl⟩:=aS.mp hd;exact nI (PEd.bor<|pdv 1) (pdv 0) (aFe<|h2 i hi) λ_ _=>rfl
abbrev nl3:List Str:=["size","stock","bound","every","found"]
theorem aGz(F:FI K mg "book_of" aLq)(zh:mg "len"=none)(zd:mg "range"=none)(zf:mg "tuple"=none)(GF:bF P w K mg base "fillings" 2 1 vN)(GM:bF P w K mg base "moves_of" 5 2 aKl)(GR:bF P w K mg base "found_rows" 3 3 aKp/\fS P w K mg base "found_rows" 3 3 aKA (.ref CN) [] [])(GT:bF P w K mg base "table_from" 1 2 aJG):bF P w K mg base "book_of" 6 3 aLk/\fS P w K mg base "book_of" 6 3 aBo (.ref CN) [] []:=by
 have nd2:(["price","row","numbers","every"]:List Str).Nodup:=by decide+kernel
 constructor
 ·refine cY (N:=nl3) (ps:=["size","stock","bound"]) F λf nd cdv A outer s H E hr ds r hl c=>?_
  obtain⟨p,L,b,hp,S,dn,FU,rfl,rfl⟩:=c;have hr2:=hr.mono (show 2<=5 by decide);have hr3:=hr.mono (show 3<=5 by decide);have f9:(bW p).length<=64:=lR hp;have O:=aJJ S.pr FU;have l4:=O.len;refine aG<|rE (ds:=(bW p).map cB) 3 (pdc GF hr2 (aA (pdv 0) aE) ⟨p,hp,rfl,rfl⟩) λl5=>iC 3 rfl ?_;refine aG<|rE 4 (pdc (ds:=[.lst (L.map<|mvD p),.int b,tN<|st0 p]) GR.1 hr3 (aA (PEd.val<|pdc GM hr (aA (pdv 0)<|aA (pdv 1) aE) ⟨p,L,hp,S,dn,rfl,rfl⟩) (aA (pdv 2)<|aA (vK rfl zf rfl zd (PEd.ic (mS rfl zh (PEd.bor<|pdv 3))<|by rw[aC])<|by lia) aE)) ⟨p,L,b,hp,S,FU,rfl,rfl⟩) λl4=>iC 4 rfl ?_
  have ec:(((bkF p L b).map fdD).filter λ_=>true).map (λd=>enD ((unE d).1,(unE d).2.1,lI p (unE d).2.2))=(bkQ p L b).map enD:=by
   rw[cR.mpr λ_ _=>rfl,aY];unfold bkQ;rw[aY];refine cH λe _=>?_
   show enD ((unE<|fdD e).1,(unE<|fdD e).2.1,lI p (unE<|fdD e).2.2)=_;rw[aLb];rfl
  refine aR<|eE (PEd.cast (lS (N:=["price","row","numbers","every"]) (M:=nl3) (cap:=[none,none,none,some 3]) (sc:=aN aLq) (Tb:=λd=>[.val<|.int (unE d).1,.val (.tup<|bA (unE d).2.1),.val (.tup<|bA (unE d).2.2),.val (tL<|bW p)]) (λ_=>true) (λd=>enD ((unE d).1,(unE d).2.1,lI p (unE d).2.2)) (iV<|pdv 4) (by rw[aC];lia) rfl (by decide+kernel) rfl (by decide+kernel) rfl (λcl C fp s H d hd=>?_) (λd hd=>⟨jb,jb,jb,ja,trivial⟩) (λcl C fp s H d hd=>.inl ⟨rfl,rfl⟩) λcl C2 fp s H d hd _=>?_)<|by rw[ec]) trivial rfl
  ·obtain⟨e,he,rfl⟩:=aS.mp hd;rw[aLb];exact jK (ds:=[.int e.1,tN e.2.1,tN e.2.2]) (js:=[0,1,2]) rfl (dI (pgn 0) (dI (pgn 1)<|dI (pgn 2) jA)) rfl rfl
  ·obtain⟨e,he,rfl⟩:=aS.mp hd;rw[aLb];obtain⟨h1,h2,h3,h4,h5⟩:=O.ent e he;have nbo:=(aEp hp (λs hs=>(S.st s hs).1) h1).1;rw[<-h4] at nbo;exact pdT (ds:=[.int e.1,tN e.2.1,.tup<|(lI p e.2.2).map cB])<|aA (pdv 0) (aA (pdv 1)<|aA (pdc (ds:=[tL<|bW p,tN e.2.2]) GT hr (aA (pdv 3)<|aA (pdv 2) aE) ⟨bW p,e.2.2,by rw[nbo.1];lia,nbo.2,rfl,rfl⟩) aE)
 ·refine aDe (N:=nl3) (ps:=["size","stock","bound"]) (k:=5) F λf nd cdv A outer s H E hr hE ds hl c=>?_
  obtain⟨p,L,b,hp,S,dn,g,rfl⟩:=c;have hr2:=hr.mono (show 2<=5 by decide);have hr3:=hr.mono (show 3<=5 by decide);have f9:(bW p).length<=64:=lR hp;refine aG<|rE (ds:=(bW p).map cB) 3 (pdc (ds:=[cP p]) GF hr2 (aA (pdv 0) aE) ⟨p,hp,rfl,rfl⟩) λl5=>iC 3 rfl ?_;exact aG<|oA 4 nd rfl jb (aFd (ds:=[.lst (L.map<|mvD p),.int b,tN<|st0 p]) (dds:=[]) GR.2 rfl hr3 rfl (aA (PEd.val<|pdc (ds:=[cP p,lK L]) GM hr (aA (pdv 0)<|aA (pdv 1) aE) ⟨p,L,hp,S,dn,rfl,rfl⟩) (aA (pdv 2)<|aA (vK (n:=(bW p).length) rfl zf rfl zd (PEd.ic (mS rfl zh (PEd.bor<|pdv 3))<|by rw[aC])<|by lia) aE)) (λ_=>RepL.nil) ⟨p,L,b,hp,S,g,rfl⟩ rfl<|qN hE)
abbrev nl4:List Str:=["number","stock"]
theorem aIn(F:FI K mg "is_row" aBp)(zp:mg "all"=none)(zh:mg "len"=none)(GW:bF P w K mg base "is_whole" 1 1 aKH):bF P w K mg base "is_row" 2 2 aJV:=by
 refine cY (N:=["stock","numbers"]) (ps:=["stock","numbers"]) F λf nd cdv A outer s H E hr ds r hl c=>?_
 obtain⟨L,row,hrow,hl9,rfl,rfl⟩:=c;have nd2:nl4.Nodup:=by decide+kernel
 refine aR<|eE (PEd.cast (aMv (bs:=row.map λ_=>true) rfl zp<|PEd.bor (PEd.val<|PEd.cast (pdC (M:=["stock","numbers"]) (cap:=[none,some 0]) (sc:=aN aBp) (λ_=>true) (λ_=>.bl true) (mR<|pdv 1) (by unfold bA;rw[aC];lia) (λcl C fp s H d hd=>.inl ⟨rfl,rfl⟩) λcl C fp s H d hd _=>?_) ?_)) ?_) trivial rfl
 ·obtain⟨t,ht,rfl⟩:=aS.mp hd;have hn:=hrow t ht;refine PEd.cast (xC (pdc GW hr (aA (pdv 0) aE) ⟨_,rfl,(λ_=>by simp),rfl⟩) λ_=>aBS<|PEd.cast (aGo aLt aHG bS (pdv 0) (PEd.ic (mS rfl zh (PEd.bor<|pdv 1))<|by rw[aC])) ?_) rfl;have h1:=decide_eq_true (by omega);have h2:decide ((t)<(L.length:Int))=true:=decide_eq_true (by lia);rw[h2];rfl
 ·rw[cR.mpr λ_ _=>rfl];unfold bA;rw[aY,aY];rfl
 ·congr 2;rw[fG];intro x hx;obtain⟨_,_,rfl⟩:=aS.mp hx;rfl
def aJF:List D->R->Prop:=λds r=>∃p L row ws,p∈bX/\StkOk p L/\(∀t∈row,t<L.length)/\Fil p ws/\ds=[cP p,.lst<|L.map skD,.tup<|bA row,cB ws]/\r=.val (cB<|fH p L row ws)
def aJi(F:FI K mg "row_on" aJL)(GS:bF P w K mg base "step_on" 3 3 aBB):bF P w K mg base "row_on" 4 4 aJF:=by
 refine cY (N:=["size","stock","row","filling","made","number"]) (ps:=["size","stock","row","filling"]) F λf nd cdv A outer s H E hr ds r hl c=>?_
 obtain⟨p,L,row,ws,hp,S,hrow,G,rfl,rfl⟩:=c;refine aG<|gY 4 nd rfl jb (pdv 3) ?_;refine aG<|oR (λt=>[.val<|cP p,.val<|lK L,.val<|tN row,.val<|cB ws,.val (cB<|fH p L (row.take t) ws),.un]) (λt=>[.val<|cP p,.val<|lK L,.val<|tN row,.val<|cB ws,.val (cB<|fH p L (row.take t) ws),.val (.int<|(row.getD t 0))]) (mR<|pdv 2) ⟨ja,ja,ja,ja,ja,ja,trivial⟩ (λt d hd=>?_) (λt d hd=>?_) ?_
 ·obtain⟨_,rfl⟩:=aFS hd;exact pgN 5
 ·obtain⟨ht,rfl⟩:=aFS hd;have hn:=hrow (row.getD t 0)<|DL.getD_mem ht;have G1:=kB S (row.take t) ws (λu hu=>hrow u<|List.take_subset _ _ hu) G;refine aR<|gG (d:=cB<|fH p L (row.take<|t+1) ws) 4 (pdc GS hr (aA (pdv 0) (aA (pdx<|nI (PEd.bor<|pdv 1) (pdv 5) (aEs hn) λ_ _=>rfl)<|aA (pdv 4) aE)) ⟨p,_,_,_,_,_,aKn (S.st _<|DL.getD_mem hn).1 G1,rfl,by rw[aIM ht,aHc];rfl⟩) ?_;exact⟨ja,ja,ja,ja,ja,jb,trivial⟩
 ·refine aR<|eE (pdv 4) trivial ?_;rw[show(bA row).length=row.length from aC _,fQ]
abbrev nl5:List Str:=["size","stock","row"]
theorem aHR(F:FI K mg "table_of" aED)(zf:mg "tuple"=none)(GF:bF P w K mg base "fillings" 2 1 vN)(GR:bF P w K mg base "row_on" 4 4 aJF):bF P w K mg base "table_of" 5 3 aEt:=by
 refine cY (N:=nl5) (ps:=nl5) F λf nd cdv A outer s H E hr ds r hl c=>?_
 obtain⟨p,L,row,hp,S,hrow,rfl,rfl⟩:=c;have nd2:(["filling","size","stock","row"]:List Str).Nodup:=by decide+kernel
 have f9:=lR hp;have fp:∀w∈jF (2^p.1.toNat) p.2.toNat,Fil p w:=λw hw=>kC hp hw
 have et:tabQ p L row=(jF (2^p.1.toNat) p.2.toNat).map λws=>fH p L row ws:=rfl
 rw[et];refine aR (iU<|kK rfl zf (PEd.bor<|PEd.val (PEd.cast (pdC (M:=nl5) (cap:=[none,some 0,some 1,some 2]) (sc:=aN aED) (λ_=>true) (λd=>cB (fH p L row<|lM d)) (iV (PEd.val<|pdc GF hr (aA (pdv 0) aE) ⟨p,hp,rfl,rfl⟩)) (by rw[aC];lia) (λcl C fp s H d hd=>.inl ⟨rfl,rfl⟩) λcl C fp2 s H d hd _=>?_)<|?_)))
 ·obtain⟨ws,hw,rfl⟩:=yJ hd;rw[iZ];exact pdc GR hr (aA (pdv 1)<|aA (pdv 2) (aA (pdv 3)<|aA (pdv 0) aE)) ⟨p,L,row,ws,hp,S,hrow,fp ws hw,rfl,rfl⟩
 ·rw[cR.mpr λ_ _=>rfl,aY,aY];congr 1;refine cH λws _=>?_
  show cB (fH p L row (lM<|cB ws))=_;rw[iZ];rfl
theorem aHT(F:FI K mg "boxes_looked_at" aKe)(zj:mg "list"=none)(zd:mg "range"=none):bF P w K mg base "boxes_looked_at" 1 2 aEI:=by
 refine cY (N:=["size","looked"]) (ps:=["size","looked"]) F λf nd cdv A outer s H E hr ds r hl c=>?_
 obtain⟨p,o,hp,rfl,rfl⟩:=c;obtain⟨h1,h2,h3,h4,h5⟩:=aHq p hp;have e2:p.2=((p.2.toNat)):=by lia
 cases o with
 |none=>exact aG<|oS (wO (pdv 1) fD) rfl (aR<|eE (PEd.cast (aAO rfl zj rfl zd (PEd.ic (pdx<|pdv 0) e2)<|by lia)<|by rw[aAv];rfl) trivial rfl)
 |some l=>refine aG (mY (wO (pdv 1) fD) rfl<|eA ?_);exact aR (iU<|yM rfl zj (PEd.bor<|pdv 1))
theorem aDv(F:FI K mg "words_in" xL):bF P w K mg base "words_in" 1 2 zH:=by
 refine cY (N:=["boxes","filling"]) (ps:=["boxes","filling"]) F λf nd cdv A outer s H E hr ds r hl c=>?_
 obtain⟨bs,ws,hb,hw,rfl,rfl⟩:=c;have nd2:(["box","filling"]:List Str).Nodup:=by decide+kernel
 refine aR<|eE (PEd.cast (pdC (M:=["boxes","filling"]) (cap:=[none,some 1]) (sc:=aN xL) (λ_=>true) (λd=>match d with | .int i=>D.int (ws.getD i.toNat 0)|_=>.non) (iV<|pdv 0) (by unfold bA;rw[aC];lia) (λcl C fp s H d hd=>.inl ⟨rfl,rfl⟩) λcl C fp s H d hd _=>?_) ?_) trivial rfl
 ·obtain⟨b,hb2,rfl⟩:=aS.mp hd;have:=hw b hb2;exact rZ (pdv 1) (pdv 0) (by simp[bV,this]) λ_ _=>rfl
 ·rw[cR.mpr λ_ _=>rfl];unfold bA;rw[aY,aY];rfl
abbrev nl6:List Str:=["size","one","other","looked","boxes","number","filling"]
theorem aIo(F:FID K mg "parts_at" aJC)(zc:mg "enumerate"=none)(GB:bF P w K mg base "boxes_looked_at" 1 2 aEI)(GW:bF P w K mg base "words_in" 1 2 zH)(GF:bF P w K mg base "fillings" 2 1 vN):CalleeE [.none] P w K mg base "parts_at" 3 4 aKk:=by
 obtain⟨f,fd,hm,F⟩:=F;have nd:nl6.Nodup:=by decide+kernel
 refine qM (ps:=["size","one","other","looked"]) F ⟨rfl,rfl,rfl,nd,rfl,by decide+kernel,by decide+kernel⟩ hm (λs T o nn _ _ _ _ _ _ us hT hS hl=>match us,hl with | [_,_,_,_],_=>BindsTo.of_defaults rfl hT hS rfl rfl) (λs T o nn _ _ _ _ _ _ us hT hS hl=>match us,hl with | [_,_,_],_=>BindsTo.of_defaults rfl hT hS rfl rfl) λcdv A outer s H E hr ds r hl c=>?_
 obtain⟨p,T,U,o,hp,OT,OU,hlk,rfl,rfl⟩:=c;have hu:=uN hr 4;obtain⟨bl,bb⟩:=aOD hp hlk;refine aG<|rE 4 (pdc GB hr (aA (pdv 0)<|aA (pdv 3) aE) ⟨p,o,hp,rfl,rfl⟩) λl=>iC 4 rfl ?_;generalize bxQ p.2.toNat o=bs at bl bb;refine aG<|iF (ds:=mV<|(bW p).map cB) (λk sd=>(∀j,j<k->unK bs T U j=false)/\sd=[.val<|cP p,.val (.tup<|T.map cB),.val (.tup<|U.map cB),.val<|lkD o,.val (.lst<|bA bs),.un,.un]) (oH rfl zc (PEd.val<|pdc GF hr (aA (pdv 0) aE) ⟨p,hp,rfl,rfl⟩)) ⟨_,Le.refl _,λj hj=>by lia,rfl⟩ (λk d sdk hd hk=>?_) λsdn hn=>?_
 ·obtain⟨x,hx,rfl⟩:=kO hd;obtain⟨hk2,rfl⟩:=oF hx;obtain⟨hn,rfl⟩:=hk;have kT:k<T.length:=by rw[OT.len];exact hk2
  have kU:k<U.length:=by rw[OU.len];exact hk2
  have fT:=OT.fil _<|getD_mem (d:=[]) kT;have fU:=OU.fil _<|getD_mem (d:=[]) kU;refine⟨[.val<|cP p,.val (.tup<|T.map cB),.val (.tup<|U.map cB),.val<|lkD o,.val (.lst<|bA bs),.val<|.int (k:Int),.val (cB<|(bW p).getD k [])],jK (js:=[5,6]) rfl (dI (pgn 5)<|dI (pgn 6) jA) rfl rfl,?_⟩;have wd:∀ (V:List (List Int)),k<V.length->(V.map cB)[k]? =some (cB<|V.getD k []):=λV hV=>by simp[bV,hV]
  refine aR<|fX (k:=unK bs T U k) (PTd.cast (tQ (PEd.val<|pdc GW hr (aA (pdv 4)<|aA (rZ (pdv 1) (pdv 5) (wd T kT) λ_ _=>rfl) aE) ⟨bs,T.getD k [],bl,λb hb=>by rw[fT.len];exact bb b hb,rfl,rfl⟩) (PEd.val<|pdc GW hr (aA (pdv 4)<|aA (rZ (pdv 2) (pdv 5) (wd U kU) λ_ _=>rfl) aE) ⟨bs,U.getD k [],bl,λb hb=>by rw[fU.len];exact bb b hb,rfl,rfl⟩) trivial trivial (.inr ⟨rfl,rfl⟩) (sM _) (sM _) (aRu hu<|by show lN _+1+1<=4;rw[uU];decide)) ?_) (λh=>?_) λh=>eA ?_
  ·show(!mP _ _)=unl _ _ _;rw[xW,aBy]
  ·refine aR<|eE (pdv 6) trivial ?_;show R.val _=R.val (aNY<|pW bs (bW p) T U);rw[aDU hk2 h hn];rfl
  ·refine⟨[.val<|cP p,.val (.tup<|T.map cB),.val (.tup<|U.map cB),.val<|lkD o,.val (.lst<|bA bs),.un,.un],⟨ja,ja,ja,ja,ja,jb,jb,trivial⟩,λj hj=>?_,rfl⟩
   by_cases q:j<k
   ·exact hn j q
   ·have:j=k:=by lia
    subst this;exact h
 ·obtain⟨hn,rfl⟩:=hn;rw[jR,aC] at hn;refine aR<|eE fD trivial ?_;show R.val _=R.val (aNY<|pW bs (bW p) T U);rw[yV hn];rfl
abbrev nl7:List Str:=["row","place","many"]
theorem aDL(F:FI K mg "is_window" aKq)(zh:mg "len"=none):bF P w K mg base "is_window" 1 3 aQS:=by
 refine cY (N:=nl7) (ps:=nl7) F λf nd cdv A outer s H E hr ds r hl c=>?_
 obtain⟨row,pl,mn,hw1,hw2,rfl,rfl⟩:=c;have e1:decide ((0)<=(pl:Int))=true:=decide_eq_true (by lia);have e2:decide ((1)<=(mn:Int))=true:=decide_eq_true (by lia);have e3:decide ((pl)+(mn)<=(row.length:Int))=true:=decide_eq_true (by lia);exact aR<|eE (PEd.cast (xC (PEd.cast (aKY aHD (pdv 1) bS<|fN _)<|by rw[e1]) λ_=>PEd.cast (xC (PEd.cast (aKY aHD (pdv 2) bS<|fN _)<|by rw[e2]) λ_=>aBS (PEd.cast (aKY aLt (fO fW (pdv 1)<|pdv 2) (PEd.ic (sE rfl zh<|pdv 0)<|by unfold bA;rw[aC])<|fN _)<|by rw[e3])) rfl) rfl) trivial rfl
theorem aDt(F:FI K mg "words_told" aEQ)(zf:mg "tuple"=none)(GW:bF P w K mg base "words_in" 1 2 zH):bF P w K mg base "words_told" 2 2 aKo:=by
 refine cY (N:=["boxes","table"]) (ps:=["boxes","table"]) F λf nd cdv A outer s H E hr ds r hl c=>?_
 obtain⟨p,bs,T,hp,lb,hb,O,rfl,rfl⟩:=c;have f9:(bW p).length<=64:=lR hp
 have ec:((T.map cB).filter λ_=>true).map (λd=>cB (wdQ bs<|lM d))=(T.map<|wdQ bs).map cB:=by
  rw[cR.mpr λ_ _=>rfl,aY,aY];refine cH λf _=>?_
  show cB (wdQ bs (lM<|cB f))=_;rw[iZ];rfl
 refine aR<|eE (PEd.cast (lS (M:=["boxes","table"]) (cap:=[none,some 0]) (sc:=aN aEQ) (λ_=>true) (λd=>cB (wdQ bs<|lM d)) (mR<|pdv 1) (by rw[aC,O.len];lia) rfl (by decide+kernel) rfl (by decide+kernel) rfl (λcl C fp s H d _=>aCQ 0 (tI (show(["filling","boxes"]:List Str).Nodup by decide+kernel) rfl<|Or.inl rfl)) (λd _=>⟨jb,ja,trivial⟩) (λcl C fp s H d hd=>.inl ⟨rfl,rfl⟩) λcl C fp s H d hd _=>?_)<|by rw[ec]) trivial rfl;obtain⟨f,hf,rfl⟩:=yJ hd;have G:=O.fil f hf;rw[iZ];exact kK rfl zf<|PEd.bor (PEd.val<|pdc GW hr (aA (pdv 1)<|aA (pdv 0) aE) ⟨bs,f,lb,λb h=>by rw[G.len];exact hb b h,rfl,rfl⟩)
theorem aIf(F:FI K mg "fillings_by_words" aSp)(zc:mg "enumerate"=none)(GF:bF P w K mg base "fillings" 2 1 vN):bF P w K mg base "fillings_by_words" 3 2 (aRZ P w K):=by
 refine cY (N:=["size","words","gathered","number","filling"]) (ps:=["size","words"]) F λf nd cdv A outer s H E hr ds r hl c=>?_
 obtain⟨p,h,hp,rfl,rfl⟩:=c;have f9:=lR hp;have hu:=uN hr 1;refine aG<|aAo 2 nd rfl jb λl=>?_;refine aG<|iF (ds:=mV<|(bW p).map cB) (λt sd=>∃ls,sd=[.val<|cP p,.val (tL<|(bW p).map h),odG P w K l ((jU<|((bW p).take t).map h).map kY) ls<|pA h ((bW p).take t) (jU<|((bW p).take t).map h),.un,.un]) (oH rfl zc (PEd.val<|pdc GF hr (aA (pdv 0) aE) ⟨p,hp,rfl,rfl⟩)) ⟨_,Le.refl _,[],rfl⟩ (λt d sdk hd hk=>?_) λsdn hn=>?_
 ·obtain⟨x,e1,rfl⟩:=kO hd;obtain⟨ht,rfl⟩:=oF e1;obtain⟨ls,rfl⟩:=hk;have ew:(((bW p).map h).map cB)[t]? =some (cB (h<|(bW p).getD t [])):=by simp[bV,ht]
  have et:=aAi [] ht;have tl:((bW p).take t).length<=64:=cJ (List.length_take_le' _ _) f9;refine⟨[.val<|cP p,.val (tL<|(bW p).map h),odG P w K l ((jU<|((bW p).take t).map h).map kY) ls<|pA h ((bW p).take t) (jU<|((bW p).take t).map h),.val (.int<|t),.val (cB<|(bW p).getD t [])],jK (js:=[3,4]) rfl (dI (pgn 3)<|dI (pgn 4) jA) rfl rfl,?_⟩;have pred:∀k',k'∈jU (((bW p).take t).map h)↔k'∈((bW p).take t).map h:=λk'=>aDf
  have ndk:=xN<|((bW p).take t).map h;have es:jU (((bW p).take<|t+1).map h)=pX (jU<|((bW p).take t).map h) (h<|(bW p).getD t []):=by rw[et,aX];exact aGE _ _
  have kl:(jU<|((bW p).take t).map h).length<=64:=by refine cJ (aIu _) ?_;rw[aC];exact tl
  refine aR<|aAu 2 hu rfl (pv 2) (PEd.cast (nI (PEd.bor<|pdv 1) (pdv 3) ew λ_ _=>rfl)<|by rw[aRX]) (λz=>(pdv 4)) (by unfold pA;rw[aC];lia) (λds hds=>?_) (λn ds hk2 hd2=>?_) λhk2 a=>?_
  ·obtain⟨k',_,rfl⟩:=aS.mp hds;rw[aC];exact cJ (iS _ _)<|by lia
  ·rw[bE] at hk2;obtain⟨k',q1,q2⟩:=eV.mp hk2;have q3:=aKd q2;subst q3;refine⟨[.val<|cP p,.val (tL<|(bW p).map h),odG P w K l ((jU<|((bW p).take<|t+1).map h).map kY) ls<|pA h ((bW p).take<|t+1) (jU<|((bW p).take<|t+1).map h),.un,.un],⟨ja,ja,.inr ?_,jb,jb,trivial⟩,ls,rfl⟩;show odG P w K l _ ls _=_;rw[es,show pX (jU<|((bW p).take t).map h) (h<|(bW p).getD t [])=jU (((bW p).take t).map h) from zt (bC q1),et,<-aLD ndk q1 hd2]
  ·have nm:=λhm=>hk2 (aS.mpr ⟨_,hm,rfl⟩)
   refine⟨[.val<|cP p,.val (tL<|(bW p).map h),odG P w K l ((jU<|((bW p).take<|t+1).map h).map kY) (ls++[a])<|pA h ((bW p).take<|t+1) (jU<|((bW p).take<|t+1).map h),.un,.un],⟨ja,ja,.inr ?_,jb,jb,trivial⟩,ls++[a],rfl⟩;show odG P w K l _ (ls++[a]) _=_;rw[es,show pX (jU<|((bW p).take t).map h) (h<|(bW p).getD t [])=jU (((bW p).take t).map h)++[h<|(bW p).getD t []] from zr nm,et,aX,<-aMD nm λg hg=>(pred _).mpr<|aS.mpr ⟨g,hg,rfl⟩];rfl
 ·obtain⟨ls,rfl⟩:=hn;rw[jR,aC,fQ];exact aR<|aIJ 2 rfl (pv 2) (λv F H g=>⟨l,ls,rfl,g⟩) rfl
abbrev nl8:List Str:=["size","stock","row","place","many","looked","boxes","ahead","alike","words","every"]
abbrev nl9:List Str:=["size","stock","row","place","many","looked"]
abbrev nl10:List Str:=["number","filling","alike","words","ahead"]
theorem aIC(F:FID K mg "wish_at" aQM)(zj:mg "list"=none)(zc:mg "enumerate"=none)(GI:bF P w K mg base "is_window" 1 3 aQS)(GB:bF P w K mg base "boxes_looked_at" 1 2 aEI)(GT:bF P w K mg base "table_of" 5 3 aEt)(GW:bF P w K mg base "words_told" 2 2 aKo)(GG:bF P w K mg base "fillings_by_words" 3 2 (aRZ P w K))(GF:bF P w K mg base "fillings" 2 1 vN):CalleeE [.none] P w K mg base "wish_at" 6 6 aQn:=by
 obtain⟨f,fd,hm,F⟩:=F;have nd:nl8.Nodup:=by decide+kernel
 refine qM (N:=nl8) (ps:=nl9) (k:=5) F ⟨rfl,rfl,rfl,nd,rfl,by decide+kernel,by decide+kernel⟩ hm (λs T o nn _ _ _ _ _ _ us hT hS hl=>match us,hl with | [_,_,_,_,_,_],_=>BindsTo.of_defaults rfl hT hS rfl rfl) (λs T o nn _ _ _ _ _ _ us hT hS hl=>match us,hl with | [_,_,_,_,_],_=>BindsTo.of_defaults rfl hT hS rfl rfl) λcdv A outer s H E hr ds r hl c=>?_
 obtain⟨p,L,row,pl,mn,o,hp,S,hrow,rl,w1,w2,hlk,rfl,rfl⟩:=c;have f9:(bW p).length<=64:=lR hp;have hu:=uN hr 4;obtain⟨lb,hb⟩:=aOD hp hlk;have r1:∀t∈row.take pl,t<L.length:=λt ht=>hrow t<|dA ht
 have r2:∀t∈row.drop (pl+mn),t<L.length:=λt ht=>hrow t<|dR ht
 have r3:∀t∈row.drop pl,t<L.length:=λt ht=>hrow t<|dR ht
 refine yD (wQ (k:=true) (oV<|pdc (ds:=[tN row,.int (pl:Int),.int (mn:Int)]) (r:=.val<|.bl true) GI hr (aA (pdv 2) (aA (pdv 3)<|aA (pdv 4) aE)) ⟨row,pl,mn,w1,w2,rfl,rfl⟩)) ?_;refine aG<|rE (ds:=bA<|bxQ p.2.toNat o) 6 (pdc (ds:=[cP p,lkD o]) GB hr (aA (pdv 0)<|aA (pdv 5) aE) ⟨p,o,hp,rfl,rfl⟩) λl6=>iC 6 rfl ?_;generalize bxQ p.2.toNat o=bs at lb hb;refine aG<|gG (d:=.tup<|(tabQ p L<|row.take pl).map cB) 7 (pdc (ds:=[cP p,lK L,tN<|row.take pl]) GT hr (aA (pdv 0) (aA (pdv 1)<|aA (PEd.cast (uH (k:=pl) (pdv 2)<|pdv 3)<|by rw[aGu]) aE)) ⟨p,L,_,hp,S,r1,rfl,rfl⟩) ?_;obtain⟨h,hh⟩:∃h,h=(λg=>wdQ bs<|fH p L (row.drop<|pl+mn) g):=⟨_,rfl⟩
 have e1:(tabQ p L (row.drop<|pl+mn)).map (wdQ bs)=(bW p).map h:=by rw[hh];unfold tabQ;rw[aY];rfl
 refine aG<|aGy (ks:=(jU<|(bW p).map h).map kY) (dss:=pA h (bW p) (jU<|(bW p).map h)) 8 nd rfl (Or.inr rfl) (pdc (ds:=[cP p,tL<|(bW p).map h]) GG hr (aA (pdv 0)<|aA (PEd.cast (PEd.val<|pdc (ds:=[.lst<|bA bs,.tup<|(tabQ p L (row.drop<|pl+mn)).map cB]) GW hr (aA (pdv 6)<|aA (pdc (ds:=[cP p,lK L,tN (row.drop<|pl+mn)]) GT hr (aA (pdv 0) (aA (pdv 1)<|aA (PEd.cast (qD (k:=pl+mn) (pdv 2) (PEd.ic (fO fW (pdv 3)<|pdv 4)<|by push_cast;rfl))<|by rw[aAr]) aE)) ⟨p,L,_,hp,S,r2,rfl,rfl⟩) aE) ⟨p,bs,_,hp,lb,hb,aKm hp S r2,rfl,rfl⟩)<|by rw[e1]) aE) ⟨p,h,hp,rfl,rfl⟩) ?_;refine aG<|rE (ds:=((tabQ p L<|row.drop pl).map<|wdQ bs).map cB) 9 (pdc (ds:=[.lst<|bA bs,.tup<|(tabQ p L<|row.drop pl).map cB]) GW hr (aA (pdv 6)<|aA (pdc (ds:=[cP p,lK L,tN<|row.drop pl]) GT hr (aA (pdv 0) (aA (pdv 1)<|aA (PEd.cast (qD (k:=pl) (pdv 2)<|pdv 3)<|by rw[aAr]) aE)) ⟨p,L,_,hp,S,r3,rfl,rfl⟩) aE) ⟨p,bs,_,hp,lb,hb,aKm hp S r3,rfl,rfl⟩) λl9=>iC 9 rfl ?_;refine aG<|rE (ds:=(bW p).map cB) 10 (pdc (ds:=[cP p]) GF hr (aA (pdv 0) aE) ⟨p,hp,rfl,rfl⟩) λl10=>iC 10 rfl ?_
 have ec:((mV<|(bW p).map cB).filter λ_=>true).map (enF λg=>wsD<|wnQ p L row pl mn bs g)=(waQ p L row pl mn bs).map wsD:=by rw[cR.mpr λ_ _=>rfl,aLU p λg=>wsD<|wnQ p L row pl mn bs g];unfold waQ;rw[aY];rfl
 have sh:∀d∈mV ((bW p).map cB),∃t:Nat,t<(bW p).length/\d=.tup [.int (t:Int),cB<|(bW p).getD t []]:=λd hd=>by obtain⟨t,ht⟩:=eL hd;obtain⟨x,q1,q2⟩:=kO ht;obtain⟨q3,rfl⟩:=oF q1;exact⟨t,q3,q2⟩
 refine aR<|eE (PEd.cast (lS (ds:=mV<|(bW p).map cB) (N:=nl10) (M:=nl8) (cap:=[none,none,some 8,some 9,some 7]) (sc:=aN aQM) (Tb:=λd=>match d with | .tup [a,b]=>[.val a,.val b,odF P w K ((jU<|(bW p).map h).map kY)<|(pA h (bW p) (jU<|(bW p).map h)).map D.lst,.val<|tL ((tabQ p L<|row.drop pl).map<|wdQ bs),.val (.tup<|(tabQ p L<|row.take pl).map cB)] | _=>[.un,.un,.un,.un,.un]) (λ_=>true) (enF λg=>wsD<|wnQ p L row pl mn bs g) (oH rfl zc<|pdv 10) (by rw[jR,aC];lia) rfl (by decide+kernel) rfl (by decide+kernel) rfl (λcl C fp s H d hd=>?_) (λd hd=>?_) (λcl C fp s H d hd=>.inl ⟨rfl,rfl⟩) λcl C fp s H d hd _=>?_)<|by rw[ec]) trivial rfl
 ·obtain⟨t,ht,rfl⟩:=sh d hd;exact jK (js:=[0,1]) rfl (dI (tI (i:=0) (show nl10.Nodup by decide+kernel) rfl<|Or.inl rfl)<|dI (tI (i:=1) (show nl10.Nodup by decide+kernel) rfl<|Or.inl rfl) jA) rfl rfl
 ·obtain⟨t,ht,rfl⟩:=sh d hd;exact⟨jb,jb,ja,ja,ja,trivial⟩
 ·obtain⟨t,ht,rfl⟩:=sh d hd;have G:Fil p ((bW p).getD t []):=kC hp (getD_mem (d:=[]) ht)
  have ew:(((tabQ p L<|row.drop pl).map<|wdQ bs).map cB)[t]? =some (cB<|wdQ bs (fH p L (row.drop pl)<|(bW p).getD t [])):=by unfold tabQ;rw[bE,bE,bE];show(((bW p)[t]?.map _).map _).map _=_;simp[bV,ht]
  show PEd _ _ _ (.val<|wsD (wnQ p L row pl mn bs<|lM (cB<|(bW p).getD t [])));rw[iZ];generalize (bW p).getD t []=u at G ew;have dT:=uY (tabQ p L<|row.take pl);refine aEC (k:=decide<|u∈tabQ p L (row.take pl)) (PTd.cast (aIP (pdv 1) (pdv 4) (sP _) (xB _)<|by show(A.deeper _).units+1+_<AR;lia)<|by rw[aCj]) (λq=>?_) λq=>?_
  ·have hm2:=of_decide_eq_true q;have e3:wnQ p L row pl mn bs u=some (vU h (bW p) (wdQ bs<|fH p L (row.drop pl) u)):=by rw[hh];exact zt hm2
   rw[e3];have Gm:=kB S ((row.drop pl).take mn) u (λt ht=>r3 t<|dA ht) G
   have mk:wdQ bs (fH p L (row.drop pl) u)∈jU ((bW p).map h):=by rw[aDf,hh];refine aS.mpr ⟨fH p L ((row.drop pl).take mn) u,tM Gm.len Gm.wd,?_⟩;show wdQ bs _=_;rw[<-nY,<-rQ]
   obtain⟨n,hn⟩:=eL mk;exact PEd.val<|yM rfl zj (PEd.bor<|aJn 2 (k:=kY (wdQ bs<|fH p L (row.drop pl) u)) (n:=n) (d:=tL<|vU h (bW p) (wdQ bs<|fH p L (row.drop pl) u)) (by show(A.deeper _).units+1<AR;lia) rfl (pv 2) (PEd.cast (nI (n:=t) (d:=cB (wdQ bs<|fH p L (row.drop pl) u)) (PEd.bor<|pdv 3) (pdv 0) ew λ_ _=>rfl)<|by rw[aRX]) (aIk<|xN _) (by rw[bE,hn];rfl) (by unfold pA;rw[bE,bE,hn];rfl) λ_ _=>rfl)
  ·rw[show wnQ p L row pl mn bs u=none from zr (of_decide_eq_false q)];exact fD
abbrev aQE:List Str:=["size","wish","table"]
theorem aGI(F:FI K mg "misses_at" aOF)(zc:mg "enumerate"=none)(GF:bF P w K mg base "fillings" 2 1 vN):bF P w K mg base "misses_at" 3 3 aOh:=by
 refine cY (N:=["size","wish","table","number","filling"]) (ps:=aQE) F λf nd cdv A outer s H E hr ds r hl c=>?_
 obtain⟨p,w,T,hp,W,OT,rfl,rfl⟩:=c;have hu:=uN hr 4;refine aG<|iF (λk sd=>(∀j,j<k->aNH w T j=false)/\sd=[.val<|cP p,.val (.lst<|w.map wsD),.val (.tup<|T.map cB),.un,.un]) (oH rfl zc (PEd.val<|pdc GF hr (aA (pdv 0) aE) ⟨p,hp,rfl,rfl⟩)) ⟨_,Le.refl _,λj hj=>by lia,rfl⟩ (λk d sdk hd hk=>?_) λsdn hn=>?_
 ·obtain⟨x,hx,rfl⟩:=kO hd;obtain⟨hk2,rfl⟩:=oF hx;obtain⟨hn,rfl⟩:=hk;have kT:k<T.length:=by rw[OT.len];exact hk2
  have kW:k<w.length:=by rw[W.len];exact hk2
  refine⟨[.val<|cP p,.val (.lst<|w.map wsD),.val (.tup<|T.map cB),.val (.int<|k),.val (cB<|(bW p).getD k [])],jK (js:=[3,4]) rfl (dI (pgn 3)<|dI (pgn 4) jA) rfl rfl,?_⟩;refine aR<|fX (k:=aNH w T k) ?_ (λh=>?_) λh=>eA ?_
  ·have ka:=aRn kW;unfold aNH;cases hq:w.getD k none with
   |none=>rw[hq] at ka;exact PWd.pt<|qS (j:=false) (iX (nI (PEd.bor<|pdv 1) (pdv 3) ka λ_ _=>rfl) fD) λh=>by cases h
   |some L=>rw[hq] at ka;exact PWd.pt<|qS (j:= !decide (T.getD k []∈L)) (iX (nI (PEd.bor<|pdv 1) (pdv 3) ka λ_ _=>rfl) fD) λ_=>sL (PTd.cast (aCN (rZ (pdv 2) (pdv 3) (aFe kT) λ_ _=>rfl) (nI (PEd.bor<|pdv 1) (pdv 3) ka λ_ _=>rfl) (sP _) (xB L)<|by have:=uY L;show(A.deeper _).units+1+_<AR;lia)<|by rw[aCj])
  ·refine aR<|eE (pdv 4) trivial ?_;rw[show zC w (bW p) T=some ((bW p).getD k []) from aDN hk2 h hn];rfl
  ·refine⟨[.val<|cP p,.val (.lst<|w.map wsD),.val (.tup<|T.map cB),.un,.un],⟨ja,ja,ja,jb,jb,trivial⟩,λj hj=>?_,rfl⟩
   by_cases q:j<k
   ·exact hn j q
   ·have:j=k:=by lia
    subst this;exact h
 ·obtain⟨hn,rfl⟩:=hn;rw[jR,aC] at hn;refine aR<|eE fD trivial ?_;rw[show zC w (bW p) T=none from xS hn];rfl
def aLF(F:FI K mg "does_wish" aOk)(GM:bF P w K mg base "misses_at" 3 3 aOh):bF P w K mg base "does_wish" 4 3 aOf:=by
 refine cY (N:=aQE) (ps:=aQE) F λf nd cdv A outer s H E hr ds r hl c=>?_
 obtain⟨p,w,T,hp,W,OT,rfl,rfl⟩:=c;exact aR<|eE (PEd.cast (vI (pdc GM hr (aA (pdv 0) (aA (pdv 1)<|aA (pdv 2) aE)) ⟨p,w,T,hp,W,OT,rfl,rfl⟩) fD)<|by rw[aMa]) trivial rfl
def aLL(F:FI K mg "first_that_does" sFt)(GD:bF P w K mg base "does_wish" 4 3 aOf):bF P w K mg base "first_that_does" 5 3 aHI:=by
 refine cY (N:=["size","book","wish","entry"]) (ps:=["size","book","wish"]) F λf nd cdv A outer s H E hr ds r hl c=>?_
 obtain⟨p,L,b,B,w,hp,S,O,W,rfl,rfl⟩:=c;refine aG<|iF (λt sd=>ftQ p w B=ftQ p w (B.drop t)/\sd=[.val<|cP p,.val (.lst<|B.map enD),.val (.lst<|w.map wsD),.un]) (iV<|pdv 1) ⟨_,Le.refl _,rfl,rfl⟩ (λt d sdt hd ht=>?_) λsdn hn=>?_
 ·obtain⟨q,rfl⟩:=ht;obtain⟨e,he,rfl,_⟩:=xJ hd;obtain⟨tl,ee⟩:=aF.mp he;obtain⟨x1,x2,x3,x4,x5⟩:=O.ent e<|bC he;have tk:tF p e.2.2:=by rw[x4];exact aMP hp S x1
  rw[dG tl,ee] at q;refine⟨[.val<|cP p,.val (.lst<|B.map enD),.val (.lst<|w.map wsD),.val<|enD e],pgN 3,?_⟩;refine aR<|fX (k:=doQ p w e.2.2) (oV<|pdc GD hr (aA (pdv 0) (aA (pdv 2)<|aA (pdx<|pdv 3) aE)) ⟨p,w,e.2.2,hp,W,tk,rfl,rfl⟩) (λh=>?_) λh=>eA ?_
  ·have e3:ftQ p w B=some e:=by rw[q];exact List.find?_cons_of_pos h
   rw[e3];exact aR (iU<|pdv 3)
  ·refine⟨[.val<|cP p,.val (.lst<|B.map enD),.val (.lst<|w.map wsD),.un],⟨ja,ja,ja,jb,trivial⟩,?_,rfl⟩;rw[q];exact List.find?_cons_of_neg (by rw[h];decide)
 ·obtain⟨q,rfl⟩:=hn;rw[aC,aNv] at q;rw[q];exact aR<|iU fD
theorem aIp(F:FI K mg "price_of" aEw)(zq:mg "sum"=none):bF P w K mg base "price_of" 1 2 xQ:=by
 refine cY (N:=["stock","row"]) (ps:=["stock","row"]) F λf nd cdv A outer s H E hr ds r hl c=>?_
 obtain⟨L,row,hrow,hl2,rfl,rfl⟩:=c;have nd2:nl4.Nodup:=by decide+kernel
 have ec:((bA row).filter λ_=>true).map (λd=>match d with | .int t=>D.int (L.getD t.toNat AS).2|_=>.non)=(vS L row).map D.int:=by
  rw[cR.mpr λ_ _=>rfl];unfold bA vS;rw[aY,aY];refine cH λt _=>?_
  simp
 refine aR (iU<|aNt rfl zq (PEd.bor<|PEd.val (PEd.cast (pdC (M:=["stock","row"]) (cap:=[none,some 0]) (sc:=aN aEw) (λ_=>true) (λd=>match d with | .int t=>D.int (L.getD t.toNat AS).2|_=>.non) (mR<|pdv 1) (by rw[show(bA row).length=row.length from aC _];lia) (λcl C fp s H d hd=>.inl ⟨rfl,rfl⟩) λcl C fp s H d hd _=>?_)<|by rw[ec])));obtain⟨t,ht,rfl⟩:=aS.mp hd;have hn:=hrow t ht;exact pdx<|nI (PEd.bor<|pdv 1) (pdv 0) (aEs hn) λ_ _=>rfl
theorem aDx(F:FI K mg "steps_at" aDj):bF P w K mg base "steps_at" 1 3 pV:=by
 refine cY (N:=nl7) (ps:=nl7) F λf nd cdv A outer s H E hr ds r hl c=>?_
 obtain⟨row,i,m,rfl,rfl⟩:=c;refine aR<|eE (aMH (j:=i+m) (pdv 0) (pdv 1) (PEd.ic (fO fW (pdv 1)<|pdv 2)<|by lia)) trivial ?_;unfold bA;rw[Nat.add_sub_cancel_left,fR,gZ]
abbrev aHx:List Str:=["self","bound"]
def aPY(F:Fun K "book_up_to" "Shelf.book_up_to" aNJ f fd)(T:pE K mg C)(GB:bF P w K mg base "book_of" 6 3 aLk)(p:Int×Int)(L:List SK):FnOk P w K mg base CX0 7 f fd aHx (aNB (shZ K C p L) 2<|aRW p L):=by
 refine aES (N:=aHx) F ⟨rfl,rfl,rfl,by decide+kernel,rfl,by decide+kernel,by decide+kernel⟩ (λcdv A outer s H E B hB hr a ds d hl c=>?_) qA
 ·obtain⟨b,I,rfl,rfl⟩:=c;have hu:=uN hr 1;refine aAl 0 rfl λks ds J=>?_
  by_cases hk:(Sum.inl (b:Int))∈ks
  ·obtain⟨n,h1,h2⟩:=J.at_ hk;refine aG (fX (pR 0 hu rfl (pv 0) T.cl T.nM (pdv 1) false λxs lx=>?_) (λh=>by cases h) λ_=>?_)
   ·obtain⟨x,hx⟩:∃x,xs[n]? =some x:=⟨_,fC<|by rw[<-lx];exact(aF.mp h1).1⟩;rw[aBv J.1 h1 hx];rfl
   ·exact eA (aR<|aCK 0 rfl J (yI 0 hu rfl (pv 0) T.cl T.nM (pdv 1) J.1 h1 h2 λ_ _=>rfl) rfl)
  ·have J2:=J.put I.le I.fit hk;obtain⟨n,h1,h2⟩:=J2.at_ (aJ _<|cG _);refine aG (fX (pR 0 hu rfl (pv 0) T.cl T.nM (pdv 1) true λxs lx=>?_) (λ_=>?_) λh=>by cases h)
   ·rw[qV hk λ_ z=>z];rfl
   ·exact aR<|aBI 0 hu rfl (pv 0) T.cl T.nM (PEd.val<|pdc GB hr (aA (wX 0 rfl (pv 0) T.cl T.nZ rfl) (aA (wX 0 rfl (pv 0) T.cl T.nS rfl)<|aA (pdv 1) aE)) ⟨p,L,(b),I.hp,I.st,I.nd,I.fit,rfl,rfl⟩) (pdv 1) hk J.len (aR<|aCK 0 rfl J2 (yI 0 hu rfl (pv 0) T.cl T.nM (pdv 1) J2.1 h1 h2 λ_ _=>rfl) rfl)
theorem aMX(F:Fun K "book_up_to" "Shelf.book_up_to" aNJ f fd)(T:pE K mg C)(GB:fS P w K mg base "book_of" 6 3 aBo (.ref CN) [] [])(p:Int×Int)(L:List SK):FnOk P w K mg base (CX1 P w<|.ref CN) 7 f fd aHx (aNG (shZ K C p L) 2<|aSy p L):=by
 refine aHE (N:=aHx) F ⟨rfl,rfl,rfl,by decide+kernel,rfl,by decide+kernel,by decide+kernel⟩ (λcdv A outer s H E B hB hr hE a ds hl c=>?_) qA;obtain⟨b,I,rfl⟩:=c;have hu:=uN hr 1;refine aAl 0 rfl λks ds J=>?_
 have hk:(Sum.inl (b:Int))∉ks:=λhk=>by
  obtain⟨n,hn⟩:=eL hk;obtain⟨b',_,e,q,ft⟩:=J.2.2 n _ hn;have:b=b':=by have:=Sum.inl.inj e;lia
  subst this;have:=ft.le;have:=I.gr.2;lia
 refine aG<|fX (pR 0 hu rfl (pv 0) T.cl T.nM (pdv 1) true λxs lx=>?_) (λ_=>?_) λh=>by cases h
 ·rw[qV hk λ_ z=>z];rfl
 ·exact aR<|aJc (aFd (ds:=[cP p,lK L,.int<|b]) GB rfl hr rfl (aA (wX 0 rfl (pv 0) T.cl T.nZ rfl) (aA (wX 0 rfl (pv 0) T.cl T.nS rfl)<|aA (pdv 1) aE)) (λ_=>RepL.nil) ⟨p,L,(b),I.hp,I.st,I.nd,I.gr,rfl⟩ rfl<|oX hE)
abbrev nl13:List Str:=["shelf","row","place","many","looked","wish","price","found"]
abbrev aRS:List Str:=["shelf","row","place","many","looked"]
theorem aDF(F:Fun K "piece_from" "piece_from" aBW f fd)(shT:pE K mg CS)(hm:mg "piece_from"=some (.ref f))(mB:aND K CS "book_up_to" fB)(bB:Binds K fdB aHx [])(GB:∀ (p:Int×Int) (L:List SK),FnOk P w K mg base CX0 7 fB fdB aHx (aNB (shZ K CS p L) 2<|aRW p L))(GW:CalleeE [.none] P w K mg base "wish_at" 6 6 aQn)(GS:bF P w K mg base "steps_at" 1 3 pV)(GP:bF P w K mg base "price_of" 1 2 xQ)(GF:bF P w K mg base "first_that_does" 5 3 aHI)(p:Int×Int)(L:List SK):jL P w K (shZ K CS p L) mg base "piece_from" 8 5 (CPf p L):=by
 have nd:nl13.Nodup:=by decide+kernel
 refine⟨f,fd,aRS,hm,F.kp,F.binds (λ_ _ _ _ _ _ us hl=>match us,hl with | [_,_,_,_,_],_=>rfl),aES F ⟨rfl,rfl,rfl,nd,rfl,by decide+kernel,by decide+kernel⟩ (λcdv A outer s H E B hB hr a ds d hl c=>?_) qA⟩;obtain⟨row,pl,mn,o,I,rfl,rfl⟩:=c;obtain⟨b,eb,Ib⟩:=I.bk;have W:=aRy Ib.hp Ib.st I.rw pl mn<|bxQ p.2.toNat o;have O:=aEU Ib.hp Ib.st Ib.fit;have rw1:∀t∈(row.drop pl).take mn,t<L.length:=λt ht=>I.rw t (dR<|dA ht)
 have rl1:((row.drop pl).take mn).length<=500:=by have:=I.rl;rw[cE,dY];lia
 unfold pcQ;rw[eb];have es:vC (vS L<|(row.drop pl).take mn)=(b)+1:=by lia
 refine aG<|rE 5 (pdc GW.full hr (aA (mZ 0 rfl (pv 0) shT.cl shT.nZ rfl)<|aA (mZ 0 rfl (pv 0) shT.cl shT.nS rfl) (aA (pdv 1)<|aA (pdv 2) (aA (pdv 3)<|aA (pdv 4) aE))) ⟨p,L,row,pl,mn,o,Ib.hp,Ib.st,I.rw,I.rl,I.m1,I.le,I.lk,rfl,rfl⟩) λl5=>iC 5 rfl ?_;generalize waQ p L row pl mn (bxQ p.2.toNat o)=wi at W;refine aG<|gG 6 (PEd.ic (pdc GP hr (aA (mZ 0 rfl (pv 0) shT.cl shT.nS rfl)<|aA (pdc GS hr (aA (pdv 1) (aA (pdv 2)<|aA (pdv 3) aE)) ⟨row,pl,mn,rfl,rfl⟩) aE) ⟨L,_,rw1,rl1,rfl,rfl⟩) es) ?_;refine aG<|gG 7 (pdc GF hr (aA (mZ 0 rfl (pv 0) shT.cl shT.nZ rfl) (aA (aIO (ds:=[.int<|b]) 0 rfl (pv 0) aFD shT.cl mB (GB p L) hr bB (aA (PEd.ic (fO qB (pdv 6) bS)<|by lia) aE) ⟨b,Ib,rfl,rfl⟩ rfl)<|aA (pdv 5) aE)) ⟨p,L,(b),bkQ p L<|b,wi,Ib.hp,Ib.st,O,W,rfl,rfl⟩) ?_;cases hq:ftQ p wi (bkQ p L<|b) with
 |none=>exact aR<|tJ 0 rfl (aEC (PTd.cast (wO (pdv 7) fD) rfl) (λ_=>fD) λh=>by cases h) rfl
 |some e=>exact aR<|tJ 0 rfl (aEC (PTd.cast (wO (pdv 7) fD) rfl) (λh=>by cases h) λ_=>pdx<|pdv 7) rfl
theorem aHe(F:Fun K "piece_from" "piece_from" aBW f fd)(shT:pE K mg CS)(hm:mg "piece_from"=some (.ref f))(mB:aND K CS "book_up_to" fB)(bB:Binds K fdB aHx [])(GB:∀ (p:Int×Int) (L:List SK),FnOk P w K mg base (CX1 P w<|.ref CN) 7 fB fdB aHx (aNG (shZ K CS p L) 2<|aSy p L))(GW:CalleeE [.none] P w K mg base "wish_at" 6 6 aQn)(GS:bF P w K mg base "steps_at" 1 3 pV)(GP:bF P w K mg base "price_of" 1 2 xQ)(GF:bF P w K mg base "first_that_does" 5 3 aHI)(p:Int×Int)(L:List SK):gM P w K (shZ K CS p L) mg base "piece_from" 8 5 (XPf p L) (.ref CN):=by
 have nd:nl13.Nodup:=by decide+kernel
 refine⟨f,fd,aRS,hm,F.kp,F.binds (λ_ _ _ _ _ _ us hl=>match us,hl with | [_,_,_,_,_],_=>rfl),aHE F ⟨rfl,rfl,rfl,nd,rfl,by decide+kernel,by decide+kernel⟩ (λcdv A outer s H E B hB hr hE a ds hl c=>?_) qA⟩;obtain⟨row,pl,mn,o,I,rfl⟩:=c;obtain⟨b,eb,Ib⟩:=I.bk;have rw1:∀t∈(row.drop pl).take mn,t<L.length:=λt ht=>I.rw t (dR<|dA ht)
 have rl1:((row.drop pl).take mn).length<=500:=by have:=I.rl;rw[cE,dY];lia
 have es:vC (vS L<|(row.drop pl).take mn)=(b)+1:=by lia
 obtain⟨fF,_,_,mF,kF,_⟩:=GF.ex;refine aG<|rE 5 (pdc GW.full hr (aA (mZ 0 rfl (pv 0) shT.cl shT.nZ rfl)<|aA (mZ 0 rfl (pv 0) shT.cl shT.nS rfl) (aA (pdv 1)<|aA (pdv 2) (aA (pdv 3)<|aA (pdv 4) aE))) ⟨p,L,row,pl,mn,o,Ib.hp,Ib.st,I.rw,I.rl,I.m1,I.le,I.lk,rfl,rfl⟩) λl5=>iC 5 rfl ?_;generalize waQ p L row pl mn (bxQ p.2.toNat o)=wi;refine aG<|gG 6 (PEd.ic (pdc GP hr (aA (mZ 0 rfl (pv 0) shT.cl shT.nS rfl)<|aA (pdc GS hr (aA (pdv 1) (aA (pdv 2)<|aA (pdv 3) aE)) ⟨row,pl,mn,rfl,rfl⟩) aE) ⟨L,_,rw1,rl1,rfl,rfl⟩) es) ?_;exact aG (oA 7 nd rfl jb<|aMW rfl mF kF (mZ 0 rfl (pv 0) shT.cl shT.nZ rfl) (aGG 0 rfl (pv 0) aFD shT.cl mB (GB p L) hr bB (aA (PEd.ic (fO qB (pdv 6) bS)<|by lia) aE) ⟨b,Ib,rfl⟩ rfl<|oX hE))
def aDJ(F:FI K mg "piece_from" aBW)(shT:pE K mg CS)(mB:aND K CS "book_up_to" fB)(shB:Fun K "book_up_to" "Shelf.book_up_to" aNJ fB fdB)(GO:bF P w K mg base "book_of" 6 3 aLk/\fS P w K mg base "book_of" 6 3 aBo (.ref CN) [] [])(GW:CalleeE [.none] P w K mg base "wish_at" 6 6 aQn)(GS:bF P w K mg base "steps_at" 1 3 pV)(GP:bF P w K mg base "price_of" 1 2 xQ)(GF:bF P w K mg base "first_that_does" 5 3 aHI):∀ (p:Int×Int) (L:List SK),jL P w K (shZ K CS p L) mg base "piece_from" 8 5 (CPf p L)/\gM P w K (shZ K CS p L) mg base "piece_from" 8 5 (XPf p L) (.ref CN):=by
 obtain⟨f,fd,hm,F⟩:=F;intro p L;have bB:=shB.binds (ps:=aHx) λ_ _ _ _ _ _ us hl=>match us,hl with | [_,_],_=>rfl
 exact⟨aDF F shT hm mB bB (aPY shB shT GO.1) GW GS GP GF p L,aHe F shT hm mB bB (aMX shB shT GO.2) GW GS GP GF p L⟩
abbrev aNI:List Str:=["self","size","stock"]
theorem oE(F:Fun K "__init__" "Shelf.__init__" aKQ f fd)(T:pE K mg C):FnOk P w K mg base CX0 1 f fd aNI (xG C):=by
 refine F.ok (N:=aNI) ⟨rfl,rfl,rfl,by decide+kernel,rfl,by decide+kernel,by decide+kernel⟩ (λvs H Q E h=>?_) λcdv A outer s H vs Q E hr h=>?_
 ·obtain⟨x,dx,v1,v2,rfl,_⟩:=h;rfl
 ·obtain⟨x,dx,v1,v2,rfl,hx,k⟩:=h;refine⟨_,yO (aEB (pv 0) (pv 1) rfl)<|yO (aEB (pv 0) (pv 2) rfl) (aFK<|aEB (pv 0) aIS rfl),?_⟩;refine⟨_,rfl,_,rfl,x,C,dx,[],rfl,hx,T.cl,T.nZ,(by decide),?_⟩;refine⟨_,rfl,_,rfl,x,C,dx,_,rfl,bH,T.cl,T.nS,(by show 1<1000;decide),?_⟩;intro m hm
  have nxm:x≠m:=λz=>by subst z;rw[bH] at hm;cases hm
  refine⟨_,rfl,x,C,dx,_,rfl,(by rw[aW nxm,bH]),T.cl,T.nM,(by have:=mW "stock" v2<|oZ "size" v1 [];have:=mW "size" v1 [];simp at this;lia),?_⟩;rw[aW nxm.symm,aW nxm.symm] at hm;have q:=k m hm;rw[aJo];exact q
def aGB{fdI:AN}(F:aKO #[.none] K "piece_for" "piece_for" aLi f fd)(shT:pE K mg CS)(shM:Mk K CS fI)(bI:Binds K fdI aNI [])(GI:FnOk P w K mg base CX0 1 fI fdI aNI (xG CS))(hm:mg "piece_for"=some (.ref f))(GP:∀ (p:Int×Int) (L:List SK),jL P w K (shZ K CS p L) mg base "piece_from" 8 5 (CPf p L)/\gM P w K (shZ K CS p L) mg base "piece_from" 8 5 (XPf p L) (.ref CN)):CalleeE [.none] P w K mg base "piece_for" 9 6 aLm/\fS P w K mg base "piece_for" 9 6 aLh (.ref CN) [] []:=by
 have nd:nl9.Nodup:=by decide+kernel
 constructor
 ·refine qM (ps:=nl9) F ⟨rfl,rfl,rfl,nd,rfl,by decide+kernel,by decide+kernel⟩ hm (λs T o nn _ _ _ _ _ _ us hT hS hl=>match us,hl with | [_,_,_,_,_,_],_=>BindsTo.of_defaults rfl hT hS rfl rfl) (λs T o nn _ _ _ _ _ _ us hT hS hl=>match us,hl with | [_,_,_,_,_],_=>BindsTo.of_defaults rfl hT hS rfl rfl) λcdv A outer s H E hr ds r hl c=>?_
  obtain⟨p,L,row,pl,mn,o,I,rfl,rfl⟩:=c;exact aR (iU<|aAA [2,3,4,5] (oB JSh.nil shT shM GI bI (hr.mono<|by decide) rfl (aA (pdv 0)<|aA (pdv 1) aE)) (GP p L).1 hr rfl (cO (pv 2)<|cO (pv 3) (cO (pv 4)<|cO (pv 5) pa_nil)) rfl (λa=>⟨row,pl,mn,o,I,rfl,rfl⟩) rfl)
 ·refine yT (ps:=nl9) F ⟨rfl,rfl,rfl,nd,rfl,by decide+kernel,by decide+kernel⟩ hm (λs T o nn _ _ _ _ _ _ us hT hS hl=>match us,hl with | [_,_,_,_,_,_],_=>BindsTo.of_defaults rfl hT hS rfl rfl) λcdv A outer s H E hr hE ds hl c=>?_
  obtain⟨p,L,row,pl,mn,o,I,rfl⟩:=c;exact aR<|yY (vE [2,3,4,5] (oB JSh.nil shT shM GI bI (hr.mono<|by decide) rfl (aA (pdv 0)<|aA (pdv 1) aE)) (GP p L).2 hr rfl (cO (pv 2)<|cO (pv 3) (cO (pv 4)<|cO (pv 5) pa_nil)) rfl (λa=>⟨row,pl,mn,o,I,rfl⟩) rfl<|qN hE)
def aFW{fdI:AN}(F:FID K mg "piece_for" aLi)(shT:pE K mg CS)(shM:Mk K CS fI)(shF:Fun K "__init__" "Shelf.__init__" aKQ fI fdI)(GP:∀ (p:Int×Int) (L:List SK),jL P w K (shZ K CS p L) mg base "piece_from" 8 5 (CPf p L)/\gM P w K (shZ K CS p L) mg base "piece_from" 8 5 (XPf p L) (.ref CN)):CalleeE [.none] P w K mg base "piece_for" 9 6 aLm/\fS P w K mg base "piece_for" 9 6 aLh (.ref CN) [] []:=by obtain⟨f,fd,hm,F⟩:=F;exact aGB F shT shM (shF.binds λ_ _ _ _ _ _ us hl=>match us,hl with | [_,_,_],_=>rfl) (oE shF shT) hm GP
theorem aGs(F:FI K mg "with_change" aFI):bF P w K mg base "with_change" 1 2 tG:=by
 refine cY (N:=["row","change","place"]) (ps:=["row","change"]) F λf nd cdv A outer s H E hr ds r hl c=>?_
 obtain⟨row,c,hl9,rfl,rfl⟩:=c;refine aG<|gG 2 (pdx<|pdv 1) ?_;refine aR<|eE (PEd.cast (kS (kS (uH (pdv 0)<|pdv 2) (pdx<|pdv 1) ?_) (qD (pdv 0) (PEd.ic (fO fW (pdv 2) (pdx<|pdv 1))<|by push_cast;rfl)) ?_) ?_) trivial rfl
 ·unfold bA;rw[cE,aC,aC];lia
 ·unfold bA;rw[aP,cE,dY,aC,aC];lia
 ·unfold wcQ bA;rw[aX,aX,fR,gZ]
def aCA(hp:p∈bX)(S:StkOk p L)(h:∀t∈row,t<L.length):tF p (tabQ p L row):=⟨aCZ p L row,aDb hp S h⟩
abbrev aSl:List Str:=["size","stock","one","other","looked"]
def aIv(F:FI K mg "tells_the_same" aJW)(GT:bF P w K mg base "table_of" 5 3 aEt)(GP:CalleeE [.none] P w K mg base "parts_at" 3 4 aKk):bF P w K mg base "tells_the_same" 6 5 aOy:=by
 refine cY (N:=aSl) (ps:=aSl) F λf nd cdv A outer s H E hr ds r hl c=>?_
 obtain⟨p,L,a,b,o,hp,S,ha,hb,hlk,he,rfl,rfl⟩:=c;have hpn:=aDI he p.2.toNat;exact aR<|eE (PEd.cast (vI (d:=.non) (pdc GP.full hr (aA (pdv 0)<|aA (pdc GT hr (aA (pdv 0) (aA (pdv 1)<|aA (pdv 2) aE)) ⟨p,L,a,hp,S,ha,rfl,rfl⟩) (aA (pdc GT hr (aA (pdv 0) (aA (pdv 1)<|aA (pdv 3) aE)) ⟨p,L,b,hp,S,hb,rfl,rfl⟩)<|aA (pdv 4) aE)) ⟨p,tabQ p L a,tabQ p L b,o,hp,aCA hp S ha,aCA hp S hb,hlk,rfl,by rw[hpn];rfl⟩) fD) rfl) trivial rfl
theorem aIq(F:FI K mg "may_be_made" aRV)(GP:bF P w K mg base "price_of" 1 2 xQ)(GI:bF P w K mg base "is_row" 2 2 aJV)(GW:bF P w K mg base "is_window" 1 3 aQS)(GS:bF P w K mg base "steps_at" 1 3 pV)(GC:bF P w K mg base "with_change" 1 2 tG)(GT:bF P w K mg base "tells_the_same" 6 5 aOy):bF P w K mg base "may_be_made" 7 5 aSb:=by
 refine cY (N:=["size","stock","row","change","looked","piece"]) (ps:=["size","stock","row","change","looked"]) F λf nd cdv A outer s H E hr ds r hl c=>?_
 obtain⟨p,L,row,c,o,hp,S,hrow,hpc,hl1,hl2,hlk,hh,rfl,rfl⟩:=c;unfold hoQ at hh;simp only[bU,decide_eq_true_eq] at hh;obtain⟨hw,hpr,he⟩:=hh;have cx:∀ {X:Cx}{sd:List Slot}{a:Expr}{n0:Nat}{p1 p2:Pos},PEd X sd a (.val<|chD c)->PEd X sd (.Subscript a (.Constant (.int 0) n0 p1) p2) (.val (.int<|c.1)):=λha=>pdx ha
 have cy:∀ {X:Cx}{sd:List Slot}{a:Expr}{n0:Nat}{p1 p2:Pos},PEd X sd a (.val<|chD c)->PEd X sd (.Subscript a (.Constant (.int 1) n0 p1) p2) (.val (.int<|c.2.1)):=λha=>pdx ha
 refine aG<|gG 5 (pdx<|pdv 3) ?_;refine yD (PWd.pt (uS (wQ (oV<|pdc (r:=.val<|.bl true) GW hr (aA (pdv 2) (aA (cx<|pdv 3)<|aA (cy<|pdv 3) aE)) ⟨row,c.1,c.2.1,(of_decide_eq_true hw).1,(of_decide_eq_true hw).2,rfl,rfl⟩)) λ_=>qU<|wQ (oV<|pdc (r:=.val<|.bl true) GI hr (aA (pdv 1)<|aA (pdv 5) aE) ⟨L,c.2.2,hpc,by lia,rfl,rfl⟩))) ?_;have hst:RowOk L ((row.drop c.1).take c.2.1):=λt ht=>hrow t (dR<|dA ht)
 have hsl:((row.drop c.1).take c.2.1).length<=450:=by rw[cE,dY];lia
 refine aG (mY (pY aHD (pdc (r:=.val (.int<|aNT L c.2.2)) GP hr (aA (pdv 1)<|aA (pdv 5) aE) ⟨L,c.2.2,hpc,by lia,rfl,rfl⟩) (pdc (r:=.val<|.int (aNT L<|(row.drop c.1).take c.2.1)) GP hr (aA (pdv 1)<|aA (pdc GS hr (aA (pdv 2) (aA (cx<|pdv 3)<|aA (cy<|pdv 3) aE)) ⟨row,c.1,c.2.1,rfl,rfl⟩) aE) ⟨L,_,hst,by lia,rfl,rfl⟩)<|fN _) (decide_eq_false<|by lia)<|eA ?_);exact aR (iU<|pdc GT hr (aA (pdv 0) (aA (pdv 1)<|aA (pdv 2) (aA (pdc GC hr (aA (pdv 2)<|aA (pdv 3) aE) ⟨row,c,by lia,rfl,rfl⟩)<|aA (pdv 4) aE))) ⟨p,L,row,wcQ row c,o,hp,S,hrow,hrow.wc hpc,hlk,he,rfl,rfl⟩)
abbrev nl17:List Str:=["size","stock","row","changes","looked","made","at","change"]
theorem aNq(F:FID K mg "gone_through" aJN)(zc:mg "enumerate"=none)(GM:bF P w K mg base "may_be_made" 7 5 aSb)(GC:bF P w K mg base "with_change" 1 2 tG):CalleeE [.none] P w K mg base "gone_through" 8 5 aOs:=by
 obtain⟨f,fd,hm,F⟩:=F;have nd:nl17.Nodup:=by decide+kernel
 refine qM (ps:=["size","stock","row","changes","looked"]) F ⟨rfl,rfl,rfl,nd,rfl,by decide+kernel,by decide+kernel⟩ hm (λs T o nn _ _ _ _ _ _ us hT hS hl=>match us,hl with | [_,_,_,_,_],_=>BindsTo.of_defaults rfl hT hS rfl rfl) (λs T o nn _ _ _ _ _ _ us hT hS hl=>match us,hl with | [_,_,_,_],_=>BindsTo.of_defaults rfl hT hS rfl rfl) λcdv A outer s H E hr ds r hl c=>?_
 obtain⟨p,L,o,row,cs,hp,S,hlk,G,c120,rfl,rfl⟩:=c;refine aG<|gG 5 (pdv 2) ?_;refine aG<|iF (λt sd=>sd=[.val<|cP p,.val<|lK L,.val<|tN row,.val (.lst<|cs.map chD),.val<|lkD o,.val (tN<|(cs.take t).foldl wcQ row),.un,.un]) (oH rfl zc<|pdv 3) ⟨_,Le.refl _,rfl⟩ (λt d sdt hd ht=>?_) λsdn hn=>?_
 ·subst ht;obtain⟨x,hx,rfl⟩:=kO hd;obtain⟨c,hc,rfl,et⟩:=xJ hx;obtain⟨q1,q2,q3,q4,q5⟩:=G t c hc;refine⟨_,jK (js:=[6,7]) rfl (dI (pgn 6)<|dI (pgn 7) jA) rfl rfl,?_⟩;have ew:(cs.take<|t+1).foldl wcQ row=wcQ ((cs.take t).foldl wcQ row) c:=by rw[et,eC];rfl
  generalize (cs.take t).foldl wcQ row=rw at q1 q4 q5 ew;refine yD (wQ (oV<|pdc (r:=.val<|.bl true) GM hr (aA (pdv 0) (aA (pdv 1)<|aA (pdv 5) (aA (pdv 7)<|aA (pdv 4) aE))) ⟨p,L,_,_,o,hp,S,q4,q2,by lia,by lia,hlk,q1,rfl,rfl⟩)) ?_;refine aR<|gG 5 (pdc GC hr (aA (pdv 5)<|aA (pdv 7) aE) ⟨_,_,by lia,rfl,rfl⟩) ?_;exact⟨[.val<|cP p,.val<|lK L,.val<|tN row,.val (.lst<|cs.map chD),.val<|lkD o,.val (tN<|wcQ rw c),.un,.un],⟨ja,ja,ja,ja,ja,ja,jb,jb,trivial⟩,by rw[ew]⟩
 ·subst hn;rw[show(mV<|cs.map chD).length=cs.length by rw[jR,aC],fQ];exact aR (iU<|pdv 5)
abbrev nl18:List Str:=["shelf","row","looked","width","many","place","piece"]
theorem aFJ(zd:mg "range"=none)(zh:mg "len"=none)(GP:∀ (p:Int×Int) (L:List SK),jL P w K (shZ K CS p L) mg base "piece_from" 8 5 (CPf p L)/\gM P w K (shZ K CS p L) mg base "piece_from" 8 5 (XPf p L) (.ref CN)){hB:∀b o,H b=some o->nL o->B b=some o}(hr:Room 8 (A.deeper<|Ad "first_change" (aN sFc) s.heap.objs.size f cdv)){ξ:BD->BE->Prop}(hξ:PassesOwn (AG P w) (A.deeper<|Ad "first_change" (aN sFc) s.heap.objs.size f cdv) (Ad "first_change" (aN sFc) s.heap.objs.size f cdv) ξ){p:Int×Int}{L:List SK}{a:(shZ K CS p L).α}{row:List Nat}{o:Option (List Nat)}{w':Nat}(I:McZ p L row o)(hw:w'<=100)(tk:fzQ p L (bxQ p.2.toNat o) w' row=some none->∀sd,Takes ((reB (gO CX0 P w K mg base nl18 "first_change" (aN sFc) f cdv A outer s H E) B hB).wish ξ) (.ref CN) sd){Ed:gX}(hEd:∀x,fzQ p L (bxQ p.2.toNat o) w' row=kZ some x->Ed.rt (rtV (shZ K CS p L) a<|ocD x)):PSd ((reB (gO CX0 P w K mg base nl18 "first_change" (aN sFc) f cdv A outer s H E) B hB).wish ξ) (lG (shZ K CS p L) 7 a [.tup<|bA row,lkD o,.int (w':Int)]) (cF sFc) Ed:=by
 have nd:nl18.Nodup:=by decide+kernel
 have rl:=by have:=I.rl;omega
 have ew:((w':Int)+1-1).toNat=w':=by lia
 refine aG<|iF (λm sd=>(∀j,j<m->fzM p L row (bxQ p.2.toNat o) j=none)/\sd=[(shZ K CS p L).sl a,.val (.tup<|bA row),.val<|lkD o,.val (.int<|w'),.un,.un,.un]) (rR rfl zd bS (fO fW (pdv 3) bS) ⟨by decide,by decide⟩ ⟨by lia,by lia⟩) ⟨_,Le.refl _,λj hj=>absurd hj<|rA _,rfl⟩ (λm d sdk hd hk=>?_) (λsdn hn=>?_) (hp:=hξ)
 ·obtain⟨hmw,rfl⟩:=gC hd;obtain⟨none1,rfl⟩:=hk;rw[ew] at hmw;have em:1+(m)=((m+1:Nat):Int):=by lia
  rw[em];refine⟨_,pgN 4,?_⟩;have er:((row.length)-((m+1:Nat):Int)+1).toNat=row.length-m:=by lia
  refine aR<|iF (λt sd=>(∀j,j<t->fzP p L row (bxQ p.2.toNat o) m j=none)/\sd=[(shZ K CS p L).sl a,.val (.tup<|bA row),.val<|lkD o,.val (.int<|w'),.val (.int<|(m+1)),.un,.un]) (aDC rfl zd (fO fW (fO qB (PEd.ic (sE rfl zh<|pdv 1)<|by rw[show(bA row).length=row.length from aC _])<|pdv 4) bS) ⟨by lia,by lia⟩) ⟨_,Le.refl _,λj hj=>absurd hj<|rA _,rfl⟩ (λt d sdk hd hk=>?_) (λsdn hn=>?_) (hp:=hξ)
  ·obtain⟨ht,rfl⟩:=gC hd;obtain⟨none2,rfl⟩:=hk;rw[er] at ht;rw[mQ];refine⟨_,pgN 5,?_⟩
   by_cases gr:500<(bkF p L (pwQ L row t<|m+1)).length
   ·have ef:=lU hmw none1 (lU ht none2<|by unfold fzP;rw[zt gr]);exact aG<|oA 6 nd rfl jb (aAw 0 rfl (pv 0) (GP p L).2 hr rfl (aA (pdv 1)<|aA (pdv 5) (aA (pdv 4)<|aA (pdv 2) aE)) ⟨row,t,m+1,o,I.px (by lia) (by lia) gr,rfl⟩ rfl<|tk ef _)
   refine aG<|gG 6 (aCU 0 rfl (pv 0) (GP p L).1 hr rfl (aA (pdv 1)<|aA (pdv 5) (aA (pdv 4)<|aA (pdv 2) aE)) ⟨row,t,m+1,o,I.pc (by lia) (by lia) gr,rfl,rfl⟩ rfl) ?_;cases hq:pcQ p L row t (m+1) (bxQ p.2.toNat o) with
   |none=>
    refine aR (mY (PTd.cast (iX (pdv 6) fD) rfl) rfl<|eA ⟨[(shZ K CS p L).sl a,.val (.tup<|bA row),.val<|lkD o,.val (.int<|w'),.val (.int<|(m+1)),.un,.un],⟨ja,ja,ja,ja,ja,jb,jb,trivial⟩,λj hj=>?_,rfl⟩)
    by_cases e:j<t
    ·exact none2 j e
    ·have:j=t:=by lia
     subst this;unfold fzP;rw[zr gr,hq];rfl
   |some e=>have ef:fzQ p L (bxQ p.2.toNat o) w' row=some (some (t,m+1,e.2.1)):=lU hmw none1 (lU ht none2<|by unfold fzP;rw[zr gr,hq];rfl);exact aR (oS (PTd.cast (iX (pdv 6) fD) rfl) rfl<|aR (tJ 0 rfl (pdT<|aA (pdv 5) (aA (pdv 4)<|aA (pdv 6) aE))<|hEd (some (t,m+1,e.2.1)) ef))
  ·obtain⟨none2,rfl⟩:=hn;rw[fV,er] at none2;refine⟨[(shZ K CS p L).sl a,.val (.tup<|bA row),.val<|lkD o,.val<|.int (w':Int),.un,.un,.un],⟨ja,ja,ja,ja,jb,ja,ja,trivial⟩,λj hj=>?_,rfl⟩
   by_cases e:j<m
   ·exact none1 j e
   ·have:j=m:=by lia
    subst this;exact qJ none2
 ·obtain⟨none1,rfl⟩:=hn;rw[fV,ew] at none1;exact aR<|tJ 0 rfl fD (hEd none<|qJ none1)
abbrev aNy:List Str:=["shelf","row","looked","width"]
def aMz(F:FI K mg "first_change" sFc)(zd:mg "range"=none)(zh:mg "len"=none)(GP:∀ (p:Int×Int) (L:List SK),jL P w K (shZ K CS p L) mg base "piece_from" 8 5 (CPf p L)/\gM P w K (shZ K CS p L) mg base "piece_from" 8 5 (XPf p L) (.ref CN))(p:Int×Int)(L:List SK):jL P w K (shZ K CS p L) mg base "first_change" 9 4 (aHy p L)/\gM P w K (shZ K CS p L) mg base "first_change" 9 4 (aHL p L) (.ref CN):=by
 obtain⟨f,fd,hm,F⟩:=F;have nd:nl18.Nodup:=by decide+kernel
 have bd:=F.binds (ps:=aNy) (λ_ _ _ _ _ _ us hl=>match us,hl with | [_,_,_,_],_=>rfl);refine⟨⟨f,fd,aNy,hm,F.kp,bd,aES F ⟨rfl,rfl,rfl,nd,rfl,by decide+kernel,by decide+kernel⟩ (λcdv A outer s H E B hB hr a ds d hl c=>?_) qA⟩,⟨f,fd,aNy,hm,F.kp,bd,aHE F ⟨rfl,rfl,rfl,nd,rfl,by decide+kernel,by decide+kernel⟩ (λcdv A outer s H E B hB hr hE a ds hl c=>?_) qA⟩⟩
 ·obtain⟨row,o,w',x,I,hw,ex,rfl,rfl⟩:=c
  exact aFJ (hB:=hB) zd zh GP hr PassesOwn.never I hw (λh=>by rw[ex] at h;cases x<;>cases h) λy hy=>by rw[ex] at hy;cases x<;>cases y<;>cases hy<;>rfl
 ·obtain⟨row,o,w',I,hw,ex,rfl⟩:=c
  exact aFJ (E:=E) (hB:=hB) zd zh GP hr PassesOwn.leaving I hw (λ_ sd=>oX hE) λy hy=>by rw[ex] at hy;cases y<;>cases hy
abbrev nl20:List Str:=["size","stock","row","looked","width"]
def aMj{fdI:AN}{tk:Tok}(F:aKO #[.none,.int 2 tk] K "is_cheap" "is_cheap" sIc f fd)(shT:pE K mg CS)(shM:Mk K CS fI)(shF:Fun K "__init__" "Shelf.__init__" aKQ fI fdI)(hm:mg "is_cheap"=some (.ref f))(GC:∀ (p:Int×Int) (L:List SK),jL P w K (shZ K CS p L) mg base "first_change" 9 4 (aHy p L)/\gM P w K (shZ K CS p L) mg base "first_change" 9 4 (aHL p L) (.ref CN)):CalleeE [.int 2 tk] P w K mg base "is_cheap" 10 5 aLc/\fS P w K mg base "is_cheap" 10 5 aLf (.ref CN) [] []:=by
 have nd:nl20.Nodup:=by decide+kernel
 have bI:=shF.binds (ps:=aNI) λ_ _ _ _ _ _ us hl=>match us,hl with | [_,_,_],_=>rfl
 constructor
 ·refine qM (ps:=nl20) F ⟨rfl,rfl,rfl,nd,rfl,by decide+kernel,by decide+kernel⟩ hm (λs T o nn _ _ _ _ _ _ us hT hS hl=>match us,hl with | [_,_,_,_,_],_=>BindsTo.of_defaults rfl hT hS rfl rfl) (λs T o nn _ _ _ _ _ _ us hT hS hl=>match us,hl with | [_,_,_,_],_=>BindsTo.of_defaults rfl hT hS rfl rfl) λcdv A outer s H E hr ds r hl c=>?_
  obtain⟨p,L,row,o,w,x,I,hw,ex,rfl,rfl⟩:=c;exact aR<|eE (PEd.cast (vI (aAA [2,3,4] (oB JSh.nil shT shM (oE shF shT) bI (hr.mono<|by decide) rfl (aA (pdv 0)<|aA (pdv 1) aE)) (GC p L).1 hr rfl (cO (pv 2) (cO (pv 3)<|cO (pv 4) pa_nil)) rfl (λa=>⟨row,o,w,x,I,hw,ex,rfl,rfl⟩) rfl) fD)<|by cases x<;>rfl) trivial rfl
 ·refine yT (ps:=nl20) (k:=9) F ⟨rfl,rfl,rfl,nd,rfl,by decide+kernel,by decide+kernel⟩ hm (λs T o nn _ _ _ _ _ _ us hT hS hl=>match us,hl with | [_,_,_,_,_],_=>BindsTo.of_defaults rfl hT hS rfl rfl) λcdv A outer s H E hr hE ds hl c=>?_
  obtain⟨p,L,row,o,w,I,hw,ex,rfl⟩:=c;exact aR (yY<|aOU (vE (Z:=shZ K CS p L) (ds:=[tN row,lkD o,.int (w:Int)]) [2,3,4] (oB JSh.nil shT shM (oE shF shT) bI (hr.mono<|by decide) rfl (aA (pdv 0)<|aA (pdv 1) aE)) (GC p L).2 hr rfl (cO (pv 2) (cO (pv 3)<|cO (pv 4) pa_nil)) rfl (λa=>⟨row,o,w,I,hw,ex,rfl⟩) rfl<|qN hE))
abbrev nl21:List Str:=["shelf","row","looked","width","made","changes","change"]
theorem aCB(GC:∀ (p:Int×Int) (L:List SK),jL P w K (shZ K CS p L) mg base "first_change" 9 4 (aHy p L)/\gM P w K (shZ K CS p L) mg base "first_change" 9 4 (aHL p L) (.ref CN))(GW:bF P w K mg base "with_change" 1 2 tG){E:XK}{hB:∀b o,H b=some o->nL o->B b=some o}(hr:Room 9 (A.deeper<|Ad "cheaper_from" (aN sCf) s.heap.objs.size f cdv)){ξ:BD->BE->Prop}(hξ:PassesOwn (AG P w) (A.deeper<|Ad "cheaper_from" (aN sCf) s.heap.objs.size f cdv) (Ad "cheaper_from" (aN sCf) s.heap.objs.size f cdv) ξ){p:Int×Int}{L:List SK}{a:(shZ K CS p L).α}{row:List Nat}{o:Option (List Nat)}{w':Nat}(I:MzI p L row o w')(tk:(mzQ p L (bxQ p.2.toNat o) w' row).2.2=true->∀sd,Takes ((reB (gO CX0 P w K mg base nl21 "cheaper_from" (aN sCf) f cdv A outer s H E) B hB).wish ξ) (.ref CN) sd){Ed:gX}(hEd:(mzQ p L (bxQ p.2.toNat o) w' row).2.2=false->Ed.rt (rtR (shZ K CS p L) a (mzR<|mzQ p L (bxQ p.2.toNat o) w' row))):PSd ((reB (gO CX0 P w K mg base nl21 "cheaper_from" (aN sCf) f cdv A outer s H E) B hB).wish ξ) (lG (shZ K CS p L) 7 a [.tup<|bA row,lkD o,.int (w':Int)]) (cF sCf) Ed:=by
 have nd:nl21.Nodup:=by decide+kernel
 have hw:=I.w;have S0:=MzSt.start I.I I.pr w';generalize mzQ p L (bxQ p.2.toNat o) w' row=fin at S0 tk hEd;refine aG<|gG 4 (pdv 1) ?_;refine aG<|rE 5 (lH (ds:=[]) aE<|bQ _) λl5=>?_
 have step:∀ {n:Nat}{r:List Nat}{cs:List Ch}{sd:List Slot}{E2:gX}{p1 p2 p3 p4 p5 p6 p7 p8:Pos},MzSt p L o w' row fin n r cs->sd[0]? =some ((shZ K CS p L).sl a)->sd[4]? =some (.val (.tup<|bA r))->sd[2]? =some (.val<|lkD o)->sd[3]? =some (.val (.int<|w'))->(∀x,fzQ p L (bxQ p.2.toNat o) w' r=kZ some x->E2.nx (sd.set 6 (.val<|ocD x)))->PSd1 ((reB (gO CX0 P w K mg base nl21 "cheaper_from" (aN sCf) f cdv A outer s H E) B hB).wish ξ) sd (.Assign [.Name "change" p1] (.Call (.Name "first_change" p2) [.Name "shelf" p3, .Name "made" p4, .Name "looked" p5, .Name "width" p6] [] p7) p8) E2:=λ{n r cs sd E2 p1 p2 p3 p4 p5 p6 p7 p8} S e0 e4 e2 e3 q=>by
  have ok:∀x,fzQ p L (bxQ p.2.toNat o) w' r=kZ some x->PSd1 ((reB (gO CX0 P w K mg base nl21 "cheaper_from" (aN sCf) f cdv A outer s H E) B hB).wish ξ) sd (.Assign [.Name "change" p1] (.Call (.Name "first_change" p2) [.Name "shelf" p3, .Name "made" p4, .Name "looked" p5, .Name "width" p6] [] p7) p8) E2:=λx hx=>gG 6 (aCU 0 e0 (pv 0) (GC p L).1 hr rfl (aA (oU 4 e4<|pv 4) (aA (oU 2 e2<|pv 2)<|aA (oU 3 e3<|pv 3) aE)) ⟨r,o,w',x,S.I,hw,hx,rfl,rfl⟩ rfl)<|q x hx
  match h:fzQ p L (bxQ p.2.toNat o) w' r with
  |none=>exact ok none h
  |some (some c)=>exact ok (some c) h
  |some none=>have:=S.great h;subst this;exact oA 6 nd rfl jb (aAw 0 e0 (pv 0) (GC p L).2 hr rfl (aA (oU 4 e4<|pv 4) (aA (oU 2 e2<|pv 2)<|aA (oU 3 e3<|pv 3) aE)) ⟨r,o,w',S.I,hw,h,rfl⟩ rfl<|tk rfl _)
 refine aG<|step S0 rfl rfl rfl rfl λx hx=>?_;refine aG<|vH (λn sd=>∃r cs x,MzSt p L o w' row fin n r cs/\fzQ p L (bxQ p.2.toNat o) w' r=kZ some x/\sd=[(shZ K CS p L).sl a,.val (.tup<|bA row),.val<|lkD o,.val<|.int (w':Int),.val (.tup<|bA r),.own l5<|cs.map chD,.val<|ocD x]) ⟨31,_,Le.refl _,row,[],x,S0,hx,rfl⟩ (λn sdn hn=>?_) (hp:=hξ);obtain⟨r,cs,x,S,hx,rfl⟩:=hn;have le:=S.le;cases x with
 |none=>have e:=S.stop hx;subst e;exact⟨false,PTd.cast (iX (pdv 6) fD) rfl,λ_=>aR (aFY 0 5 (by decide) rfl rfl (pv 5) (pdv 4)<|hEd rfl),λh=>by cases h⟩
 |some c=>refine⟨true,PTd.cast (iX (pdv 6) fD) rfl,(λh=>by cases h),λ_=>?_⟩;obtain⟨_,q1,q2,_⟩:=aKW S.I hx;have rl:=S.I.rl;obtain⟨m,hm,S2⟩:=S.next hx;refine aG<|mG 5 rfl (pv 5) (pdv 6) (by rw[aC];lia) ?_;refine aG<|gG 4 (pdc GW hr (aA (pdv 4)<|aA (pdv 6) aE) ⟨r,c,by lia,rfl,rfl⟩) ?_;exact aR<|step S2 rfl rfl rfl rfl λx2 hx2=>⟨m,_,hm,Le.refl _,wcQ r c,cs++[c],x2,S2,hx2,by rw[aX];rfl⟩
def aMB(F:FI K mg "cheaper_from" sCf)(GC:∀ (p:Int×Int) (L:List SK),jL P w K (shZ K CS p L) mg base "first_change" 9 4 (aHy p L)/\gM P w K (shZ K CS p L) mg base "first_change" 9 4 (aHL p L) (.ref CN))(GW:bF P w K mg base "with_change" 1 2 tG)(p:Int×Int)(L:List SK):aBm P w K (shZ K CS p L) mg base "cheaper_from" 10 4 (aOv p L)/\gM P w K (shZ K CS p L) mg base "cheaper_from" 10 4 (aOq p L) (.ref CN):=by
 obtain⟨f,fd,hm,F⟩:=F;have nd:nl21.Nodup:=by decide+kernel
 have bd:=F.binds (ps:=aNy) (λ_ _ _ _ _ _ us hl=>match us,hl with | [_,_,_,_],_=>rfl);refine⟨⟨f,fd,aNy,hm,F.kp,bd,aJT F ⟨rfl,rfl,rfl,nd,rfl,by decide+kernel,by decide+kernel⟩ (λcdv A outer s H E B hB hr a ds r hl c=>?_) qA⟩,⟨f,fd,aNy,hm,F.kp,bd,aHE F ⟨rfl,rfl,rfl,nd,rfl,by decide+kernel,by decide+kernel⟩ (λcdv A outer s H E B hB hr hE a ds hl c=>?_) qA⟩⟩
 ·obtain⟨row,o,w',I,ex,rfl,rfl⟩:=c;exact aCB (hB:=hB) GC GW hr PassesOwn.never I (λh=>by rw[ex] at h;cases h) λ_=>rfl
 ·obtain⟨row,o,w',I,ex,rfl⟩:=c;exact aCB (E:=E) (hB:=hB) GC GW hr PassesOwn.leaving I (λ_ sd=>oX hE) λh=>by rw[ex] at h;cases h
def aNm{fdI:AN}(F:aKO #[.none,.int 2 tk] K "made_cheaper" "made_cheaper" sMc f fd)(shT:pE K mg CS)(shM:Mk K CS fI)(shF:Fun K "__init__" "Shelf.__init__" aKQ fI fdI)(hm:mg "made_cheaper"=some (.ref f))(GC:∀ (p:Int×Int) (L:List SK),aBm P w K (shZ K CS p L) mg base "cheaper_from" 10 4 (aOv p L)/\gM P w K (shZ K CS p L) mg base "cheaper_from" 10 4 (aOq p L) (.ref CN)):CalleeE [.int 2 tk] P w K mg base "made_cheaper" 11 5 aLn/\fS P w K mg base "made_cheaper" 11 5 aLj (.ref CN) [] []:=by
 have nd:nl20.Nodup:=by decide+kernel
 have bI:=shF.binds (ps:=aNI) λ_ _ _ _ _ _ us hl=>match us,hl with | [_,_,_],_=>rfl
 constructor
 ·refine qM (ps:=nl20) F ⟨rfl,rfl,rfl,nd,rfl,by decide+kernel,by decide+kernel⟩ hm (λs T o nn _ _ _ _ _ _ us hT hS hl=>match us,hl with | [_,_,_,_,_],_=>BindsTo.of_defaults rfl hT hS rfl rfl) (λs T o nn _ _ _ _ _ _ us hT hS hl=>match us,hl with | [_,_,_,_],_=>BindsTo.of_defaults rfl hT hS rfl rfl) λcdv A outer s H E hr ds r hl c=>?_
  obtain⟨p,L,row,o,w,I,ex,rfl,rfl⟩:=c;exact aR (iU<|aGL [2,3,4] (oB JSh.nil shT shM (oE shF shT) bI (hr.mono<|by decide) rfl (aA (pdv 0)<|aA (pdv 1) aE)) (GC p L).1 hr rfl (cO (pv 2) (cO (pv 3)<|cO (pv 4) pa_nil)) rfl (λa=>⟨row,o,w,I,ex,rfl,rfl⟩) trivial rfl)
 ·refine yT (ps:=nl20) (k:=10) F ⟨rfl,rfl,rfl,nd,rfl,by decide+kernel,by decide+kernel⟩ hm (λs T o nn _ _ _ _ _ _ us hT hS hl=>match us,hl with | [_,_,_,_,_],_=>BindsTo.of_defaults rfl hT hS rfl rfl) λcdv A outer s H E hr hE ds hl c=>?_
  obtain⟨p,L,row,o,w,I,ex,rfl⟩:=c;exact aR<|yY (vE (Z:=shZ K CS p L) (ds:=[tN row,lkD o,.int (w:Int)]) [2,3,4] (oB JSh.nil shT shM (oE shF shT) bI (hr.mono<|by decide) rfl (aA (pdv 0)<|aA (pdv 1) aE)) (GC p L).2 hr rfl (cO (pv 2) (cO (pv 3)<|cO (pv 4) pa_nil)) rfl (λa=>⟨row,o,w,I,ex,rfl⟩) rfl<|qN hE)
noncomputable def aQo(k:Int)(st:Int×Int)(j:Nat):Int×Int:=((st.1*st.1+48271*st.1+69621*(j:Int)+k)%2147483629,st.2*998244353+(st.1*st.1+48271*st.1+69621*(j:Int)+k)%2147483629*16807%2147483587)
def rM(k x0:Int)(t:Nat):Int×Int:=(bT t).foldl (aQo k) (x0,0)
def aAq(k x0:Int)(t:Nat):rM k x0 (t+1)=aQo k (rM k x0 t) t:=by unfold rM;rw[zO,eC];rfl
theorem aMC(h:0<=x0/\x0<2^40):∀t,0<=(rM k x0 t).1/\(rM k x0 t).1<2^40
 |0=>h
 |t+1=>by rw[aAq];have h0:=dO ((rM k x0 t).1*(rM k x0 t).1+48271*(rM k x0 t).1+69621*(t)+k) (show(2147483629)≠0 by decide);refine⟨h0,?_⟩;show _%_<_;lia
noncomputable def x0D(ns:List Int)(k:Nat):Int:=if ns.isEmpty then(k:Int)*k+7*k+11 else(k:Int)*k+7*k+11+ns.getD (k%ns.length) 0%1000003*(2*(k:Int)+1)
def gI(ns:List Int)(k:Nat):Int:=if k<ns.length then ns.getD k 0%most*7919^15%most else(rM k (x0D ns k) 8).2%most
def aEK:List D->R->Prop:=λds r=>∃ns k,ds=[.scr ns,.int ((k:Nat):Int)]/\k<=1000/\r=.val (.int<|gI ns k)
abbrev aSq:List Str:=["_law_script","_law_k","_law_most","_law_x","_law_found","_law_j"]
theorem aIH(F:FI K mg "_law_draw" aHM)(zh:mg "len"=none)(zd:mg "range"=none):bF P w K mg base "_law_draw" 1 2 aEK:=by
 refine cY (N:=aSq) (ps:=["_law_script","_law_k"]) F λf nd cdv A outer s H E hr ds r hl c=>?_
 obtain⟨ns,k,rfl,hk,rfl⟩:=c;have hu:=uN hr 1
 have kk:((k:Nat):Int)*k<=1000000:=by
  have:k*k<=1000*1000:=aQv hk hk;have e:((k*k:Nat):Int)=(k:Int)*k:=by push_cast;rfl
  lia
 have kk0:0<=((k:Nat):Int)*k:=aQw (by lia) (by lia);refine aG<|gY 2 nd rfl jb (dJ iN bS (dJ aKc bS bS ⟨by decide,by decide,by decide⟩) (aAx (by decide)<|by decide+kernel)) ?_;refine aG<|fX (pY aHG (pdv 1) (aFU rfl zh<|pdv 0)<|fN _) (λh=>?_) λh=>eA ?_
 ·have h':k<ns.length:=by simpa using h
  refine aR<|eE (dJ gE (dJ iN (dJ gE (aKE (z:=ns.getD k 0) (pdv 0) (pdv 1) (by simp[h']) λ_ _=>rfl) (pdv 2)<|by decide+kernel) (dJ aKc bS bS ⟨by decide,by decide,by decide⟩) (aAx ?_<|by decide+kernel)) (pdv 2)<|by decide+kernel) trivial ?_
  ·have h1:=dO (ns.getD k 0) (show most≠0 by decide+kernel);have h2:=dE (ns.getD k 0) (show 0<most by decide+kernel);have h3:most<2^250:=by decide+kernel
   show(ns.getD k 0%most).natAbs<_;lia
  ·show R.val (.int _)=R.val (.int<|gI ns k);unfold gI;rw[zt h'];rfl
 have h':¬ k<ns.length:=by simpa using h
 have fin:∀x:Int,x=x0D ns k->0<=x/\x<2^40->PSd (gO CX0 P w K mg base aSq "_law_draw" (aN aHM) f cdv A outer s H E).nox [.val<|.scr ns,.val<|.int k,.val<|.int most,.val<|.int x,.un,.un] ((cF aHM).drop 4) (rtE<|R.val (.int<|gI ns k)):=λx hx xr=>by
  have mr:=aMC (k:=(k:Int)) xr;refine aG<|gY 4 nd rfl jb bS ?_;refine aG<|oR (λt=>[.val<|.scr ns,.val<|.int k,.val<|.int most,.val<|.int (rM k x t).1,.val<|.int (rM k x t).2,.un]) (λt=>[.val<|.scr ns,.val<|.int k,.val<|.int most,.val<|.int (rM k x t).1,.val<|.int (rM k x t).2,.val (.int<|0+(t:Int))]) (lZ (n:=8) rfl zd bS<|by decide) ⟨ja,ja,ja,ja,ja,ja,trivial⟩ (λt d hd=>?_) (λt d hd=>?_) ?_
  ·obtain⟨_,rfl⟩:=gC hd;exact pgN 5
  ·obtain⟨ht,rfl⟩:=gC hd;obtain⟨a0,a1⟩:=mr t;have es:=aAq k x t;generalize rM k x t=st at *;obtain⟨u,v⟩:=st;simp only at a0 a1;refine aG<|gG 3 (dJ gE (fO fW (fO fW (fO fW (dJ iN (pdv 3) (pdv 3) (pH (by lia)<|by lia))<|dJ iN bS (pdv 3) (pH (by lia)<|by lia))<|dJ iN bS (pdv 5) (pH (by lia)<|by omega))<|pdv 1) bS<|by decide) ?_;refine aR<|gG 4 (fO fW (dJ iN (pdv 4) bS (pH (by decide)<|by decide)) (dJ gE (dJ iN (pdv 3) bS (pH (by decide)<|by decide)) bS<|by decide)) ?_;refine⟨ja,ja,ja,.inr ?_,.inr ?_,jb,trivial⟩
   ·rw[es];unfold aQo;rw[mQ]
   ·rw[es];unfold aQo;rw[mQ]
  ·refine aR<|eE (dJ gE (pdv 4) (pdv 2)<|by decide+kernel) trivial ?_;show R.val (.int<|(rM k x (iW 0 8).length).2%most)=R.val (.int<|gI ns k);unfold gI;rw[zr h',fV,hx]
 refine aG<|gG 3 (fO fW (fO fW (dJ iN (pdv 1) (pdv 1) (pH (by lia)<|by omega))<|dJ iN bS (pdv 1) (pH (by lia)<|by omega)) bS) ?_;refine aG<|fX (aJf hu (pdv 0)<|PEd.val (lH aE<|bQ _)) (λh2=>?_) λh2=>eA ?_
 ·have h2':ns.isEmpty=false:=by simpa using h2
  have h3:ns.length>0:=by cases ns with|nil=>simp at h2'|cons _ _=>simp
  have em:((k:Nat):Int)%((ns.length:Nat):Int)=((k%ns.length:Nat):Int):=by lia
  have lt:k%ns.length<ns.length:=Nat.mod_lt _ h3;have hb1:=dO (ns.getD (k%ns.length) 0) (show(1000003:Int)≠0 by decide);have hb2:=dE (ns.getD (k%ns.length) 0) (show(0:Int)<1000003 by decide);refine aR<|gG 3 (fO fW (pdv 3)<|dJ iN (dJ gE (aNr (z:=ns.getD (k%ns.length) 0) (pdv 0) (dJ gE (pdv 1) (aFU rfl zh<|pdv 0)<|by lia) (by rw[em];lia) (by rw[em,eD];simp[lt]) λ_ _=>rfl) bS<|by decide) (fO fW (dJ iN bS (pdv 1) (pH (by lia)<|by omega)) bS) (pH (by lia)<|by omega)) ?_;refine fin _ (by unfold x0D;rw[h2'];rfl) ?_;generalize ns.getD (k%ns.length) 0%1000003=y at *;have m1:y*(2*(k:Int)+1)<=1000003*2001:=Int.mul_le_mul (by lia) (by lia) (by lia) (by lia);have m0:0<=y*(2*(k:Int)+1):=aQw (by omega) (by lia);lia
 ·have h2':ns.isEmpty=true:=by simpa using h2
  exact fin _ (by unfold x0D;rw[h2'];rfl)<|by lia
theorem aGF(F:FI K mg "_law_digits" aFO):bF P w K mg base "_law_digits" 1 2 aBx:=by
 refine cY (N:=["_law_x","_law_sizes","_law_found","_law_size"]) (ps:=["_law_x","_law_sizes"]) F λf nd cdv A outer s H E hr ds r hl c=>?_
 obtain⟨x,ns,rfl,hp,hn,rfl⟩:=c;refine aG<|sX 2 nd rfl jb (lH (ds:=[]) aE<|bQ _) λl=>?_
 refine aG (oR (fun k=>[.val (.int (aNx x (ns.take k))), .val (.lst (ns.map D.int)), .own l ((vR x (ns.take k)).map D.int), .un]) (fun k=>[.val (.int (aNx x (ns.take k))), .val (.lst (ns.map D.int)), .own l ((vR x (ns.take k)).map D.int), .val (.int (ns.getD k 0))])
  (iV (pdv 1)) ⟨ja,ja,ja,ja,trivial⟩ (λk d hd=>?_) (λk d hd=>?_) ?_)
 ·obtain⟨hk,rfl⟩:=uG hd;exact pgN 3
 ·obtain⟨hk,rfl⟩:=uG hd;have hm:ns.getD k 0∈ns:=by simp[bV,hk]
  obtain⟨h1,h2⟩:=hp _ hm
  have et:ns.take (k+1)=ns.take k++[ns.getD k 0]:=by simp[bV,hk]
  refine aG<|mG 2 rfl (pv 2) (dJ gE (pdv 0) (pdv 3) h1) ?_ ?_
  ·rw[aC,sG,cE];lia
  ·refine aR<|gY 0 nd rfl jb (dJ sD (pdv 0) (pdv 3) ⟨h1,h2⟩) ?_;refine⟨.inr ?_,ja,.inr ?_,jb,trivial⟩
   ·rw[et,aAk]
   ·rw[et,aAj,aX];rfl
 ·refine aR<|sJ 2 rfl (pv 2) ?_;rw[aC,fQ]
def kOf(x:Int):Nat:=(x%10).toNat
def iOf(p:Int×Int)(x:Int):Int:=x / 10%60%p.2
def jOf(p:Int×Int)(x:Int):Int:=x / 10 / 60%60%p.2
noncomputable def nOf(p:Int×Int)(x:Int):Int:=x / 10 / 60 / 60%64%((2^p.1.toNat:Nat):Int)
def yZ(p:Int×Int)(x:Int):D:=mO (kOf x) (iOf p x) (jOf p x)<|nOf p x
def aKy:List D->R->Prop:=λds r=>∃x p,p∈bX/\ds=[.int x,cP p]/\r=.val (yZ p x)
theorem aIX(F:FI K mg "_law_step" aKx)(GG:bF P w K mg base "_law_digits" 1 2 aBx):bF P w K mg base "_law_step" 2 2 aKy:=by
 refine cY (N:=["_law_x","_law_size","_law_kind","_law_i","_law_j","_law_n","_law_words"]) (ps:=["_law_x","_law_size"]) F λf nd cdv A outer s H E hr ds r hl c=>?_
 obtain⟨x,p,hp,rfl,rfl⟩:=c;obtain⟨h1,h2,h3,h4,h5⟩:=aHq p hp;have hm0:=aJE p.1.toNat;have p20:(0:Int)<p.2:=by omega
 have d0:=dO x (show(10:Int)≠0 by decide);have d1:=dE x (show(0:Int)<10 by decide)
 refine aG (aBt (PEd.val (pdc GG hr (aA (pdv 0) (aA (PEd.val (pdL (aA bS (aA bS (aA bS (aA bS aE)))))) aE)) ⟨_,[10,60,60,64],rfl,by decide,by decide,rfl⟩))
  (aMu (js:=[2,3,4,5]) rfl (dI (pgn 2) (dI (pgn 3) (dI (pgn 4) (dI (pgn 5) jA)))) rfl rfl) ?_)
 refine aG<|rE 6 (pdL (ds:=[.str "and",.str "or",.str "xor",.str "add",.str "take",.str "copy",.str "put",.str "not",.str "up",.str "down"]) ?_) λl=>?_
 ·repeat' (first|exact aE|refine aA fE ?_)
 have wk:(stepNames.map D.str)[(x%10).toNat]? =some (.str (nm<|kOf x)):=by
  rw[bE]
  have:(x%10).toNat<stepNames.length:=by show _<10;lia
  unfold nm kOf;simp[bV,this]
 refine aG<|fX (pY aHG (pdv 2) bS<|fN _) (λh=>?_) λh=>eA ?_
 ·have h':x%10<6:=by simpa using h
  have es:yZ p x=.tup [.str (nm<|kOf x),.int<|iOf p x,.int<|jOf p x]:=by unfold yZ mO;rw[zt (show kOf x<6 by unfold kOf;lia)]
  rw[es];exact aR<|iU (pdT (ds:=[.str (nm<|kOf x),.int<|iOf p x,.int<|jOf p x])<|aA (kA (uB 6 rfl<|pv 6) (pdv 2) d0 wk λ_ _=>rfl) (aA (dJ gE (pdv 3) (pdx<|pdv 1) p20)<|aA (dJ gE (pdv 4) (pdx<|pdv 1) p20) aE))
 have h':¬ x%10<6:=by simpa using h
 refine aG<|fX (aBw (pdv 2) bS) (λh2=>?_) λh2=>eA ?_
 ·have h2':x%10=6:=by simpa using h2
  have es:yZ p x=.tup [.str (nm<|kOf x),.int<|iOf p x,.int<|nOf p x]:=by unfold yZ mO;rw[zr (show ¬ kOf x<6 by unfold kOf;lia),zt (show kOf x=6 by unfold kOf;lia)]
  rw[es];refine aR<|iU (pdT (ds:=[.str (nm<|kOf x),.int<|iOf p x,.int<|nOf p x])<|aA (kA (uB 6 rfl<|pv 6) (pdv 2) d0 wk λ_ _=>rfl) (aA (dJ gE (pdv 3) (pdx (d:=.int p.2)<|pdv 1) p20)<|aA (dJ gE (pdv 5) (kA (i:=p.1) (d:=.int ((2^p.1.toNat:Nat):Int)) (PEd.bor (PEd.val<|pdL (ds:=[.int 1,.int 2,.int 4,.int 8,.int 16,.int 32,.int 64]) ?_)) (pdx (n:=0)<|pdv 1) (by lia) (aLO _<|by lia) λ_ _=>rfl) hm0) aE))
  repeat' (first|exact aE|refine aA bS ?_)
 have h2':¬ x%10=6:=by simpa using h2
 have es:yZ p x=.tup [.str (nm<|kOf x),.int<|iOf p x]:=by unfold yZ mO;rw[zr (show ¬ kOf x<6 by unfold kOf;lia),zr (show ¬ kOf x=6 by unfold kOf;lia)]
 rw[es];exact aR (iU<|pdT (ds:=[.str (nm<|kOf x),.int<|iOf p x]) (aA (kA (i:=x%10) (uB 6 rfl<|pv 6) (pdv 2) d0 wk λ_ _=>rfl)<|aA (dJ gE (pdv 3) (pdx (n:=1) (d:=.int p.2)<|pdv 1) p20) aE))
def rwE(x:Int)(n most:Nat):List Nat:=(vR (x / ((most+1:Nat):Int))<|bP (x%((most+1:Nat):Int)).toNat 840).map λd=>(d%(n:Int)).toNat
theorem aPa(x:Int)(most:Nat)(h:0<n):(∀t∈rwE x n most,t<n)/\(rwE x n most).length<=most:=by
 have m0:(0)<((most+1:Nat):Int):=by lia
 have r1:=dE x m0;refine⟨λt ht=>?_,?_⟩
 ·obtain⟨d,_,rfl⟩:=aS.mp ht;have q1:=dE d (show(0:Int)<n by lia);lia
 ·unfold rwE;rw[aC,sG,lB];lia
def aRY:List D->R->Prop:=λds r=>∃ (x:Int) (L:List SK) (most:Nat),0<L.length/\most<=8/\ds=[.int x,.lst<|L.map skD,.int (most:Int)]/\r=.val (.tup (bA<|rwE x L.length most))
abbrev aRR:List Str:=["_law_x","_law_stock","_law_most","_law_many"]
theorem aLv(F:FI K mg "_law_row" aLs)(zf:mg "tuple"=none)(zh:mg "len"=none)(GG:bF P w K mg base "_law_digits" 1 2 aBx):bF P w K mg base "_law_row" 2 3 aRY:=by
 refine cY (N:=aRR) (ps:=["_law_x","_law_stock","_law_most"]) F λf nd cdv A outer s H E hr ds r hl c=>?_
 obtain⟨x,L,most,l0,m8,rfl,rfl⟩:=c;have nd2:(["_law_digit","_law_stock"]:List Str).Nodup:=by decide+kernel
 have n0:(0)<(L.length:Int):=by lia
 have m0:(0)<((most+1:Nat):Int):=by lia
 have r0:=dO x<|jJ m0;have r1:=dE x m0
 have ml:((most+1:Nat):Int).natAbs.log2<9000:=by rw[aKK];exact dD (aNP _)<|by lia
 obtain⟨k,hk⟩:∃k:Nat,x%((most+1:Nat):Int)=(k:Int):=⟨(x%((most+1:Nat):Int)).toNat,by lia⟩;have k8:k<=8:=by lia
 have eR:rwE x L.length most=(vR (x / ((most+1:Nat):Int))<|bP k 840).map λd=>(d%(L.length:Int)).toNat:=by unfold rwE;rw[hk,eD]
 rw[eR];refine aG<|gG 3 (PEd.ic (dJ gE (pdv 0) (PEd.ic (fO fW (pdv 2) bS) (show _=((most+1:Nat):Int) by lia)) m0) hk) ?_
 have er:(bP k [D.int 840]).flatten=(bP k (840:Int)).map D.int:=by
  clear eR hk k8
  induction k with
  |zero=>rfl
  |succ k ih=>rw[jM,jM,vO,ih];rfl
 refine aR<|iU (kK rfl zf<|PEd.bor (PEd.val<|PEd.cast (pdC (M:=aRR) (cap:=[none,some 1]) (sc:=aN aLs) (λ_=>true) (λd=>match d with | .int i=>D.int (((i%(L.length:Int)).toNat:Nat):Int)|_=>.non) (iV (PEd.val<|pdc GG hr (aA (dJ sD (pdv 0) (PEd.ic (fO fW (pdv 2) bS) (show _=((most+1:Nat):Int) by lia)) ⟨m0,ml⟩)<|aA (PEd.cast (PEd.val (aFB (PEd.bor<|PEd.val (pdL (ds:=[.int 840])<|aA bS aE)) (pdv 3) (by lia)<|by simp;lia))<|by rw[er]) aE) ⟨_,bP k 840,rfl,(λn hn=>by rw[(List.mem_replicate.mp hn).2];exact⟨by decide,by decide⟩),by rw[lB];lia,rfl⟩)) (by rw[aC,sG,lB];lia) (λcl C fp s H d hd=>.inl ⟨rfl,rfl⟩) λcl C fp s H d hd _=>?_) (?_:_=R.own (bA<|(vR (x / ((most+1:Nat):Int))<|bP k 840).map λd=>(d%(L.length:Int)).toNat))))
 ·obtain⟨z,_,rfl⟩:=aS.mp hd;have q0:=dO z<|jJ n0;exact PEd.ic (dJ gE (pdv 0) (PEd.ic (mS rfl zh (PEd.bor<|pdv 1))<|by rw[aC]) n0) (Int.toNat_of_nonneg q0).symm
 ·rw[cR.mpr λ_ _=>rfl];unfold bA;rw[aY,aY];rfl
def stE(p:Int×Int)(x:Int):SQ:=(kOf x,iOf p x,jOf p x,nOf p x)
theorem aPx(hp:p∈bX)(x:Int):uV p (stE p x):=by
 obtain⟨h1,h2,h3,h4,h5⟩:=aHq p hp;have p20:(0)<p.2:=by omega
 have m0:=pw0 p.1.toNat;exact⟨hp,by show(x%10).toNat<10;lia,⟨dO _<|jJ p20,dE _ p20⟩,⟨dO _<|jJ p20,dE _ p20⟩,⟨dO _<|jJ m0,dE _ m0⟩⟩
def yA:D->D
 |.tup (x::_)=>x
 |_=>.non
def dzN(p:Int×Int)(ns:List Int):Nat->List SK
 |0=>[]
 |t+1=>if((dzN p ns t).map skD |>.map yA).any (λz=>deq z (sqD<|stE p (gI ns<|30+t))) then dzN p ns t else if(dzN p ns t).length<8 then dzN p ns t++[(stE p (gI ns<|30+t),1)] else dzN p ns t
set_option tactic.hygienic true in
theorem aCh(hp:p∈bX)(ns:List Int):∀t,(dzN p ns t).length<=8/\(0<t->0<(dzN p ns t).length)/\(∀s∈dzN p ns t,uV p s.1/\s.2=1)/\((dzN p ns t).map λs=>sqD s.1).Nodup
 |0=>⟨bQ _,λh=>by omega,(λs hs=>nomatch hs),cQ⟩
 |t+1=>by
  obtain⟨a,b,c,d⟩:=aCh hp ns t;unfold dzN
  split
  ·rename_i h;refine⟨a,λ_=>?_,c,d⟩;cases e:dzN p ns t with
   |nil=>rw[e] at h;simp at h
   |cons _ _=>simp
  ·rename_i h
   split
   ·rename_i h8;refine⟨by simp;lia,λ_=>by simp,λs hs=>?_,?_⟩
    ·rcases aV.mp hs with hs|hs
     ·exact c s hs
     ·rw[aK.mp hs];exact⟨aPx hp _,rfl⟩
    ·rw[aX];refine bK.mpr ⟨d,by simp,λx hx y hy z=>h ?_⟩;have ey:=by simpa using hy
     obtain⟨s,hs,rfl⟩:=aS.mp hx;refine lD.mpr ⟨sqD s.1,aS.mpr ⟨skD s,aS.mpr ⟨s,hs,rfl⟩,rfl⟩,?_⟩;rw[<-ey,<-z];exact zI _<|aLg _
   ·rename_i h8;exact⟨a,λ_=>by lia,c,d⟩
noncomputable def dzL(L:List SK):List SK:=L.take (L.length-1)++[((L.getD (L.length-1) AS).1,9)]
theorem aPk(hp:p∈bX)(l0:0<L.length)(l8:L.length<=8)(st:∀s∈L,uV p s.1/\s.2=1)(nd:(L.map λs=>sqD s.1).Nodup):StkOk p (dzL L)/\((dzL L).map λs=>sqD s.1).Nodup/\(dzL L).length=L.length:=by
 have ll:(dzL L).length=L.length:=by unfold dzL;simp;lia
 have em:(dzL L).map (λs=>sqD s.1)=L.map λs=>sqD s.1:=by
  unfold dzL
  have e:L=L.take (L.length-1)++[L.getD (L.length-1) AS]:=by
   have h:=dN (L.length-1) L;rw[dG<|by lia,show L.length-1+1=L.length by lia] at h
   conv=>lhs;rw[<-h]
   simp[bV,show L.length-1<L.length by lia]
  conv=>rhs;rw[e]
  rw[aX,aX];rfl
 refine⟨⟨by lia,by lia,λs hs=>?_⟩,by rw[em];exact nd,ll⟩
 rcases aV.mp hs with hs|hs
 ·obtain⟨h1,h2⟩:=st s<|dA hs;exact⟨h1,by lia,by lia⟩
 ·rw[aK.mp hs];exact⟨(st _ (getD_mem<|by lia)).1,(by decide:(1:Int)<=9),(by decide:(9:Int)<=9)⟩
def aOl:List D->R->Prop:=λds r=>∃ns p,p∈bX/\ds=[.scr ns,cP p]/\r=.own ((dzL<|dzN p ns 30).map skD)
abbrev aSj:List Str:=["_law_script","_law_size","_law_stock","_law_k","_law_step_here"]
set_option tactic.hygienic true in
theorem aGZ(F:FI K mg "_law_dear" aHJ)(zd:mg "range"=none)(zh:mg "len"=none)(GD:bF P w K mg base "_law_draw" 1 2 aEK)(GT:bF P w K mg base "_law_step" 2 2 aKy):bF P w K mg base "_law_dear" 3 2 aOl:=by
 refine cY (N:=aSj) (ps:=["_law_script","_law_size"]) F λf nd cdv A outer s H E hr ds r hl c=>?_
 obtain⟨ns,p,hp,rfl,rfl⟩:=c;have hu:=uN hr 4;refine aG<|rE 2 (lH (ds:=[]) aE<|bQ _) λl4=>?_;refine aG<|oR (ds:=iW 30 30) (λt=>[.val<|.scr ns,.val<|cP p,.own l4<|(dzN p ns t).map skD,.un,.un]) (λt=>[.val<|.scr ns,.val<|cP p,.own l4<|(dzN p ns t).map skD,.val (.int<|30+(t:Int)),.un]) (rR (m:=60) rfl zd bS bS ⟨by decide,by decide⟩ ⟨by decide,by decide⟩) (Le.refl _) (λt d hd=>?_) (λt d hd=>?_) ?_
 ·obtain⟨_,rfl⟩:=gC hd;exact pgN 3
 ·obtain⟨ht,rfl⟩:=gC hd;have ll:=(aCh hp ns t).1;refine aG<|gG (d:=sqD<|stE p (gI ns<|30+t)) 4 (pdc GT hr (aA (pdc GD hr (aA (pdv 0)<|aA (PEd.ic (pdv 3)<|by lia) aE) ⟨ns,30+t,rfl,by lia,rfl⟩)<|aA (pdv 1) aE) ⟨_,p,hp,rfl,rfl⟩) ?_;have eN:dzN p ns (t+1)=if((dzN p ns t).map skD |>.map yA).any (λz=>deq z (sqD<|stE p (gI ns<|30+t))) then dzN p ns t else if(dzN p ns t).length<8 then dzN p ns t++[(stE p (gI ns<|30+t),1)] else dzN p ns t:=rfl
  rw[eN];generalize dzN p ns t=L at *;generalize stE p (gI ns<|30+t)=q;have nd2:(["_law_one","_law_price"]:List Str).Nodup:=by decide+kernel
  have plc:plL ((L.map skD).map yA)=true/\lN ((L.map skD).map yA)<=1:=by rw[aY];exact⟨wH (λs:SK=>yA<|skD s) (λs=>aLg s.1) _,tZ (λs:SK=>yA<|skD s) 1 (λs=>vX<|aPu s.1) _⟩
  have ef:((L.map skD).filter λ_=>true).map yA=(L.map skD).map yA:=by rw[cR.mpr λ_ _=>rfl]
  refine aR<|fX (PWd.pt<|qS (PTd.lend 2 rfl (aOu rfl) (aCN (pdv 4) (PEd.val (PEd.cast (lS (N:=["_law_one","_law_price"]) (M:=aSj) (cap:=[none,none]) (sc:=aN aHJ) (Tb:=λd=>twoT d []) (λ_=>true) yA (iV<|pdv 2) (by rw[aC];lia) rfl (by decide+kernel) rfl (by decide+kernel) rfl (λcl C fp s H d hd=>?_) (λd hd=>?_) (λcl C fp s H d hd=>.inl ⟨rfl,rfl⟩) λcl C fp s H d hd _=>?_)<|by rw[ef])) (aLg q) plc.1<|by have:=plc.2;show(A.deeper<|Ad "_law_dear" (aN aHJ) s.heap.objs.size f cdv).units+1+_<AR;lia)) λ_=>sL (pY aHG (PEd.ic (mS rfl zh (uB 2 rfl<|pv 2))<|by rw[aC]) bS<|fN _)) (λh=>?_) λh=>?_
  ·obtain⟨s,_,rfl⟩:=aS.mp hd;exact jK (js:=[0,1]) rfl (dI (pgn 0)<|dI (pgn 1) jA) rfl rfl
  ·obtain⟨s,_,rfl⟩:=aS.mp hd;exact⟨jb,jb,trivial⟩
  ·obtain⟨s,_,rfl⟩:=aS.mp hd;exact(pdv 0)
  ·rw[bU] at h;have h':((L.map skD).map yA).any (λz=>deq z<|sqD q)=false:=by simpa using h.1
   have h8:L.length<8:=by have:=of_decide_eq_true h.2;lia
   rw[h',zr bM,zt h8];refine aR<|mG (d:=skD (q,1)) 2 rfl (pv 2) (pdT (ds:=[sqD q,.int 1]) (aA (pdv 4)<|aA bS aE)) (by rw[aC];lia) ?_;refine⟨ja,ja,.inr ?_,jb,jb,trivial⟩;rw[aX];rfl
  ·have e0:(if((L.map skD).map yA).any (λz=>deq z<|sqD q)=true then L else if L.length<8 then L++[(q,1)] else L)=L:=by
    split
    ·rfl
    ·rename_i h1;refine zr λh2=>?_
     rw[vQ.mpr h1,decide_eq_true<|by lia] at h;cases h
   rw[e0];exact eA ⟨ja,ja,ja,jb,jb,trivial⟩
 ·rw[fV];obtain⟨l8,l0,_,_⟩:=aCh hp ns 30;have l0:=l0 (by decide);generalize dzN p ns 30=L at l8 l0
  have sk1:atI (L.map skD) (-1)=some (skD<|L.getD (L.length-1) AS):=by
   have e:ixN (L.map skD).length (-1)=some (L.length-1):=by unfold ixN;rw[zr<|by decide,aC,zt<|by lia];refine congrArg some ?_;lia
   unfold atI;rw[e];exact aEs<|by lia
  have ec:cutD (L.map skD) none (some (-1))=(L.take<|L.length-1).map skD:=by rw[aCD,aC,fR]
  have e9:(dzL L).map skD=(L.take<|L.length-1).map skD++[skD ((L.getD (L.length-1) AS).1,9)]:=by unfold dzL;rw[aX];rfl
  rw[e9];refine iC 2 rfl ?_;exact aR<|iU (wK (PEd.bor<|PEd.val (PEd.cast (aEJ (ol:=none) (oh:=some (-1)) (PEd.bor<|pdv 2) trivial<|aEO bS)<|by rw[ec])) (PEd.bor<|PEd.val (pdL (ds:=[skD ((L.getD (L.length-1) AS).1,9)])<|aA (pdT (ds:=[sqD (L.getD (L.length-1) AS).1,.int 9]) (aA (pdx (n:=0) (ds:=[sqD (L.getD (L.length-1) AS).1,.int (L.getD (L.length-1) AS).2])<|aMT (i:= -1) (PEd.bor<|pdv 2) (aEO bS) sk1 λ_ _=>rfl)<|aA bS aE)) aE))<|by rw[aC,cE];show _+1<=10000;lia)
def aEb(F:FI K mg "_law_piece" aSs)(xk:aQi K mg CN)(GP:CalleeE [.none] P w K mg base "piece_for" 9 6 aLm/\fS P w K mg base "piece_for" 9 6 aLh (.ref CN) [] []):bF P w K mg base "_law_piece" 10 6 aJH:=by
 refine cY (N:=["_law_size","_law_stock","_law_row_here","_law_place","_law_many","_law_looked","_law_piece_here","_law_great"]) (ps:=["_law_size","_law_stock","_law_row_here","_law_place","_law_many","_law_looked"]) F λf nd cdv A outer s H E hr ds r hl c=>?_
 obtain⟨p,L,row,pl,mn,o,d,g,hc,rfl,rfl⟩:=c;refine aG<|gG 6 fD ?_;refine aG<|gG 7 aEk ?_
 rcases hc with⟨I,rfl,rfl⟩|⟨I,rfl,rfl⟩
 ·refine aG<|aCz (aR<|gG 6 (pdc GP.1.full hr (aA (pdv 0)<|aA (pdv 1) (aA (pdv 2)<|aA (pdv 3) (aA (pdv 4)<|aA (pdv 5) aE))) ⟨p,L,row,pl,mn,o,I,rfl,rfl⟩) ?_);exact aR (iU<|pdT (ds:=[pfD (pcQ p L row pl mn<|bxQ p.2.toNat o),.bl false]) (aA (pdv 6)<|aA (pdv 7) aE))
 ·refine aG (aIF rfl xk.nw.1 xk.nw.2 (λξ pn F0 tk=>?_) λa pn=>?_)
  ·exact aR<|oA 6 nd rfl jb (aJq (ds:=[cP p,lK L,tN row,.int<|pl,.int<|mn,lkD o]) GP.2 (aFZ rfl) hr rfl (aA (pdv 0)<|aA (pdv 1) (aA (pdv 2)<|aA (pdv 3) (aA (pdv 4)<|aA (pdv 5) aE))) (λ_=>RepL.nil) ⟨p,L,row,pl,mn,o,I,rfl⟩ rfl<|Takes.o tk)
  ·refine aR<|gG 7 aEk ?_;exact aR (iU<|pdT (ds:=[.non,.bl true]) (aA (pdv 6)<|aA (pdv 7) aE))
theorem aDH(F:FI K mg "_law_first" aRU)(zd:mg "range"=none)(zh:mg "len"=none)(zo:mg "min"=none)(GP:bF P w K mg base "_law_piece" 10 6 aJH):bF P w K mg base "_law_first" 11 5 aET:=by
 refine cY (N:=["_law_size","_law_stock","_law_row_here","_law_looked","_law_width","_law_many","_law_place","_law_piece_here","_law_great"]) (ps:=["_law_size","_law_stock","_law_row_here","_law_looked","_law_width"]) F λf nd cdv A outer s H E hr ds r hl c=>?_
 obtain⟨p,L,row,o,w,I,hw,rfl,rfl⟩:=c
 have rl:row.length<=100:=by have:=I.rl;lia
 have em:(if(row.length:Int)<(w:Int) then(row.length:Int) else(w:Int))=((min w row.length:Nat):Int):=by split<;>lia
 have ew:(((min w row.length:Nat):Int)+1-1).toNat=min w row.length:=by lia
 have el:(bA row).length=row.length:=aC _;refine aG<|iF (λm sd=>(∀j,j<m->fzM p L row (bxQ p.2.toNat o) j=none)/\sd=(s4 p L row o [.val<|.int (w:Int),.un,.un,.un,.un])) (rR rfl zd bS (fO fW (PEd.ic (aNc rfl zo (pdv 4) (PEd.ic (sE rfl zh<|pdv 2)<|by rw[el])) em) bS) ⟨by decide,by decide⟩ ⟨by lia,by lia⟩) ⟨_,Le.refl _,λj hj=>absurd hj<|rA _,rfl⟩ (λm d sdk hd hk=>?_) λsdn hn=>?_
 ·obtain⟨hmw,rfl⟩:=gC hd;obtain⟨none1,rfl⟩:=hk;rw[ew] at hmw;have em:1+(m:Int)=((m+1:Nat):Int):=by lia
  rw[em];refine⟨_,pgN 5,?_⟩;have er:((row.length:Int)-((m+1:Nat):Int)+1)=((row.length-m:Nat):Int):=by lia
  refine aR<|iF (λt sd=>(∀j,j<t->fzP p L row (bxQ p.2.toNat o) m j=none)/\sd=(s4 p L row o [.val<|.int (w:Int),.val<|.int ((m+1:Nat):Int),.un,.un,.un])) (lZ rfl zd (PEd.ic (fO fW (fO qB (PEd.ic (sE rfl zh<|pdv 2)<|by rw[el])<|pdv 5) bS) er)<|by lia) ⟨_,Le.refl _,λj hj=>absurd hj<|rA _,rfl⟩ (λt d sdk hd hk=>?_) λsdn hn=>?_
  ·obtain⟨ht,rfl⟩:=gC hd;obtain⟨none2,rfl⟩:=hk;rw[mQ];refine⟨_,pgN 6,?_⟩
   by_cases gr:500<(bkF p L (pwQ L row t<|m+1)).length
   ·have ef:fzQ p L (bxQ p.2.toNat o) w row=some none:=lU (by lia) none1 (lU ht none2<|by unfold fzP;rw[zt gr]);rw[ef];refine aG<|aBt (pdc GP hr (aA (pdv 0)<|aA (pdv 1) (aA (pdv 2)<|aA (pdv 6) (aA (pdv 5)<|aA (pdv 3) aE))) ⟨p,L,row,t,m+1,o,.non,true,.inr ⟨I.px (by lia) (by lia) gr,rfl,rfl⟩,rfl,rfl⟩) (jK (js:=[7,8]) rfl (dI (pgn 7)<|dI (pgn 8) jA) rfl rfl) ?_;exact aG<|oS (oV<|pdv 8) rfl (aR<|iU fE)
   refine aG<|aBt (pdc GP hr (aA (pdv 0)<|aA (pdv 1) (aA (pdv 2)<|aA (pdv 6) (aA (pdv 5)<|aA (pdv 3) aE))) ⟨p,L,row,t,m+1,o,_,false,.inl ⟨I.pc (by lia) (by lia) gr,rfl,rfl⟩,rfl,rfl⟩) (jK (js:=[7,8]) (ds:=[pfD (pcQ p L row t (m+1)<|bxQ p.2.toNat o),.bl false]) rfl (dI (pgn 7)<|dI (pgn 8) jA) rfl rfl) ?_;refine yD (oV<|pdv 8) ?_;cases hq:pcQ p L row t (m+1) (bxQ p.2.toNat o) with
   |none=>
    refine aR (mY (k:=false) (PTd.cast (iX (d:=.non) (pdv 7) fD) rfl) rfl<|eA ⟨(s4 p L row o [.val<|.int (w:Int),.val<|.int ((m+1:Nat):Int),.un,.un,.un]),⟨ja,ja,ja,ja,ja,ja,jb,jb,jb,trivial⟩,λj hj=>?_,rfl⟩)
    by_cases e:j<t
    ·exact none2 j e
    ·have:j=t:=by lia
     subst this;unfold fzP;rw[zr gr,hq];rfl
   |some e=>have ef:fzQ p L (bxQ p.2.toNat o) w row=some (some (t,m+1,e.2.1)):=lU (by lia) none1 (lU ht none2<|by unfold fzP;rw[zr gr,hq];rfl);rw[ef];exact aR<|oS (k:=true) (PTd.cast (iX (d:=tN e.2.1) (pdv 7) fD) rfl) rfl (aR<|iU (pdT (ds:=[.int (t:Int),.int ((m+1:Nat):Int),tN e.2.1])<|aA (pdv 6) (aA (pdv 5)<|aA (pdv 7) aE)))
  ·obtain⟨none2,rfl⟩:=hn;rw[fV] at none2;refine⟨(s4 p L row o [.val<|.int (w:Int),.un,.un,.un,.un]),⟨ja,ja,ja,ja,ja,jb,ja,ja,ja,trivial⟩,λj hj=>?_,rfl⟩
   by_cases e:j<m
   ·exact none1 j e
   ·have:j=m:=by lia
    subst this;exact qJ none2
 ·obtain⟨none1,rfl⟩:=hn;rw[fV,ew] at none1
  rw [show fzQ p L (bxQ p.2.toNat o) w row=none from qJ fun j hj=>by
   by_cases e:j<row.length
   ·exact none1 j<|by lia
   ·unfold fzM;rw[show row.length-j=0 by lia]
    rfl]
  exact aR<|iU fD
def aKw(st:BJ):Expr:=match(cF st).getD 2 (.Pass ⟨0,0,0,0⟩) with
 |.Try (.Assign _ e _::_) _ _ _ _=>e
 |_=> .Constant .none 0 ⟨0,0,0,0⟩
abbrev aKU:List Str:=["_law_ask","_law_size","_law_stock","_law_row_here","_law_looked","_law_told","_law_found","error"]
theorem aMG(F:FI K mg "_law_word" sWd)(zi:mg "isinstance"=none)(zn:mg "int"=none)(xk:aSm K mg CG CL CT CI CW CC)(GI:CalleeE [.int 2 tk] P w K mg base "is_cheap" 10 5 aLc/\fS P w K mg base "is_cheap" 10 5 aLf (.ref CG) [] [])(GM:CalleeE [.int 2 tk2] P w K mg base "made_cheaper" 11 5 aLn/\fS P w K mg base "made_cheaper" 11 5 aLj (.ref CG) [] []):bF P w K mg base "_law_word" 12 5 (aHC mg):=by
 refine cY (N:=aKU) (ps:=["_law_ask","_law_size","_law_stock","_law_row_here","_law_looked"]) F λf nd cdv A outer s H E hr ds r hl c=>?_
 obtain⟨fa,p,L,row,o,I,hf,rfl⟩:=c;have hr10:=hr.mono (show 10<=11 by decide);have hu:=uN hr 8;have hd2:∀d:D,dep d<=2->(A.deeper<|Ad "_law_word" (aN sWd) s.heap.objs.size f cdv).units+dep d+1<AR:=λd h=>by lia
 refine aG<|gG 5 fD ?_;refine aG<|gG 6 (PEd.val (lH (ds:=[]) aE<|bQ _)) ?_
 have good:∀d:D,PEd ((gO CX0 P w K mg base aKU "_law_word" (aN sWd) f cdv A outer s H E).nox) [.val<|fnD fa,.val<|cP p,.val<|lK L,.val<|tN row,.val<|lkD o,.val .non,.val<|.lst [],.un] (aKw sWd) (.val d)->PSd ((gO CX0 P w K mg base aKU "_law_word" (aN sWd) f cdv A outer s H E).nox) [.val<|fnD fa,.val<|cP p,.val<|lK L,.val<|tN row,.val<|lkD o,.val .non,.val<|.lst [],.un] ((cF sWd).drop 2) {nx:=λ_=>R.val d=.val .non,rt:=λr'=>r'=R.val d}:=λd h=>by refine aG (aCz (aR<|gG 5 h ?_));exact aG (oS (PTd.cast (aFG (pdv 6) (PEd.val (lH (ds:=[]) aE<|bQ _)) trivial trivial (.inr ⟨rfl,rfl⟩) rfl rfl (hd2 _<|by decide)) rfl) rfl<|aR (iU<|pdv 5))
 have bad:(∀ (ξ:BD->BE->Prop) (pn:List (BF×BI)) (F0:Hp),Takes {((gO CX0 P w K mg base aKU "_law_word" (aN sWd) f cdv A outer s H E).nox) with H₀:=F0,B₀:=F0,hB:=λ_ _ e _=>e,xe:=ξ,pn:=pn} (.ref CG) [.val<|fnD fa,.val<|cP p,.val<|lK L,.val<|tN row,.val<|lkD o,.val .non,.val<|.lst [],.un]->PEx {((gO CX0 P w K mg base aKU "_law_word" (aN sWd) f cdv A outer s H E).nox) with H₀:=F0,B₀:=F0,hB:=λ_ _ e _=>e,xe:=ξ,pn:=pn} [.val<|fnD fa,.val<|cP p,.val<|lK L,.val<|tN row,.val<|lkD o,.val .non,.val<|.lst [],.un] (aKw sWd))->PSd ((gO CX0 P w K mg base aKU "_law_word" (aN sWd) f cdv A outer s H E).nox) [.val<|fnD fa,.val<|cP p,.val<|lK L,.val<|tN row,.val<|lkD o,.val .non,.val<|.lst [],.un] ((cF sWd).drop 2) (rtE (R.val<|.str "great")):=λh=>by
  refine aG<|aHY 7 nd rfl rfl rfl xk.le xk.em (λξ pn F0 tk=>?_) λa pn=>?_
  ·exact aR (oA 5 nd rfl jb<|h ξ pn F0 tk)
  ·refine aG<|gG 6 (PEd.val (pdL (ds:=[.bl true,.bl true,.bl true])<|aA (pZ 7 xk.xc rfl zi rfl xk.tg xk.kg rfl<|pv 7) (aA (aGq 7 xk.xc rfl zi rfl xk.ve aMr xk.kv rfl<|pv 7)<|aA (xF (k:=false) (pZ 7 xk.xc rfl zi rfl xk.nt xk.kt rfl<|pv 7)) aE))) ?_;refine aG<|gG (d:=.lst [.bl true,.bl true,.bl true,.bl true,.bl true]) 6 (PEd.val (wK (d1:=[.bl true,.bl true,.bl true]) (d2:=[.bl true,.bl true]) (PEd.bor<|pdv 6) (PEd.bor (PEd.val<|pdL (ds:=[.bl true,.bl true]) (aA (xF (k:=false) (pZ 7 xk.xc rfl zi rfl xk.ns xk.ki rfl<|pv 7))<|aA (xF (k:=false) (pZ 7 xk.xc rfl zi rfl xk.nw xk.kw rfl<|pv 7)) aE)))<|fP rfl)) ?_;refine aR<|gG (d:=.lst [.bl true,.bl true,.bl true,.bl true,.bl true,.bl true]) 6 (PEd.val (wK (d1:=[.bl true,.bl true,.bl true,.bl true,.bl true]) (d2:=[.bl true]) (PEd.bor<|pdv 6) (PEd.bor<|PEd.val (pdL (ds:=[.bl true])<|aA (xF (k:=false) (pZ 7 xk.xc rfl zi rfl xk.nc xk.kc rfl<|pv 7)) aE))<|fP rfl)) ?_;refine yD (PTd.cast (aFG (ra:=.val<|.lst [.bl true,.bl true,.bl true,.bl true,.bl true,.bl true]) (rb:=.val<|.lst []) (pdv 6) (PEd.val (lH (ds:=[]) aE<|bQ _)) trivial trivial (.inr ⟨rfl,rfl⟩) rfl rfl (hd2 _<|by decide)) rfl) ?_;refine aR (iU<|kA (i:=1) (ds:=[.str "other",.str "great"]) (PEd.bor (PEd.val<|pdL (ds:=[.str "other",.str "great"]) (aA fE<|aA fE aE))) (PEd.ic (qT (k:=true) rfl zn<|PEd.cast (aKb (ra:=.val<|.lst [.bl true,.bl true,.bl true,.bl true,.bl true,.bl true]) (rb:=.val<|.lst [.bl true,.bl true,.bl true,.bl true,.bl true,.bl true]) (pdv 6) (PEd.cast (PEd.val (aFB (ds:=[.bl true]) (k:=6) (PEd.bor<|PEd.val (pdL (ds:=[.bl true])<|aA aEk aE)) bS (by decide)<|by decide)) rfl) trivial trivial (.inr ⟨rfl,rfl⟩) rfl rfl (hd2 _<|by decide)) rfl) rfl) (by decide) rfl λ_ _=>rfl)
 rcases hf with⟨hf,rfl⟩|⟨hf,rfl⟩
 ·have ok:∀x,fzQ p L (bxQ p.2.toNat o) 1 row=kZ some x->PSd ((gO CX0 P w K mg base aKU "_law_word" (aN sWd) f cdv A outer s H E).nox) [.val<|fnD fa,.val<|cP p,.val<|lK L,.val<|tN row,.val<|lkD o,.val .non,.val<|.lst [],.un] ((cF sWd).drop 2) (rtE (R.val<|.bl x.isNone)):=λx hx=>good _ (aCR (ds:=[cP p,lK L,tN row,lkD o,.int ((1:Nat):Int)]) 0 rfl rfl (.inl rfl) hf GI.1.full hr10 (aA (pdv 1) (aA (pdv 2)<|aA (pdv 3) (aA (pdv 4)<|aA bS aE))) ⟨p,L,row,o,1,x,I.I,by decide,hx,rfl,rfl⟩ trivial rfl)
  match h:fzQ p L (bxQ p.2.toNat o) 1 row with
  |none=>exact ok none h
  |some (some c)=>exact ok (some c) h
  |some none=>exact bad λξ pn F0 tk=>aCo (ds:=[cP p,lK L,tN row,lkD o,.int ((1:Nat):Int)]) 0 rfl rfl (.inl rfl) hf GI.2 hr10 (aA (pdv 1) (aA (pdv 2)<|aA (pdv 3) (aA (pdv 4)<|aA bS aE))) ⟨p,L,row,o,1,I.I,by decide,h,rfl⟩ rfl tk
 ·cases h:(mzQ p L (bxQ p.2.toNat o) 1 row).2.2 with
  |false=>unfold mwD;rw[h,zr bM];exact good _ (PEd.valP<|aCR (r:=mzR<|mzQ p L (bxQ p.2.toNat o) 1 row) (ds:=[cP p,lK L,tN row,lkD o,.int ((1:Nat):Int)]) 0 rfl rfl (.inl rfl) hf GM.1.full hr (aA (pdv 1) (aA (pdv 2)<|aA (pdv 3) (aA (pdv 4)<|aA bS aE))) ⟨p,L,row,o,1,I,h,rfl,rfl⟩ trivial rfl)
  |true=>unfold mwD;rw[h,zt rfl];exact bad λξ pn F0 tk=>aCo (ds:=[cP p,lK L,tN row,lkD o,.int ((1:Nat):Int)]) 0 rfl rfl (.inl rfl) hf GM.2 hr (aA (pdv 1) (aA (pdv 2)<|aA (pdv 3) (aA (pdv 4)<|aA bS aE))) ⟨p,L,row,o,1,I,h,rfl⟩ rfl tk
def aRb(h:0<L.length)(row:List Nat):RowOk L (row.map λt=>t%L.length):=λt ht=>by obtain⟨x,_,rfl⟩:=aS.mp ht;exact Nat.mod_lt _ h
def tY(l:List Nat):pl (.tup<|bA l)=true:=by
 induction l with
 |nil=>rfl
 |cons a l ih=>exact ih
def zK(l:List Nat):dep (.tup<|bA l)=1:=by
 show lN (l.map _)+1=1
 induction l with
 |nil=>rfl
 |cons a l ih=>show max 0 (lN<|l.map _)+1=1;omega
def aRA(c:Ch):pl (chD c)=true:=by show(true&&(true&&(pl (.tup<|bA c.2.2)&&true)))=true;rw[tY];rfl
def aPp(c:Ch):dep (chD c)<=2:=by show max 0 (max 0<|max (dep (.tup<|bA c.2.2)) 0)+1<=2;rw[zK];decide
def aOM(cs:List Ch):pl (.lst<|cs.map chD)=true:=wH chD aRA cs
def aLz(cs:List Ch):dep (.lst<|cs.map chD)<=3:=aNQ<|tZ chD 2 aPp cs
def aLd(f:Mz):pl (mzD f)=true:=by show(pl (.tup<|bA f.1)&&(pl (.lst<|f.2.1.map chD)&&true))=true;rw[tY,aOM];rfl
theorem aPX(f:Mz):dep (mzD f)<=4:=by show max (dep (.tup<|bA f.1)) (max (dep (.lst<|f.2.1.map chD)) 0)+1<=4;have:=aLz f.2.1;rw[zK];lia
def pow4:∀b,b<4->([.int 1,.int 2,.int 4,.int 8]:List D)[b]? =some (.int ((2^b:Nat):Int)):=by
 intro b hb
 match b,hb with
 |0,_=>rfl
 |1,_=>rfl
 |2,_=>rfl
 |3,_=>rfl
theorem aOX(c:Int):(aKT c).2.toNat<=4:=by
 have h:(c%8).toNat<8:=by lia
 unfold aKT;generalize (c%8).toNat=i at h
 match i,h with
 |0,_=>decide
 |1,_=>decide
 |2,_=>decide
 |3,_=>decide
 |4,_=>decide
 |5,_=>decide
 |6,_=>decide
 |7,_=>decide
abbrev nl26:List Str:=["_law_script","_law_size","_law_stock","_law_row_here","_law_place","_law_looked","_law_handed","_law_first_here","_law_found","_law_here","_law_changes"]
set_option maxHeartbeats 2000000 in
theorem aPg(F:Fun K "law" "law" nN f fd)(zf:mg "tuple"=none)(zh:mg "len"=none)(ze:mg "isinstance"=none)(zm:mg "bool"=none)(zj:mg "list"=none)(zn:mg "int"=none)(zd:mg "range"=none)(GD:bF P w K mg base "_law_draw" 1 2 aEK)(GR:bF P w K mg base "_law_row" 2 3 aRY)(GE:bF P w K mg base "_law_dear" 3 2 aOl)(GL:bF P w K mg base "_law_first" 11 5 aET)(GW:bF P w K mg base "_law_word" 12 5 (aHC mg))(GT:CalleeE [.none] P w K mg base "gone_through" 8 5 aOs)(GI:CalleeE [.int 2 tk] P w K mg base "is_cheap" 10 5 aLc/\fS P w K mg base "is_cheap" 10 5 aLf (.ref CN) [] [])(GM:CalleeE [.int 2 tk2] P w K mg base "made_cheaper" 11 5 aLn/\fS P w K mg base "made_cheaper" 11 5 aLj (.ref CN) [] []):FnOk P w K mg base CX0 13 f fd ["_law_script"] (spC K 1 aQC):=by
 have nd:nl26.Nodup:=by decide+kernel
 have nd2:(["_law_number","_law_stock"]:List Str).Nodup:=by decide+kernel
 have nd3:(["_law_box","_law_script"]:List Str).Nodup:=by decide+kernel
 refine aKz (N:=nl26) (ps:=["_law_script"]) (k:=12) F ⟨rfl,rfl,rfl,nd,rfl,by decide+kernel,by decide+kernel⟩ λcdv A outer s H E hr ds r hl c=>?_
 obtain⟨ns,rfl,hns,rfl⟩:=c;have hr10:=hr.mono (show 10<=12 by decide);have hr11:=hr.mono (show 11<=12 by decide);have hu:=uN hr 8;have hu1:=uN hr 1;have hd5:∀d:D,dep d<=5->(A.deeper<|Ad "law" (aN nN) s.heap.objs.size f cdv).units+dep d+1<AR:=λd h=>by lia
 have draw:∀ {sd:List Slot}{p1 p2 p3 p4:Pos}{j1:Nat} (k:Nat),k<=1000->sd[0]? =some (.val<|.scr ns)->PEd ((gO CX0 P w K mg base nl26 "law" (aN nN) f cdv A outer s H E).nox) sd (.Call (.Name "_law_draw" p1) [.Name "_law_script" p2, .Constant (.int (k:Int)) j1 p3] [] p4) (.val (.int<|gI ns k)):=λk hk hs=>pdc (ds:=[.scr ns,.int (k:Int)]) GD hr (aA (oU 0 hs<|pv 0)<|aA bS aE) ⟨ns,k,rfl,hk,rfl⟩
 have ndq:∀d:D,pl d=true->(!deq d d)=false:=λd h=>by rw[zI d h];rfl
 obtain⟨fI,_,_,aI,_⟩:=GI.1.ex;obtain⟨fM,_,_,aM,_⟩:=GM.1.ex
 have fin:∀ (p:Int×Int) (L:List SK) (row:List Nat) (o:Option (List Nat)),MzI p L row o 1->PSd ((gO CX0 P w K mg base nl26 "law" (aN nN) f cdv A outer s H E).nox) [.val<|.scr ns,.val<|cP p,.val<|lK L,.val (.tup<|bA row),.un,.val<|lkD o,.un,.un,.un,.un,.un] ((cF nN).drop 8) (rtE (R.val<|.bl true)):=λp L row o I=>by
  have plS:pl (lK L)=true:=wH skD (λs=>(aOc s).1) L;have dpS:dep (lK L)<=3:=aNQ<|tZ skD 2 (λs=>(aOc s).2) L;have S0:=MzSt.start I.I I.pr 1;have cL:∀ {r:List Nat},McZ p L r o->aET [cP p,lK L,.tup<|bA r,lkD o,.int ((1:Nat):Int)] (.val (zzD<|fzQ p L (bxQ p.2.toNat o) 1 r)):=λ{r} h=>⟨p,L,r,o,1,h,by decide,rfl,rfl⟩
  have cI:aHC mg [fnD fI,cP p,lK L,.tup<|bA row,lkD o] (.val (tzD<|fzQ p L (bxQ p.2.toNat o) 1 row)):=⟨fI,p,L,row,o,I,.inl ⟨aI,rfl⟩,rfl⟩;have cM:aHC mg [fnD fM,cP p,lK L,.tup<|bA row,lkD o] (.val (mwD<|mzQ p L (bxQ p.2.toNat o) 1 row)):=⟨fM,p,L,row,o,I,.inr ⟨aM,rfl⟩,rfl⟩;generalize mzQ p L (bxQ p.2.toNat o) 1 row=fn at S0 cM;refine aG<|gG (d:=lK L) 6 (PEd.val<|yM rfl zj (PEd.bor<|pdv 2)) ?_;refine aG<|gG (d:=zzD<|fzQ p L (bxQ p.2.toNat o) 1 row) 7 (pdc (ds:=[cP p,lK L,.tup<|bA row,lkD o,.int ((1:Nat):Int)]) GL hr11 (aA (pdv 1) (aA (pdv 2)<|aA (pdv 3) (aA (pdv 5)<|aA bS aE)))<|cL I.I) ?_;refine aG<|gG (d:=tzD<|fzQ p L (bxQ p.2.toNat o) 1 row) 8 (pdc (ds:=[fnD fI,cP p,lK L,.tup<|bA row,lkD o]) GW hr (aA (aCq rfl aI) (aA (pdv 1)<|aA (pdv 6) (aA (pdv 3)<|aA (pdv 5) aE))) cI) ?_
  have last:∀ (r:List Nat) (cs:List Ch) (d8:D) (l:BF) (z:Option (Option Ch)),(z=none/\fn=(r,cs,false)\/z=some none/\fn=(r,cs,true))->r=cs.foldl wcQ row->aQR p L o row cs->cs.length<=31->PSd ((gO CX0 P w K mg base nl26 "law" (aN nN) f cdv A outer s H E).nox) ([.val<|.scr ns,.val<|cP p,.val<|lK L,.val (.tup<|bA row),.un,.val<|lkD o,.val<|lK L,.val<|zzD z,.val d8,.val (.tup<|bA r),.own l<|cs.map chD]) ((cF nN).drop 15) (rtE (R.val<|.bl true)):=λr cs d8 l z hz hfo hgt hcl=>by
   refine iC 10 rfl ?_;refine aG<|gG (d:=mwD fn) 8 (pdc (ds:=[fnD fM,cP p,lK L,.tup<|bA row,lkD o]) GW hr (aA (aCq rfl aM) (aA (pdv 1)<|aA (pdv 6) (aA (pdv 3)<|aA (pdv 5) aE))) cM) ?_
   have tail:∀d8 z',PSd ((gO CX0 P w K mg base nl26 "law" (aN nN) f cdv A outer s H E).nox) ([.val<|.scr ns,.val<|cP p,.val<|lK L,.val (.tup<|bA row),.un,.val<|lkD o,.val<|lK L,.val z',.val d8,.val (.tup<|bA r),.val (.lst<|cs.map chD)]) ((cF nN).drop 17) (rtE (R.val<|.bl true)):=λd8 z'=>by refine yD (PTd.cast (tQ (ra:=.val (.tup<|bA r)) (rb:=.val (.tup<|bA r)) (PEd.cast (pdc (ds:=[cP p,lK L,.tup<|bA row,.lst<|cs.map chD,lkD o]) GT.full hr (aA (pdv 1) (aA (pdv 6)<|aA (pdv 3) (aA (pdv 10)<|aA (pdv 5) aE))) ⟨p,L,o,row,cs,I.I.hp,I.I.st,I.I.lk,hgt,by lia,rfl,rfl⟩)<|by rw[<-hfo]) (pdv 9) trivial trivial (.inl ⟨rfl,rfl⟩) (tY _) (tY _) (hd5 _<|by rw[show dep (R.val (D.tup<|bA r)).toD=1 from zK r];decide)) (ndq _<|tY r)) ?_;have z0:McZ p L [] o:=⟨I.I.hp,I.I.st,I.I.nd,(λ_ h=>nomatch h),bQ _,I.I.lk⟩;refine aR<|eE (PEd.cast (xC (k:=true) (j:=true) (PEd.cast (aPc (p:=true) (q:=true) (aCx (ds:=[cP p,lK L,.tup [],lkD o]) (dx:=[.int ((2:Nat):Int)]) (vx:=[.int 2]) (r:=.val<|.bl true) GI.1 hr10 rfl (aA (pdv 1)<|aA (pdv 6) (aA (xP (ds:=[]) aE<|bQ _)<|aA (pdv 5) aE)) (.cons ⟨tk,rfl⟩ .nil) (λF=>.one<|by simp only[Rep];rfl) ⟨p,L,[],o,2,none,z0,by decide,aKr _ _ _ _,rfl,rfl⟩ trivial rfl) aEk) rfl) λ_=>aBS<|PEd.cast (aKb (ra:=.val<|.tup [.tup [],.lst []]) (rb:=.val<|.tup [.tup [],.lst []]) (PEd.valP<|aCx (ds:=[cP p,lK L,.tup [],lkD o]) (dx:=[.int ((2:Nat):Int)]) (vx:=[.int 2]) (r:=.pr (.tup []) []) GM.1 hr11 rfl (aA (pdv 1)<|aA (pdv 6) (aA (xP (ds:=[]) aE<|bQ _)<|aA (pdv 5) aE)) (.cons ⟨tk2,rfl⟩ .nil) (λF=>.one<|by simp only[Rep];rfl) ⟨p,L,[],o,2,⟨z0,(show(0:Int)<=30 by decide),by decide⟩,by rw[aJD],rfl,by rw[aJD];rfl⟩ trivial rfl) (pdT (ds:=[.tup [],.lst []]) (aA (xP (ds:=[]) aE<|bQ _)<|aA (PEd.val (lH (ds:=[]) aE<|bQ _)) aE)) trivial trivial (.inl ⟨rfl,rfl⟩) rfl rfl (hd5 _<|by decide)) rfl) rfl) trivial rfl
   rcases hz with⟨rfl,rfl⟩|⟨rfl,rfl⟩
   ·have em:mwD (r,cs,false)=.tup [.tup<|bA r,.lst<|cs.map chD]:=rfl;rw[em];have dpm:=aPX (r,cs,false);exact yD (PWd.pt<|uS (k:=false) (j:=false) (PTd.cast (tQ (ra:=.val<|mzD (r,cs,false)) (rb:=.val<|mzD (r,cs,false)) (pdv 8) (kA (i:=0) (ds:=[mzD (r,cs,false),.str "great"]) (PEd.bor (PEd.val<|pdL (ds:=[mzD (r,cs,false),.str "great"]) (aA (pdT (ds:=[.tup<|bA r,.lst<|cs.map chD]) (aA (pdv 9)<|aA (pdv 10) aE))<|aA fE aE))) (PEd.ic (qT (k:=false) rfl zn<|aCd (x:=.non) (y:=.str "great") (pdv 7) fE rfl rfl rfl rfl) rfl) (by decide) rfl λ_ _=>rfl) trivial trivial (.inl ⟨rfl,rfl⟩) (aLd _) (aLd _) (hd5 _<|by show dep (mzD (r,cs,false))<=5;lia)) (ndq _<|aLd (r,cs,false))) λ_=>qU (PTd.cast (tQ (ra:=.val<|lK L) (rb:=.val<|lK L) (pdv 6) (pdv 2) trivial trivial (.inr ⟨rfl,rfl⟩) plS plS (hd5 _<|by show dep (lK L)<=5;lia))<|ndq _ plS))<|tail _ _
   ·have em:mwD (r,cs,true)=.str "great":=rfl;rw[em];exact yD (PWd.pt<|uS (k:=false) (j:=false) (wL (x:=.str "great") (y:=.str "great") (pdv 8) (kA (i:=1) (ds:=[mzD (r,cs,false),.str "great"]) (PEd.bor (PEd.val<|pdL (ds:=[mzD (r,cs,false),.str "great"]) (aA (pdT (ds:=[.tup<|bA r,.lst<|cs.map chD]) (aA (pdv 9)<|aA (pdv 10) aE))<|aA fE aE))) (PEd.ic (qT (k:=true) rfl zn (aCd (x:=.str "great") (y:=.str "great") (pdv 7) fE rfl rfl rfl<|decide_eq_true rfl)) rfl) (by decide) rfl λ_ _=>rfl) rfl rfl rfl<|by rw[decide_eq_true rfl];rfl) λ_=>qU (PTd.cast (tQ (ra:=.val<|lK L) (rb:=.val<|lK L) (pdv 6) (pdv 2) trivial trivial (.inr ⟨rfl,rfl⟩) plS plS (hd5 _<|by show dep (lK L)<=5;lia))<|ndq _ plS))<|tail _ _
  have mid:∀d8,PSd ((gO CX0 P w K mg base nl26 "law" (aN nN) f cdv A outer s H E).nox) ([.val<|.scr ns,.val<|cP p,.val<|lK L,.val (.tup<|bA row),.un,.val<|lkD o,.val<|lK L,.val (zzD<|fzQ p L (bxQ p.2.toNat o) 1 row),.val d8,.un,.un]) ((cF nN).drop 12) (rtE (R.val<|.bl true)):=λd8=>by
   refine aG<|gG (d:=.tup<|bA row) 9 (pdv 3) ?_;refine aG<|rE (ds:=[]) 10 (lH (ds:=[]) aE<|bQ _) λl10=>?_;refine aG<|vH (λn sd=>∃r cs,MzSt p L o 1 row fn n r cs/\sd=[.val<|.scr ns,.val<|cP p,.val<|lK L,.val (.tup<|bA row),.un,.val<|lkD o,.val<|lK L,.val (zzD<|fzQ p L (bxQ p.2.toNat o) 1 r),.val d8,.val (.tup<|bA r),.own l10<|cs.map chD]) ⟨31,_,Le.refl _,row,[],S0,rfl⟩ λn sdn hn=>?_;obtain⟨r,cs,S,rfl⟩:=hn;have le:=S.le
   match h:fzQ p L (bxQ p.2.toNat o) 1 r with
   |none=>exact⟨false,PWd.pt (qS (k:=false) (j:=false) (PTd.cast (iX (d:=.non) (pdv 7) fD) rfl) λh=>by cases h),λ_=>last r cs _ l10 none (.inl ⟨rfl,S.stop h⟩) S.fo S.gt<|by lia,λh=>by cases h⟩
   |some none=>exact⟨false,PWd.pt (qS (k:=true) (j:=false) (PTd.cast (iX (d:=.str "great") (pdv 7) fD) rfl) λ_=>sL (wL (x:=.str "great") (y:=.str "great") (pdv 7) fE rfl rfl rfl<|by rw[decide_eq_true rfl];rfl)),λ_=>last r cs _ l10 (some none) (.inr ⟨rfl,S.great h⟩) S.fo S.gt<|by lia,λh=>by cases h⟩
   |some (some c)=>
    refine⟨true,PWd.pt (qS (k:=true) (j:=true) (PTd.cast (iX (d:=chD c) (pdv 7) fD) rfl) λ_=>sL<|aJl (ds:=[.int (c.1:Int),.int (c.2.1:Int),.tup<|bA c.2.2]) hu1 (pdv 7) fE),(λh=>by cases h),λ_=>?_⟩;obtain⟨_,_,q2,_,q5,q6⟩:=aKW S.I h;have ec:c.2.1=1:=by lia
    have rl:=S.I.rl;obtain⟨m,hm,S2⟩:=S.next h;refine aG<|mG (d:=chD c) 10 rfl (pv 10) (pdv 7) (by rw[aC];lia) ?_;have l1:(bA<|r.take c.1).length<=30:=by unfold bA;rw[aC,cE];lia
    have l2:(bA (r.drop<|c.1+1)).length<=30:=by unfold bA;rw[aC,dY];lia
    have l3:(bA c.2.2).length<=300:=by unfold bA;rw[aC];exact q2
    have er:bA (r.take c.1)++bA c.2.2++bA (r.drop<|c.1+1)=bA (wcQ r c):=by unfold wcQ bA;rw[aX,aX,ec]
    refine aG<|gG (d:=.tup (bA<|wcQ r c)) 9 (PEd.cast (kS (d1:=bA (r.take c.1)++bA c.2.2) (d2:=bA (r.drop<|c.1+1)) (kS (d1:=bA<|r.take c.1) (d2:=bA c.2.2) (PEd.cast (uH (k:=c.1) (pdv 9) (pdx (n:=0) (ds:=[.int (c.1:Int),.int (c.2.1:Int),.tup<|bA c.2.2])<|pdv 7))<|by unfold bA;rw[fR]) (pdx (n:=2) (ds:=[.int (c.1:Int),.int (c.2.1:Int),.tup<|bA c.2.2])<|pdv 7)<|by lia) (PEd.cast (qD (k:=c.1+1) (pdv 9) (PEd.ic (fO fW (pdx (n:=0) (ds:=[.int (c.1:Int),.int (c.2.1:Int),.tup<|bA c.2.2])<|pdv 7) bS)<|by push_cast;rfl))<|by unfold bA;rw[gZ])<|by rw[aP];lia)<|by rw[er]) ?_;exact aR<|gG (d:=zzD (fzQ p L (bxQ p.2.toNat o) 1<|wcQ r c)) 7 (pdc (ds:=[cP p,lK L,.tup (bA<|wcQ r c),lkD o,.int ((1:Nat):Int)]) GL hr11 (aA (pdv 1) (aA (pdv 2)<|aA (pdv 9) (aA (pdv 5)<|aA bS aE)))<|cL S2.I) ⟨m,_,hm,Le.refl _,wcQ r c,cs++[c],S2,by rw[aX];rfl⟩
  clear cI cM last;generalize hz:fzQ p L (bxQ p.2.toNat o) 1 row=z at mid
  match z with
  |none=>exact yD (PWd.pt (uS (k:=false) (j:=false) (PTd.cast (tK (sY (d:=.bl true) rfl ze rfl zm PyProof.Rows.boot_bool (pdv 8) (λ_=>by simp)<|sT _ _)<|aKj (k:=true) (x:=.non) (y:=.str "great") (pdv 7) fE rfl rfl rfl rfl) rfl) λ_=>qU<|PTd.cast (tK (pdv 8)<|kA (i:=0) (ds:=[.bl true,.str "great"]) (PEd.bor (PEd.val<|pdL (ds:=[.bl true,.str "great"]) (aA (PEd.cast (vI (d:=.non) (pdv 7) fD) rfl)<|aA fE aE))) (PEd.ic (qT (k:=false) rfl zn<|aCd (x:=.non) (y:=.str "great") (pdv 7) fE rfl rfl rfl rfl) rfl) (by decide) rfl λ_ _=>rfl) rfl))<|mid _
  |some (some c)=>exact yD (PWd.pt (uS (k:=false) (j:=false) (PTd.cast (tK (sY (d:=.bl false) rfl ze rfl zm PyProof.Rows.boot_bool (pdv 8) (λ_=>by simp)<|sT _ _)<|aLS (ds:=[.int (c.1:Int),.int (c.2.1:Int),.tup<|bA c.2.2]) hu1 (pdv 7) fE) rfl) λ_=>qU<|PTd.cast (tK (pdv 8)<|kA (i:=0) (ds:=[.bl false,.str "great"]) (PEd.bor (PEd.val<|pdL (ds:=[.bl false,.str "great"]) (aA (PEd.cast (vI (d:=chD c) (pdv 7) fD) rfl)<|aA fE aE))) (PEd.ic (qT (k:=false) rfl zn<|aMe (ds:=[.int (c.1:Int),.int (c.2.1:Int),.tup<|bA c.2.2]) hu1 (pdv 7) fE) rfl) (by decide) rfl λ_ _=>rfl) rfl))<|mid _
  |some none=>exact yD (PWd.pt<|uS (k:=false) (j:=false) (PTd.cast (tK (sY (d:=.str "great") rfl ze rfl zm PyProof.Rows.boot_bool (pdv 8) (λ_=>by simp)<|sT _ _) (aKj (k:=false) (x:=.str "great") (y:=.str "great") (pdv 7) fE rfl rfl rfl<|by rw[decide_eq_true rfl];rfl)) rfl) λ_=>qU (wL (x:=.str "great") (y:=.str "great") (pdv 8) (kA (i:=1) (ds:=[.bl false,.str "great"]) (PEd.bor (PEd.val<|pdL (ds:=[.bl false,.str "great"]) (aA (PEd.cast (vI (d:=.str "great") (pdv 7) fD) rfl)<|aA fE aE))) (PEd.ic (qT (k:=true) rfl zn (aCd (x:=.str "great") (y:=.str "great") (pdv 7) fE rfl rfl rfl<|decide_eq_true rfl)) rfl) (by decide) rfl λ_ _=>rfl) rfl rfl rfl<|by rw[decide_eq_true rfl];rfl))<|mid _
 obtain⟨hp,eS⟩:=aLN<|gI ns 0;have p4:=aOX<|gI ns 0;refine aG<|gG (d:=cP (aKT<|gI ns 0)) 1 (kA (i:=gI ns 0%8) (PEd.bor (PEd.val<|pdL (ds:=[cP (1,3),cP (3,1),cP (2,2),cP (2,2),cP (1,4),cP (4,1),cP (1,3),cP (2,2)]) ?_)) (dJ gE (draw 0 (by decide) rfl) bS<|by decide) (dO _<|by decide) eS λ_ _=>rfl) ?_
 ·repeat' (first|exact aE|refine aA (pdT (ds:=[.int _,.int _]) (aA bS<|aA bS aE)) ?_)
 generalize aKT (gI ns 0)=p at hp p4;obtain⟨l8,l0,sst,snd⟩:=aCh hp ns 30;obtain⟨Sd,Nd,Ld⟩:=aPk hp (l0<|by decide) l8 sst snd;clear l8 l0 sst snd eS;have nd:=nd;refine aG<|rE (ds:=(dzL<|dzN p ns 30).map skD) 2 (pdc (ds:=[.scr ns,cP p]) GE hr (aA (pdv 0)<|aA (pdv 1) aE) ⟨ns,p,hp,rfl,rfl⟩) λl2=>iC 2 rfl ?_;clear Ld;generalize dzL (dzN p ns 30)=L at Sd Nd;have m0:=Sd.pos;have m8:=Sd.le
 have eM:(L.take (L.length-1)++L.take 1).length=L.length:=by rw[aP,cE,cE];lia
 have ec:DL.cutD (L.map skD) none (some (-1))=(L.take<|L.length-1).map skD:=by rw[aCD,aC,fR]
 have ec1:DL.cutD (L.map skD) none (some 1)=(L.take 1).map skD:=by rw[aJd,fR]
 refine aG<|gG (d:=.tup (bA<|rwE (gI ns 1) (L.take (L.length-1)++L.take 1).length 2)) 3 (pdc (ds:=[.int<|gI ns 1,lK<|L.take (L.length-1)++L.take 1,.int ((2:Nat):Int)]) GR hr (aA (draw 1 (by decide) rfl) (aA (PEd.val (PEd.cast (wK (d1:=(L.take<|L.length-1).map skD) (d2:=(L.take 1).map skD) (PEd.bor<|PEd.val (PEd.cast (aEJ (ol:=none) (oh:=some (-1)) (PEd.bor<|pdv 2) trivial<|aEO bS)<|by rw[ec])) (PEd.bor<|PEd.val (PEd.cast (aEJ (ol:=none) (oh:=some 1) (PEd.bor<|pdv 2) trivial bS)<|by rw[ec1]))<|by rw[aC,aC,cE,cE];lia)<|by rw[<-aX]))<|aA bS aE)) ⟨_,_,2,by rw[eM];exact m0,by decide,rfl,rfl⟩) ?_;rw[eM];have h6:=(aPa (gI ns 1) 2 m0).2;generalize rwE (gI ns 1) L.length 2=row at h6;clear eM ec ec1;have q0:=dO (gI ns 2) (show(((row.length+1:Nat):Int))≠0 by lia);have q1:=dE (gI ns 2) (show(0:Int)<((row.length+1:Nat):Int) by lia);obtain⟨k,ek⟩:∃k:Nat,gI ns 2%((row.length+1:Nat):Int)=(k:Int):=⟨(gI ns 2%((row.length+1:Nat):Int)).toNat,by lia⟩;have el:(bA row).length=row.length:=aC _;refine aG<|gG (d:=.int (k:Int)) 4 (PEd.ic (dJ gE (draw 2 (by decide) rfl) (PEd.ic (fO fW (sE rfl zh<|pdv 3) bS) (show((bA row).length:Int)+1=((row.length+1:Nat):Int) by rw[el];push_cast;rfl))<|by lia) ek) ?_
 have er:bA (row.take k)++[D.int (((L.length-1:Nat)):Int)]++bA (row.drop k)=bA (row.take k++[L.length-1]++row.drop k):=by unfold bA;rw[aX,aX];rfl
 have lr:(row.take k++[L.length-1]++row.drop k).length=row.length+1:=by rw[aP,aP,cE,dY];simp;lia
 have l1:(bA<|row.take k).length<=6:=by unfold bA;rw[aC,cE];lia
 have l2':(bA<|row.drop k).length<=6:=by unfold bA;rw[aC,dY];lia
 refine aG<|gG (d:=.tup (bA<|row.take k++[L.length-1]++row.drop k)) 3 (PEd.cast (kS (d1:=bA (row.take k)++[D.int (((L.length-1:Nat)):Int)]) (d2:=bA<|row.drop k) (kS (d1:=bA<|row.take k) (d2:=[D.int (((L.length-1:Nat)):Int)]) (PEd.cast (uH (k:=k) (pdv 3)<|pdv 4)<|by unfold bA;rw[fR]) (pdT (ds:=[D.int (((L.length-1:Nat)):Int)])<|aA (PEd.ic (fO qB (mS rfl zh (PEd.bor<|pdv 2)) bS)<|by rw[aC];lia) aE)<|by show _+1<=10000;lia) (PEd.cast (qD (k:=k) (pdv 3)<|pdv 4)<|by unfold bA;rw[gZ])<|by rw[aP];show _+1+_<=10000;lia)<|by rw[er]) ?_;generalize row.take k++[L.length-1]++row.drop k=rw2 at lr;have n0:(0:Int)<(L.length:Int):=by lia
 refine aG<|gG (d:=.tup (bA<|rw2.map λt=>t%L.length)) 3 (kK rfl zf<|PEd.bor (PEd.val<|PEd.cast (pdC (ds:=bA rw2) (N:=["_law_number","_law_stock"]) (M:=nl26) (cap:=[none,some 2]) (sc:=aN nN) (Tb:=λd=>[.val d,.val<|lK L]) (λ_=>true) (λd=>match d with | .int i=>D.int (i%(L.length:Int))|_=>.non) (mR<|pdv 3) (by unfold bA;rw[aC];lia) (λcl C fp s H d hd=>.inl ⟨rfl,rfl⟩) λcl C fp s H d hd _=>?_) (?_:_=R.own (bA<|rw2.map λt=>t%L.length)))) ?_
 ·obtain⟨z,_,rfl⟩:=aS.mp hd;exact dJ gE (pdv 0) (PEd.ic (mS rfl zh (PEd.bor<|pdv 1))<|by rw[aC]) n0
 ·rw[cR.mpr λ_ _=>rfl];unfold bA;rw[aY,aY];rfl
 have ok:=aRb m0 rw2;have ln:(rw2.map λt=>t%L.length).length<=3:=by rw[aC];lia
 clear lr er l1 l2' el;generalize (rw2.map λt=>t%L.length)=rw3 at ok ln
 have pb:S45.prQ (prK L) rw3<=30:=by have:=(aEl Sd ok).2;lia
 obtain⟨h1,h2,h3,h4,h5⟩:=aHq p hp;have e2:p.2=((p.2.toNat:Nat):Int):=by lia
 have go:∀o,zY p o->PSd ((gO CX0 P w K mg base nl26 "law" (aN nN) f cdv A outer s H E).nox) [.val<|.scr ns,.val<|cP p,.val<|lK L,.val (.tup<|bA rw3),.val<|.int (k:Int),.val<|lkD o,.un,.un,.un,.un,.un] ((cF nN).drop 8) (rtE (R.val<|.bl true)):=λo ho=>aKG (sd':=[.val<|.scr ns,.val<|cP p,.val<|lK L,.val (.tup<|bA rw3),.un,.val<|lkD o,.un,.un,.un,.un,.un]) ⟨ja,ja,ja,ja,jb,ja,ja,ja,ja,ja,ja,trivial⟩<|fin p L rw3 o ⟨⟨hp,Sd,Nd,ok,by lia,ho⟩,pb,by decide⟩
 refine aG<|gG (d:=lkD none) 5 fD ?_;refine aG (fX (aBw (dJ gE (draw 3 (by decide) rfl) bS<|by decide) bS) (λh=>?_) λh=>eA<|go none λl hl=>by cases hl)
 have ef:((iW 0 p.2.toNat).filter λd=>match d with | .int b=>decide (gI ns 3 / 3 / ((2^b.toNat:Nat):Int)%2=1)|_=>true).map (λd=>d)=bA ((bT p.2.toNat).filter λb=>decide<|gI ns 3 / 3 / ((2^b:Nat):Int)%2=1):=by rw[aAv];unfold bA;rw[List.map_id',List.filter_map];rfl
 refine aR<|aHW (ds:=iW 0 p.2.toNat) 5 (N:=["_law_box","_law_script"]) (M:=nl26) (cap:=[none,some 0]) (sc:=aN nN) (Tb:=λd=>[.val d,.val<|.scr ns]) (λd=>match d with | .int b=>decide (gI ns 3 / 3 / ((2^b.toNat:Nat):Int)%2=1)|_=>true) (λd=>d) rfl nd rfl rfl rfl (lZ (n:=p.2.toNat) rfl zd (PEd.ic (pdx (n:=1) (d:=.int p.2)<|pdv 1) e2)<|by omega) (by rw[fV];lia) rfl (by decide+kernel) rfl (by decide+kernel) rfl (λcl C fp s H d _=>pgN 0) (λd _=>⟨jb,ja,trivial⟩) (λcl C fp s H d hd=>?_) (λcl C fp s H d hd _=>(pdv 0)) λl5=>?_
 ·obtain⟨k,hk,rfl⟩:=aS.mp hd;have hk2:=cN.mp hk;have p0:=pw0 k;have p1:(2^k:Nat)<=64:=cJ (sA (by decide) (show k<=6 by lia)) (by decide);refine .inr ⟨_,rfl,?_⟩;show PTd _ _ _ (decide<|gI ns 3 / 3 / ((2^(0+(k:Int)).toNat:Nat):Int)%2=1);rw[mQ,eD];refine aBw (dJ gE (dJ sD (dJ sD (pdc (ds:=[.scr ns,.int ((3:Nat):Int)]) GD hr (aA (pdv 1)<|aA bS aE) ⟨ns,3,rfl,by decide,rfl⟩) bS ⟨by decide,by decide⟩) (nI (n:=k) (PEd.bor (PEd.val<|pdL (ds:=[.int 1,.int 2,.int 4,.int 8]) ?_)) (pdv 0) (pow4 k<|by lia) λ_ _=>rfl) ⟨p0,?_⟩) bS<|by decide) bS
  ·repeat' (first|exact aE|refine aA bS ?_)
  ·rw[aKK];exact dD (cJ (aNP _) p1)<|by decide
 rw[ef];refine iC 5 rfl ?_
 exact go (some _) λl hl=>by cases hl;exact⟨cJ (iS _ _) (by simp;lia),λb hb=>cN.mp (gS.mp hb).1⟩
end
def aBG:Vals [V.str "not",V.str "up",V.str "down"] (#[Value.str "not" t1,Value.str "up" t2,Value.str "down" t3]:Array BD).toList:=.cons ⟨_,rfl⟩ (.cons ⟨_,rfl⟩<|.cons ⟨_,rfl⟩ .nil)
def all_mk{K:aB}(X:K.In h)(G:h.Ns AQ mg)(hfa:mg "law"=some (.ref fa)){sB:Array (Option BD)}{tmst:Tok}{CG CW CL CC CT CI:BF}{cdyg:ClassData}{CS fSI:BF}{odSh anSh:Option BF}{slSh:Array (Option BD)}{ocSh kVSh dcSh pmSh cdSh ctSh:BD}{fSB:BF}{odBu anBu:Option BF}{slBu:Array (Option BD)}{ocBu kVBu dcBu pmBu cdBu ctBu:BD}(aIc:eQ K AQ "is_cheap"=some (some<|.ref fIc)) (lIc:K.lookup fIc=some ⟨ocIc,odIc,.func<|cD "is_cheap" "is_cheap" (eP sIc) (cF sIc) (aN sIc) (.ref dTIc) kVIc dcIc pmIc anIc cdIc ctIc,slIc⟩) (cIc:eI K cdIc "is_cheap"=true) (kIc:cK K (.ref fIc)=true) (tIc:K.lookup dTIc=some ⟨tcIc,tdIc,.seq #[.none,.int 2 ttIc] tnIc,tsIc⟩) (aMc:eQ K AQ "made_cheaper"=some (some<|.ref fMc)) (lMc:K.lookup fMc=some ⟨ocMc,odMc,.func<|cD "made_cheaper" "made_cheaper" (eP sMc) (cF sMc) (aN sMc) (.ref dTMc) kVMc dcMc pmMc anMc cdMc ctMc,slMc⟩) (cMc:eI K cdMc "made_cheaper"=true) (kMc:cK K (.ref fMc)=true) (tMc:K.lookup dTMc=some ⟨tcMc,tdMc,.seq #[.none,.int 2 ttMc] tnMc,tsMc⟩) (aL:eQ K AQ "law"=some (some<|.ref fL)) (lL:K.lookup fL=some ⟨ocL,odL,.func<|cD "law" "law" (eP nN) (cF nN) (aN nN) .none kVL dcL pmL anL cdL ctL,slL⟩) (cL:eI K cdL "law"=true) (kL:cK K (.ref fL)=true) (ze:mg "isinstance"=none) (zn:mg "int"=none) (zm:mg "bool"=none) (zd:mg "range"=none) (zf:mg "tuple"=none) (zc:mg "enumerate"=none) (zh:mg "len"=none) (zo:mg "min"=none) (zj:mg "list"=none) (zk:mg "sorted"=none) (zp:mg "all"=none) (zq:mg "sum"=none) (aBY:eQ K AQ "BY_ITSELF"=some (some<|.ref fBY)) (lBY:K.lookup fBY=some ⟨.type "tuple",dB,.seq #[.str "not" t1,.str "up" t2,.str "down" t3] nB,sB⟩) (amst:eQ K AQ "MOST_TABLES"=some (some<|.int 500 tmst)) (aCG:eQ K AQ "TooGreat"=some (some<|.ref CG)) (aCW:eQ K AQ "NoWindow"=some (some<|.ref CW)) (aCL:eQ K AQ "LeastError"=some (some<|.ref CL)) (aCC:eQ K AQ "NoChange"=some (some<|.ref CC)) (aCT:eQ K AQ "NoText"=some (some<|.ref CT)) (aCI:eQ K AQ "NoWish"=some (some<|.ref CI)) (nVE:eQ K AQ "ValueError"=some none) (xgg:kH K (.ref CG) (.ref CG)=some true) (yga:cX K (.ref CG) "__class__"=some (some<|.builtin "object.__class__")) (ygm:aNw K CG (.type "object")=some true) (ygs:PySem.W.subIn K (.ref CG) (.type "BaseException")=some true) (ygg:cX K (.ref CG) "__getattribute__"=some (some<|.builtin "BaseException.__getattribute__")) (ygn:cX K (.ref CG) "__getattr__"=some none) (ygc:PySem.W.clsIn K CG=some cdyg) (ygx:nQ K CG [.type "ValueError",.type "Exception",.type "BaseException",.type "object"] "ValueError.__new__"=true) (ygl:kH K (.ref CG) (.ref CL)=some true) (ygv:cU K (.ref CG) (.type "ValueError")=some true) (yg0:cU K (.ref CG) (.ref CC)=some false) (yg1:cU K (.ref CG) (.ref CT)=some false) (yg2:cU K (.ref CG) (.ref CI)=some false) (yg3:cU K (.ref CG) (.ref CG)=some true) (yg4:cU K (.ref CG) (.ref CW)=some false) (aSh:eQ K AQ "Shelf"=some (some<|.ref CS)) (iSh:cX K (.ref CS) "__init__"=some (some<|.ref fSI)) (fSh:pB K (.ref fSI)=true) (lSh:K.lookup fSI=some ⟨ocSh,odSh,.func<|cD "__init__" "Shelf.__init__" (eP aKQ) (cF aKQ) (aN aKQ) .none kVSh dcSh pmSh anSh cdSh ctSh,slSh⟩) (cSh:eI K cdSh "Shelf.__init__"=true) (kSh:cK K (.ref fSI)=true) (pgSh:kQ K CS Str.empty=true) (hdSh:nH K CS=true) (poSh:uJ K CS=true) (saSh:cX K (.ref CS) "__setattr__"=some (some<|.builtin "object.__setattr__")) (mkSh:wD K CS=true) (kcSh:cK K (.ref CS)=true) (nZSh:cX K (.ref CS) "size"=some none) (nSSh:cX K (.ref CS) "stock"=some none) (nMSh:cX K (.ref CS) "made"=some none) (iBu:cX K (.ref CS) "book_up_to"=some (some<|.ref fSB)) (fBu:pB K (.ref fSB)=true) (lBu:K.lookup fSB=some ⟨ocBu,odBu,.func<|cD "book_up_to" "Shelf.book_up_to" (eP aNJ) (cF aNJ) (aN aNJ) .none kVBu dcBu pmBu anBu cdBu ctBu,slBu⟩) (cBu:eI K cdBu "Shelf.book_up_to"=true) (kBu:cK K (.ref fSB)=true) (hWl:FI K mg "is_whole" aKF) (hC:FI K mg "word_count" aKv) (hEa:FI K mg "with_each_word" aEn) (hFi:FI K mg "fillings" aOn) (hNu:FI K mg "number_of" aSd) (hI:FI K mg "word_by_itself" aFT) (hA:FI K mg "word_by_another" aCX) (hN:FI K mg "new_word" aCJ) (hB:FI K mg "written_box" aCv) (hS:FI K mg "step_on" aFE) (hNo:FI K mg "numbers_of_step" aQT) (hMo:FI K mg "moves_of" aEu) (hNb:FI K mg "numbers_behind" aLe) (hPu:FI K mg "put_longer_rows" aRN) (hFo:FI K mg "found_rows" sFd) (hTf:FI K mg "table_from" aEH) (hBk:FI K mg "book_of" aLq) (hIr:FI K mg "is_row" aBp) (hR:FI K mg "row_on" aJL) (hTa:FI K mg "table_of" aED) (hBo:FI K mg "boxes_looked_at" aKe) (hWi:FI K mg "words_in" xL) (hPa:FID K mg "parts_at" aJC) (hIw:FI K mg "is_window" aKq) (hWt:FI K mg "words_told" aEQ) (hFb:FI K mg "fillings_by_words" aSp) (hWa:FID K mg "wish_at" aQM) (hMs:FI K mg "misses_at" aOF) (hDo:FI K mg "does_wish" aOk) (hFt:FI K mg "first_that_does" sFt) (hP:FI K mg "price_of" aEw) (hSa:FI K mg "steps_at" aDj) (hPf:FI K mg "piece_from" aBW) (hPo:FID K mg "piece_for" aLi) (hWc:FI K mg "with_change" aFI) (hSm:FI K mg "tells_the_same" aJW) (hMy:FI K mg "may_be_made" aRV) (hGt:FID K mg "gone_through" aJN) (hFc:FI K mg "first_change" sFc) (hCf:FI K mg "cheaper_from" sCf) (hD:FI K mg "_law_draw" aHM) (hG:FI K mg "_law_digits" aFO) (hT:FI K mg "_law_step" aKx) (hRw:FI K mg "_law_row" aLs) (hDe:FI K mg "_law_dear" aHJ) (hLp:FI K mg "_law_piece" aSs) (hLf:FI K mg "_law_first" aRU) (hWd:FI K mg "_law_word" sWd):∃fd:AN,(∀ (s:BE) (v:BD),BindsTo s fd ⟨[v],[]⟩ [("_law_script",v)])/\∀base:BH,K.In base->base.Ns AQ mg->FnOk P w K mg base CX0 13 fa fd ["_law_script"] (spC K 1 aQC):=by
 have e:=hfa.symm.trans<|dW X G aL;cases e;have byself:∃ad,mg "BY_ITSELF"=some (.ref ad)/\∀H:Hp,SqT K H ad [V.str "not",V.str "up",V.str "down"]:=⟨_,dW X G aBY,λH=>.inr ⟨_,_,_,lBY,rfl,rfl,fP rfl,aBG⟩⟩;have mst:∃t,mg "MOST_TABLES"=some (.int 500 t):=⟨_,dW X G amst⟩;have xk:aQi K mg CG:=⟨ygx,dW X G aCG,xgg⟩;have xq:aSm K mg CG CL CT CI CW CC:=⟨dW X G aCL,dW X G aCG,dW X G aCT,dW X G aCI,dW X G aCW,dW X G aCC,aEh X G nVE,⟨yga,ygm,ygs,ygg,ygn,by rw[ygc];rfl⟩,ygl,ygv,yg3,yg1,yg2,yg4,yg0⟩;have shT:pE K mg CS:=⟨⟨pgSh,hdSh,poSh,saSh⟩,nZSh,nSSh,nMSh,dW X G aSh⟩;have shM:Mk K CS fSI:=⟨mkSh,iSh,fSh,kcSh⟩;have shF:=aCb lSh cSh kSh;have mBu:aND K CS "book_up_to" fSB:=⟨iBu,fBu,kBu⟩;have shB:=aCb lBu cBu kBu;have FIc:=aAZ lIc cIc kIc tIc;have mIc:=dW X G aIc;have FMc:=aAZ lMc cMc kMc tMc;have mMc:=dW X G aMc;have FL:=aCb lL cL kL;refine⟨cD "law" "law" (eP nN) (cF nN) (aN nN) .none kVL dcL pmL anL cdL ctL,λs v=>.of_eq rfl,λbase _ _=>?_⟩;have GWl:=aIB (P:=P) (w:=w) (base:=base) hWl ze zn zm;have GC:=aIm (P:=P) (w:=w) (base:=base) hC zd;have GEa:=aMI (P:=P) (w:=w) (base:=base) hEa zd;have GFi:=aNh hFi zd GC GEa;have GNu:=aPf hNu GC;have GI:=aFX (P:=P) (w:=w) (base:=base) hI;have GA:=aDM (P:=P) (w:=w) (base:=base) hA;have GN:=aDS hN byself GC GI GA;have GB:=aDp (P:=P) (w:=w) (base:=base) hB;have GS:=aGm hS GB GN;have GNo:=aIl hNo zf GNu GS GFi;have GMo:=aDs hMo GNo;have GNb:=aGQ (P:=P) (w:=w) (base:=base) hNb zf;have GPu:=aJh hPu zc GNb;have GFo:=aDV hFo zh zo zj zk mst xk GPu;have GTf:=aDQ (P:=P) (w:=w) (base:=base) hTf zf;have GBk:=aGz hBk zh zd zf GFi GMo GFo GTf;have GIr:=aIn hIr zp zh GWl;have GR:=aJi hR GS;have GTa:=aHR hTa zf GFi GR;have GBo:=aHT (P:=P) (w:=w) (base:=base) hBo zj zd;have GWi:=aDv (P:=P) (w:=w) (base:=base) hWi;have GPa:=aIo hPa zc GBo GWi GFi;have GIw:=aDL (P:=P) (w:=w) (base:=base) hIw zh;have GWt:=aDt hWt zf GWi;have GFb:=aIf hFb zc GFi;have GWa:=aIC hWa zj zc GIw GBo GTa GWt GFb GFi;have GMs:=aGI hMs zc GFi;have GDo:=aLF hDo GMs;have GFt:=aLL hFt GDo;have GP:=aIp (P:=P) (w:=w) (base:=base) hP zq;have GSa:=aDx (P:=P) (w:=w) (base:=base) hSa;have GPf:=aDJ hPf shT mBu shB GBk GWa GSa GP GFt;have GPo:=aFW hPo shT shM shF GPf;have GWc:=aGs (P:=P) (w:=w) (base:=base) hWc;have GSm:=aIv hSm GTa GPa;have GMy:=aIq hMy GP GIr GIw GSa GWc GSm;have GGt:=aNq hGt zc GMy GWc;have GFc:=aMz hFc zd zh GPf;have GIc:=aMj (P:=P) (w:=w) (base:=base) FIc shT shM shF mIc GFc;have GCf:=aMB hCf GFc GWc;have GMc:=aNm (P:=P) (w:=w) (base:=base) FMc shT shM shF mMc GCf;have GD:=aIH (P:=P) (w:=w) (base:=base) hD zh zd;have GG:=aGF (P:=P) (w:=w) (base:=base) hG;have GT:=aIX hT GG;have GRw:=aLv hRw zf zh GG;have GDe:=aGZ hDe zd zh GD GT;have GLp:=aEb hLp xk GPo;have GLf:=aDH hLf zd zh zo GLp;have GWd:=aMG hWd ze zn xq GIc GMc;exact aPg FL zf zh ze zm zj zn zd GD GRw GDe GLf GWd GGt GIc GMc
end K85
open PySem PySem.W PyProof.Rows
namespace PySem.W.Fast
def tw10100664963136426428:=trivial
def tw10218518535255866368:=trivial
def tw10294935787666591922:=trivial
def tw10474142644495436951:=trivial
def tw10587779665128631289:=trivial
def tw10780382299105386943:=trivial
def tw1094715326919975101:=trivial
def tw1195480478511193888:=trivial
def tw12160082809576033161:=trivial
def tw12278343881383671667:=trivial
def tw13038530091324410633:=trivial
def tw13072724922533152312:=trivial
def tw13158834018633716777:=trivial
def tw13417403858141419670:=trivial
def tw13523863873964734373:=trivial
def tw13608776360807096294:=trivial
def tw13746600589536060514:=trivial
def tw13869982182344849462:=trivial
def tw14116295818954015298:=trivial
def tw14312972506333066714:=trivial
def tw14438424208242466145:=trivial
def tw14969997338583358368:=trivial
def tw15038773173289165385:=trivial
def tw15147474698344927794:=trivial
def tw15297512396806261516:=trivial
def tw15307007763076939995:=trivial
def tw15315330349233264032:=trivial
def tw15457059577886511174:=trivial
def tw16002741240534394211:=trivial
def tw1607498063494706720:=trivial
def tw16281041484088796379:=trivial
def tw168990658429262336:=trivial
def tw17096601302894043976:=trivial
def tw17134409948221628681:=trivial
def tw17418075194718573694:=trivial
def tw17656238319379179703:=trivial
def tw18261085937849149250:=trivial
def tw2159235746669816832:=trivial
def tw224369654236484223:=trivial
def tw2436549469987224350:=trivial
def tw270359857560176640:=trivial
def tw2964559418290401643:=trivial
def tw3322675985383278005:=trivial
def tw339682276916540792:=trivial
def tw3558059803923770446:=trivial
def tw3861581471787415028:=trivial
def tw3876106061743431099:=trivial
def tw4295113472340058603:=trivial
def tw4363761018460010746:=trivial
def tw4523095657992749800:=trivial
def tw4840279144916905334:=trivial
def tw4962247733844092177:=trivial
def tw5016529116625692548:=trivial
def tw5806249827215888840:=trivial
def tw6131745449487477460:=trivial
def tw6296737672288556287:=trivial
def tw6364049438126262090:=trivial
def tw646898505807882527:=trivial
def tw648230297656156941:=trivial
def tw6563913609762814993:=trivial
def tw6591885228624441239:=trivial
def tw6795484631439401707:=trivial
def tw6893409803307875874:=trivial
def tw6962876393496967962:=trivial
def tw7095925311610333206:=trivial
def tw7101534709066807054:=trivial
def tw7360638509535989944:=trivial
def tw7431672752627835755:=trivial
def tw7625065755572821482:=trivial
def tw8084555832834401466:=trivial
def tw8318880694966083449:=trivial
def tw8392343945839512494:=trivial
def tw8427818745733671812:=trivial
def tw8717124419543187799:=trivial
def tw8768225218263963736:=trivial
def tw8883372475063154618:=trivial
def tw9149128445515049636:=trivial
def tw9451601457647728114:=trivial
def tw9479373351321926259:=trivial
def tw9585093194256869261:=trivial
def tw9591718691336135693:=trivial
def tw9627657695595338902:=trivial
def tw9676935376048353697:=trivial
def tw9732490890211694921:=trivial
def tw9734592659426375537:=trivial
def tw9970732244239605550:=trivial
end PySem.W.Fast
set_option maxRecDepth 100000 in
set_option maxHeartbeats 0 in
theorem PySem.Challenge.cw_leastrow_k85_windows_too_great_holds : PySem.Challenge.rw_leastrow_k85_windows_too_great.Holds := by
 w_on;o_law;k_head;(case hw=>w_witness2)
 k_fill
 refine DL.walkD (l:=PySem.Challenge.rw_leastrow_k85_windows_too_great) (k:=13) (x:="_law_script") rfl rfl ⟨rfl,by decide,by decide,rfl⟩ (λw h Y=>PySem.W.kIn_of Y) ?F
 case F=>
  intro w mg fa h KX G hmg;refine' K85.all_mk KX G hmg ?aIc ?lIc ?cIc ?kIc ?tIc ?aMc ?lMc ?cMc ?kMc ?tMc ?aL ?lL ?cL ?kL ?ze ?zn ?zm ?zd ?zf ?zc ?zh ?zo ?zj ?zk ?zp ?zq ?aBY ?lBY ?amst ?aCG ?aCW ?aCL ?aCC ?aCT ?aCI ?nVE ?xgg ?yga ?ygm ?ygs ?ygg ?ygn ?ygc ?ygx ?ygl ?ygv ?yg0 ?yg1 ?yg2 ?yg3 ?yg4 ?aSh ?iSh ?fSh ?lSh ?cSh ?kSh ?pgSh ?hdSh ?poSh ?saSh ?mkSh ?kcSh ?nZSh ?nSSh ?nMSh ?iBu ?fBu ?lBu ?cBu ?kBu ..
  (case aIc|lIc|cIc|kIc|tIc|aMc|lMc|cMc|kMc|tMc|aL|lL|cL|kL|aBY|lBY|amst|aCG|aCW|aCL|aCC|aCT|aCI|nVE|yga|ygm|ygs|ygg|ygn|ygc|aSh|iSh|fSh|lSh|cSh|kSh|pgSh|hdSh|poSh|saSh|mkSh|kcSh|nZSh|nSSh|nMSh|iBu|fBu|lBu|cBu|kBu=>k_is);(case ze|zn|zm|zd|zf|zc|zh|zo|zj|zk|zp|zq=>refine' aEh KX G ?a;(case a=>k_is));(case xgg=>kts_exm);(case ygx=>k_exc);(case ygl=>kts_exm);(case ygv=>kit_is);(case yg0=>kit_is);(case yg1=>kit_is);(case yg2=>kit_is);(case yg3=>kit_is);(case yg4=>kit_is)
  any_goals (refine' DL.FI.mk KX G ?a ?l ?c ?k;(case a|l|c|k=>k_is))
  any_goals (refine' DL.FID.mk KX G ?a ?l ?c ?k ?t;(case a|l|c|k|t=>k_is))
